import PyProof.Rows.All
import Wide.All
import OpenK.AllK
import Wide.FinOn
import PyProof.EqAt
import PyProof.EqKinds
import PyProof.TupleCall
import KE.BitLaws
import PyProof.Draws
import PyProof.TupleIter
import PyProof.WalksMore
import PyProof.ZipIter
import PyProof.DictCompW
import PyProof.Rows.SeqMore
import PySem.Challenge.RW_dozehall_k41_moves_told_in_order
set_option Elab.async false
set_option linter.all false
set_option maxRecDepth 100000
/-! THE HAND LAYER, for ints, bools, texts, own classes, lists, tuples, dicts, comprehensions, walks over dicts, enumerate, zip, reversed, texts, calls, loops. Paste it whole ahead of your own text; what your proof does not reach may be deleted. -/
namespace L2
open PySem PySem.Spec PyProof.Rows
/-- a key: an int or a str -/
abbrev Key := Sum Int Str
def keyIs : Key → Value → Bool
  | .inl k, v => Value.isInt k v
  | .inr x, v => Value.isStrOf x v
def keyH (w : World) : Key → Int
  | .inl k => hashInt k
  | .inr x => hashStr w x
theorem keyIs_shape : ∀ {k : Key} {v : Value}, keyIs k v = true → (∃ i t, k = Sum.inl i ∧ v = Value.int i t) ∨ (∃ x t, k = Sum.inr x ∧ v = Value.str x t)
  | .inl i, v, h => by
    obtain ⟨t, e⟩ := Value.isInt_shape (k := i) (v := v) h
    exact .inl ⟨i, t, rfl, e⟩
  | .inr x, v, h => by
    obtain ⟨t, e⟩ := Value.isStrOf_shape (x := x) (v := v) h
    exact .inr ⟨x, t, rfl, e⟩
theorem keyIs_int (i : Int) (t : Tok) : keyIs (.inl i) (.int i t) = true := by simp [keyIs, Value.isInt]
theorem keyIs_str (x : Str) (t : Tok) : keyIs (.inr x) (.str x t) = true := by simp [keyIs, Value.isStrOf]
theorem key_ll (a b : Int) : decide ((Sum.inl a : Key) = Sum.inl b) = (a == b) := by
  by_cases e : a = b
  · subst e; simp
  · have h : ¬ (Sum.inl a : Key) = Sum.inl b := fun q => e (Sum.inl.inj q)
    rw [decide_eq_false h]
    exact (beq_eq_false_iff_ne.mpr e).symm
theorem key_rr (a b : Str) : decide ((Sum.inr a : Key) = Sum.inr b) = decide (a = b) := by
  by_cases e : a = b
  · subst e; simp
  · have h : ¬ (Sum.inr a : Key) = Sum.inr b := fun q => e (Sum.inr.inj q)
    rw [decide_eq_false h, decide_eq_false e]
theorem key_lr (a : Int) (b : Str) : decide ((Sum.inl a : Key) = Sum.inr b) = false := decide_eq_false (fun q => nomatch q)
theorem key_rl (a : Str) (b : Int) : decide ((Sum.inr a : Key) = Sum.inl b) = false := decide_eq_false (fun q => nomatch q)

def mixKind (prog : Program) (w : World) : PySem.KeyKind prog w Key where
  is := keyIs
  hash := keyH w
  inj := fun v a b ha hb => by
    rcases keyIs_shape ha with ⟨i, t, rfl, rfl⟩ | ⟨x, t, rfl, rfl⟩
    · rcases keyIs_shape hb with ⟨j, u, rfl, e⟩ | ⟨y, u, rfl, e⟩
      · injection e with e1 _; rw [e1]
      · exact nomatch e
    · rcases keyIs_shape hb with ⟨j, u, rfl, e⟩ | ⟨y, u, rfl, e⟩
      · exact nomatch e
      · injection e with e1 _; rw [e1]
  byValue := fun k v h => by
    rcases keyIs_shape h with ⟨i, t, rfl, rfl⟩ | ⟨x, t, rfl, rfl⟩ <;> rfl
  pyHash := fun hv h => by
    rcases keyIs_shape hv with ⟨i, t, rfl, rfl⟩ | ⟨x, t, rfl, rfl⟩
    · exact wpAny_pyHash_int h
    · exact wpAny_pyHash_str h
  eqBool := fun hu hv h => by
    rcases keyIs_shape hu with ⟨i, t, rfl, rfl⟩ | ⟨x, t, rfl, rfl⟩
    · rcases keyIs_shape hv with ⟨j, u, rfl, rfl⟩ | ⟨y, u, rfl, rfl⟩
      · rw [key_ll] at h; exact wpAny_eqBool_int h
      · rw [key_lr] at h; exact SeqAt.EqAt.int_str i t y u _ _ _ _ h
    · rcases keyIs_shape hv with ⟨j, u, rfl, rfl⟩ | ⟨y, u, rfl, rfl⟩
      · rw [key_rl] at h; exact SeqAt.EqAt.str_int x t j u _ _ _ _ h
      · rw [key_rr] at h; exact wpAny_eqBool_str h
  «strs» := fun k x t v h => by
    rcases keyIs_shape h with ⟨i, u, rfl, e⟩ | ⟨y, u, rfl, e⟩
    · exact nomatch e
    · injection e with e1 _
      subst e1
      cases v <;> rfl

theorem mixKind_int (prog : Program) (w : World) (i : Int) (t : Tok) : (mixKind prog w).is (.inl i) (.int i t) = true := keyIs_int i t
theorem mixKind_str (prog : Program) (w : World) (x : Str) (t : Tok) : (mixKind prog w).is (.inr x) (.str x t) = true := keyIs_str x t
end L2
namespace L2
open PySem PySem.Spec PyProof.Rows
/-- a value, without the heap -/
inductive V where
  | non | bl (b : Bool) | int (i : Int) | str (x : Str) | byt (b : Array UInt8) | flt (b : UInt64) | ref (a : Addr) | ty (n : String)
  deriving DecidableEq

def RelV : V → Value → Prop
  | .non, u => u = Value.none
  | .bl b, u => u = Value.bool b
  | .int i, u => ∃ t, u = Value.int i t
  | .str x, u => ∃ t, u = Value.str x t
  | .byt b, u => ∃ t, u = Value.bytes b t
  | .flt b, u => ∃ t, u = Value.float b t
  | .ref a, u => u = Value.ref a
  | .ty n, u => u = Value.type n

abbrev Vals : List V → List Value → Prop := Paired RelV
theorem Vals.length {xs : List V} {us : List Value} (r : Vals xs us) : xs.length = us.length := Paired.length r
theorem Vals.get : ∀ {xs : List V} {us : List Value} {i : Nat} {x : V}, Vals xs us → xs[i]? = some x → ∃ u, us[i]? = some u ∧ RelV x u
  | _, _, _, _, .nil, e => by simp at e
  | _, _, 0, _, .cons r _, e => by simp at e; subst e; exact ⟨_, rfl, r⟩
  | _, _, i + 1, x, .cons _ t, e => by
    obtain ⟨u, h1, h2⟩ := Vals.get (i := i) (x := x) t (by simpa using e)
    exact ⟨u, by simpa using h1, h2⟩
theorem Vals.set {x : V} {u : Value} (r : RelV x u) : ∀ {xs : List V} {us : List Value} (i : Nat), Vals xs us → Vals (xs.set i x) (us.set i u)
  | _, _, _, .nil => .nil
  | _, _, 0, .cons _ t => .cons r t
  | _, _, i + 1, .cons q t => .cons q (Vals.set r i t)
theorem Vals.append : ∀ {xs ys : List V} {us ws : List Value}, Vals xs us → Vals ys ws → Vals (xs ++ ys) (us ++ ws)
  | _, _, _, _, .nil, s => s
  | _, _, _, _, .cons r t, s => .cons r (Vals.append t s)
theorem Vals.take : ∀ {xs : List V} {us : List Value} (n : Nat), Vals xs us → Vals (xs.take n) (us.take n)
  | _, _, 0, _ => .nil
  | _, _, _ + 1, .nil => .nil
  | _, _, n + 1, .cons r t => .cons r (Vals.take n t)
theorem Vals.drop : ∀ {xs : List V} {us : List Value} (n : Nat), Vals xs us → Vals (xs.drop n) (us.drop n)
  | _, _, 0, r => r
  | _, _, _ + 1, .nil => .nil
  | _, _, n + 1, .cons _ t => Vals.drop n t
def RelO : Option V → Option Value → Prop
  | some v, some u => RelV v u
  | none, none => True
  | _, _ => False
def KV {κ : Type} : List (κ × V) → List (κ × Value) → Prop := Paired fun (p : κ × V) (q : κ × Value) => p.1 = q.1 ∧ RelV p.2 q.2

/-- a key of a dict (00_mix): an int or a text -/
def kV : Key → V
  | .inl i => .int i
  | .inr x => .str x

/-- what stands at a tracked address -/
inductive HO where
  /-- a list -/
  | lst (xs : List V)
  /-- a tuple (never changes) -/
  | tup (xs : List V)
  /-- a dict whose keys are ints and texts; one whose keys are tuples of ints and texts (the empty one is both) -/
  | dK (kvs : List (Key × V)) | dT (kvs : List (List Key × V))
  /-- a set of ints: its members, its size -/
  | set (S : Int → Bool) (n : Nat)
  /-- an instance of the class at C, its dict at dx, its attributes -/
  | ins (C dx : Addr) (fs : List (Str × V))
  /-- the dict of the instance at x -/
  | own (x : Addr)
  /-- the dict of an exception -/
  | xd (fs : List (Str × V))
  /-- a bound method, f of x -/
  | met (f x : Addr)
  /-- a range object lo, lo + 1, .. below hi -/
  | rng (lo hi : Int)
  /-- a thing that is known to the object (the script; a dict while a loop walks it): read, never written while it is so -/
  | frz (o : Obj) (u : HO)
  /-- a code object's table -/
  | tbl (ps : Array Value)
  /-- any other thing, by what is true of its one object (a def of one's own: SetO a S n := HO.ext fun h => ..) -/
  | ext (φ : Heap → Prop)

abbrev Hp := Addr → Option HO
def upd (H : Hp) (a : Addr) (o : HO) : Hp := fun b => if b = a then some o else H b
theorem upd_same {H : Hp} {a : Addr} {o : HO} : upd H a o a = some o := by unfold upd; rw [if_pos rfl]
theorem upd_ne {H : Hp} {a b : Addr} {o : HO} (h : b ≠ a) : upd H a o b = H b := by unfold upd; rw [if_neg h]
theorem upd_upd {H : Hp} {a : Addr} {o u : HO} : upd (upd H a o) a u = upd H a u := by
  funext b; unfold upd; split <;> rfl
/-- two objects of different content stand apart -/
theorem ne_of {H : Hp} {a b : Addr} {o u : HO} (h : H a = some o) (h' : H b = some u) (d : o ≠ u) : a ≠ b := by
  intro e; subst e; rw [h] at h'; exact d (Option.some.inj h')
theorem ne_of_none {H : Hp} {a b : Addr} {o : HO} (h : H a = some o) (h' : H b = none) : a ≠ b := by
  intro e; subst e; rw [h] at h'; cases h'

section
variable (P : Program) (w : World)
def ObjOk (H : Hp) (h : Heap) (a : Addr) : HO → Prop
  | .lst xs => xs.length ≤ sizeLine ∧ ∃ (its : List Value) (n : Nat), Vals xs its ∧ h.get? a = some { cls := .type "list", data := .seq its.toArray n }
  | .tup xs => xs.length ≤ sizeLine ∧ ∃ its : List Value, Vals xs its ∧ IsTup h a its.toArray
  | .dK kvs => kvs.length ≤ sizeLine ∧ (a == sysModules) = false ∧ ∃ vs, KV kvs vs ∧ h.DictOf (mixKind P w) a vs
  | .dT kvs => kvs.length ≤ sizeLine ∧ (a == sysModules) = false ∧ ∃ xs : List (List Key × Addr × Value),
      Paired (fun (p : List Key × V) (q : List Key × Addr × Value) => p.1 = q.1 ∧ H q.2.1 = some (.tup (p.1.map kV)) ∧ RelV p.2 q.2.2) kvs xs ∧
      ∃ o es ep, h.get? a = some o ∧ o.ExactDict ∧ o.data = .dict es ep ∧ es.toList = xs.map (entryOfKey (tupleKind (mixKind P w))) ∧ (xs.map (·.1)).Nodup
  | .set S n => h.SetOf (intKind P w) a S n
  | .ins C dx fs => H dx = some (.own a) ∧ fs.length ≤ 1000 ∧ dx ≠ a ∧ h.get? a = some (PySem.W.instObj C dx) ∧
      ∃ mA, h.Ns1 dx mA ∧ (∀ f, RelO (fs.lookup f) (mA f)) ∧ PySem.Within mA (fs.map (·.1))
  | .own _ => ∃ o, h.get? a = some o
  | .xd fs => ∃ mA, h.Ns1 a mA ∧ ∀ f, RelO (fs.lookup f) (mA f)
  | .rng lo hi => ∃ t u v, h.get? a = some { cls := .type "range", data := .fields #[.int lo t, .int hi u, .int 1 v] }
  | .frz o u => h.get? a = some o ∧ ObjOk H h a u
  | .tbl ps => h.get? a = some { cls := .none, data := .fields ps }
  | .met f x => h.get? a = some (PySem.W.methodObj (.ref f) (.ref x))
  | .ext φ => φ h ∧ (∃ o, h.get? a = some o) ∧ ∀ h1 h2 : Heap, φ h1 → (∀ o, h1.get? a = some o → h2.get? a = some o) → φ h2
/-- the abstract heap is held -/
def HOk (H : Hp) (h : Heap) : Prop := ∀ a o, H a = some o → ObjOk P w H h a o
end
section
variable {P : Program} {w : World} {H H' : Hp} {h h' : Heap} {a : Addr} {o : HO}
theorem ObjOk.lt (x : ObjOk P w H h a o) : a < h.objs.size := by
  cases o with
  | lst xs => obtain ⟨_, _, _, _, e⟩ := x; exact Heap.lt_size e
  | tup xs => obtain ⟨_, _, _, p⟩ := x; exact p.lt
  | dK kvs => obtain ⟨_, _, _, _, o, _, _, e, _⟩ := x; exact Heap.lt_size e
  | dT kvs => obtain ⟨_, _, _, _, o, _, _, e, _⟩ := x; exact Heap.lt_size e
  | set S n => obtain ⟨o, _, _, _, e, _⟩ := x; exact Heap.lt_size e
  | ins C dx fs => obtain ⟨_, _, _, e, _⟩ := x; exact Heap.lt_size e
  | own y => obtain ⟨_, e⟩ := x; exact Heap.lt_size e
  | xd fs => obtain ⟨_, ⟨_, _, _, e, _⟩, _⟩ := x; exact Heap.lt_size e
  | rng lo hi => obtain ⟨_, _, _, e⟩ := x; exact Heap.lt_size e
  | frz ob u => obtain ⟨e, _⟩ := x; exact Heap.lt_size e
  | tbl ps => exact Heap.lt_size (show h.get? a = some _ from x)
  | met f y => exact Heap.lt_size (show h.get? a = some _ from x)
  | ext φ => obtain ⟨_, ⟨_, e⟩, _⟩ := x; exact Heap.lt_size e
theorem Paired.mapP {α β : Type} {F G : α → β → Prop} : ∀ {l₁ : List α} {l₂ : List β}, Paired F l₁ l₂ → (∀ a b, F a b → G a b) → Paired G l₁ l₂
  | _, _, .nil, _ => .nil
  | _, _, .cons r t, f => .cons (f _ _ r) (Paired.mapP t f)
/-- what an object's description leans on: its own object, its own dict, the tuples -/
theorem ObjOk.stay (x : ObjOk P w H h a o) (k : ∀ b u, (b = a ∨ H b = some (.own a)) → h.get? b = some u → h'.get? b = some u)
    (ho : ∀ b, H b = some (.own a) → H' b = some (.own a)) (ht : ∀ b xs, H b = some (.tup xs) → H' b = some (.tup xs)) : ObjOk P w H' h' a o := by
  induction o with
  | lst xs => obtain ⟨z, its, n, r, e⟩ := x; exact ⟨z, its, n, r, k _ _ (.inl rfl) e⟩
  | tup xs => obtain ⟨z, its, r, ob, e, c⟩ := x; exact ⟨z, its, r, ob, k _ _ (.inl rfl) e, c⟩
  | dK kvs => obtain ⟨z, y, vs, r, ob, es, ep, e, c⟩ := x; exact ⟨z, y, vs, r, ob, es, ep, k _ _ (.inl rfl) e, c⟩
  | dT kvs =>
    obtain ⟨z, y, xs, r, ob, es, ep, e, c⟩ := x
    exact ⟨z, y, xs, Paired.mapP r fun p q z => ⟨z.1, ht _ _ z.2.1, z.2.2⟩, ob, es, ep, k _ _ (.inl rfl) e, c⟩
  | set S n => obtain ⟨ob, es, ep, t, e, c⟩ := x; exact ⟨ob, es, ep, t, k _ _ (.inl rfl) e, c⟩
  | ins C dx fs =>
    obtain ⟨d, z, ne, e, mA, ⟨od, es, ep, e2, c⟩, r⟩ := x
    exact ⟨ho _ d, z, ne, k _ _ (.inl rfl) e, mA, ⟨od, es, ep, k _ _ (.inr d) e2, c⟩, r⟩
  | own y => obtain ⟨ob, e⟩ := x; exact ⟨ob, k _ _ (.inl rfl) e⟩
  | xd fs => obtain ⟨mA, ⟨od, es, ep, e, c⟩, r⟩ := x; exact ⟨mA, ⟨od, es, ep, k _ _ (.inl rfl) e, c⟩, r⟩
  | rng lo hi => obtain ⟨t, u, v, e⟩ := x; exact ⟨t, u, v, k _ _ (.inl rfl) e⟩
  | frz ob u ih => obtain ⟨e, q⟩ := x; exact ⟨k _ _ (.inl rfl) e, ih q⟩
  | tbl ps =>
    have e : h.get? a = some { cls := .none, data := .fields ps } := x
    show h'.get? a = some { cls := .none, data := .fields ps }
    exact k a _ (.inl rfl) e
  | met f y =>
    have e : h.get? a = some (PySem.W.methodObj (.ref f) (.ref y)) := x
    show h'.get? a = some (PySem.W.methodObj (.ref f) (.ref y))
    exact k a _ (.inl rfl) e
  | ext φ => obtain ⟨p, ⟨o, e⟩, st⟩ := x; exact ⟨st _ _ p fun o q => k _ _ (.inl rfl) q, ⟨o, k _ _ (.inl rfl) e⟩, st⟩
theorem HOk.lt (x : HOk P w H h) (e : H a = some o) : a < h.objs.size := (x a o e).lt
theorem HOk.fresh (x : HOk P w H h) (e : h.objs.size ≤ a) : H a = none := by
  cases q : H a with
  | none => rfl
  | some u => exact absurd (Nat.lt_of_lt_of_le (x.lt q) e) (Nat.lt_irrefl _)
/-- every object of the heap is kept -/
theorem HOk.kept (x : HOk P w H h) (k : ∀ b u, h.get? b = some u → h'.get? b = some u) : HOk P w H h' := fun a o e =>
  (x a o e).stay (fun b u _ q => k b u q) (fun _ q => q) fun _ _ q => q
/-- a new object is laid and tracked -/
theorem HOk.laid (x : HOk P w H h) (k : ∀ b u, h.get? b = some u → h'.get? b = some u) (hp : h.objs.size ≤ a) (new : ObjOk P w (upd H a o) h' a o) : HOk P w (upd H a o) h' := fun b u e => by
  have hn := x.fresh hp
  by_cases hb : b = a
  · subst hb; rw [upd_same] at e; cases e; exact new
  · rw [upd_ne hb] at e
    exact (x b u e).stay (fun c v _ q => k c v q) (fun c q => by rw [upd_ne (ne_of_none q hn)]; exact q) fun c xs q => by rw [upd_ne (ne_of_none q hn)]; exact q
end
/-- what may be read as u: it is u, or a known u -/
def Rd (H : Hp) (a : Addr) (u : HO) : Prop := H a = some u ∨ ∃ o, H a = some (.frz o u)
theorem Rd.ok {P : Program} {w : World} {H : Hp} {h : Heap} {a : Addr} {u : HO} (r : Rd H a u) (x : HOk P w H h) : ObjOk P w H h a u := by
  rcases r with r | ⟨o, r⟩
  · exact x a u r
  · obtain ⟨_, q⟩ := x a _ r
    exact q
/-- what may be written -/
def Mut : Option HO → Prop
  | some (.lst _) => True
  | some (.dK _) => True
  | some (.dT _) => True
  | some (.set _ _) => True
  | some (.ins _ _ _) => True
  | some (.ext _) => True
  | _ => False
section
variable {P : Program} {w : World} {H : Hp} {h h' : Heap} {x e : Addr} {o' : HO}
/-- the object at e is changed: x itself, or the dict of the instance x -/
theorem HOk.write (ok : HOk P w H h) (mu : Mut (H x)) (he : e = x ∨ H e = some (.own x)) (k : ∀ b u, b ≠ e → h.get? b = some u → h'.get? b = some u) (heo : ∃ u, h'.get? e = some u)
    (new : ObjOk P w (upd H x o') h' x o') : HOk P w (upd H x o') h' := fun b u q => by
  have nown : ∀ c y, H c = some (.own y) → c ≠ x := fun c y r z => by subst z; rw [r] at mu; exact mu
  have ntup : ∀ c xs, H c = some (.tup xs) → c ≠ x := fun c xs r z => by subst z; rw [r] at mu; exact mu
  by_cases hb : b = x
  · subst hb; rw [upd_same] at q; cases q; exact new
  · rw [upd_ne hb] at q
    by_cases hbe : b = e
    · have q' : H b = some (.own x) := by
        rcases he with z | z
        · exact absurd (hbe.trans z) hb
        · rw [hbe]; exact z
      rw [q] at q'; cases q'
      obtain ⟨v, hv⟩ := heo
      exact ⟨v, by rw [hbe]; exact hv⟩
    · refine (ok b u q).stay (fun c v hc r => k c v ?_ r) (fun c r => by rw [upd_ne (nown c b r)]; exact r) fun c xs r => by rw [upd_ne (ntup c xs r)]; exact r
      rcases hc with rfl | hc
      · exact hbe
      · rintro rfl
        rcases he with z | z
        · exact nown c b hc z
        · rw [hc] at z; cases z; exact hb rfl
end
/-! ### kept unless tracked; of the frames at fs (the callers') the slots may change (an exception that passes writes there); of the records at ex (iterators) nothing is said -/
structure Un (fs ex : List Addr) (H H' : Hp) (h h' : Heap) : Prop where
  keep : ∀ b o, h.get? b = some o → H b = none → b ∉ fs → b ∉ ex → h'.get? b = some o
  slot : ∀ b o, h.get? b = some o → H b = none → b ∈ fs → b ∉ ex → ∃ sl, h'.get? b = some { o with slots := sl }
  free : ∀ b o, h.get? b = some o → H b = none → b ∉ ex → H' b = none
  there : ∀ b o, h.get? b = some o → b ∉ ex → ∃ o', h'.get? b = some o'
  tups : ∀ b xs, H b = some (.tup xs) → H' b = some (.tup xs)
  frzs : ∀ b o u, H b = some (.frz o u) → H' b = some (.frz o u)
  tbls : ∀ b ps, H b = some (.tbl ps) → ∃ more, H' b = some (.tbl (ps ++ more))
section
variable {fs fs' ex ex' : List Addr} {H H1 H2 : Hp} {h h1 h2 h' : Heap} {a x e : Addr} {o : HO}
theorem Un.any (u : Un fs ex H H1 h h1) {b : Addr} {ob : Obj} (q : h.get? b = some ob) (n : H b = none) (hx : b ∉ ex) : ∃ sl, h1.get? b = some { ob with slots := sl } := by
  by_cases hb : b ∈ fs
  · exact u.slot b ob q n hb hx
  · exact ⟨ob.slots, u.keep b ob q n hb hx⟩
theorem Un.kept (k : ∀ b u, h.get? b = some u → h'.get? b = some u) : Un fs ex H H h h' :=
  ⟨fun b ob q _ _ _ => k b ob q, fun b ob q _ _ _ => ⟨ob.slots, k b ob q⟩, fun _ _ _ n _ => n, fun b ob q _ => ⟨ob, k b ob q⟩, fun _ _ q => q, fun _ _ _ q => q, fun _ ps q => ⟨#[], by rw [q]; simp⟩⟩
theorem Un.refl : Un fs ex H H h h := Un.kept fun _ _ q => q
theorem Un.laid (k : ∀ b u, h.get? b = some u → h'.get? b = some u) (hp : h.objs.size ≤ a) (hn : H a = none) : Un fs ex H (upd H a o) h h' where
  keep := fun b u q _ _ _ => k b u q
  slot := fun b u q _ _ _ => ⟨u.slots, k b u q⟩
  free := fun b u q n _ => by rw [upd_ne (Nat.ne_of_lt (Nat.lt_of_lt_of_le (Heap.lt_size q) hp))]; exact n
  there := fun b u q _ => ⟨u, k b u q⟩
  tups := fun b xs q => by rw [upd_ne (ne_of_none q hn)]; exact q
  frzs := fun b u xs q => by rw [upd_ne (ne_of_none q hn)]; exact q
  tbls := fun b ps q => ⟨#[], by rw [upd_ne (ne_of_none q hn), q]; simp⟩
theorem Un.write (mu : Mut (H x)) (he : e = x ∨ H e = some (.own x)) (k : ∀ b u, b ≠ e → h.get? b = some u → h'.get? b = some u) (heo : ∃ u, h'.get? e = some u) : Un fs ex H (upd H x o) h h' := by
  have hx : ∀ b, H b = none → b ≠ x := fun b n z => by subst z; rw [n] at mu; exact mu
  have hb : ∀ b, H b = none → b ≠ e := fun b n z => by
    subst z
    rcases he with r | r
    · exact hx b n r
    · rw [n] at r; cases r
  have hm : ∀ b u, H b = some u → ¬ Mut (some u) → b ≠ x := fun b u q nm z => by subst z; rw [q] at mu; exact nm mu
  refine ⟨fun b u q n _ _ => k b u (hb b n) q, fun b u q n _ _ => ⟨u.slots, k b u (hb b n) q⟩, fun b u q n _ => by rw [upd_ne (hx b n)]; exact n, fun b u q _ => ?_,
    fun b xs q => by rw [upd_ne (hm b _ q fun z => z)]; exact q, fun b u xs q => by rw [upd_ne (hm b _ q fun z => z)]; exact q, fun b ps q => ⟨#[], by rw [upd_ne (hm b _ q fun z => z), q]; simp⟩⟩
  by_cases hbe : b = e
  · subst hbe; exact heo
  · exact ⟨u, k b u hbe q⟩
end
/-! ### the heap without what is tracked -/
def trk (h : Heap) (H : Hp) : List Addr := (List.range h.objs.size).filter fun a => (H a).isSome
def hidT (h : Heap) (H : Hp) : Heap := PySem.W.hideAll h (trk h H)
theorem hidT_size (h : Heap) (H : Hp) : (hidT h H).objs.size = h.objs.size := PySem.W.hideAll_size _ _
theorem hidT_get {h : Heap} {H : Hp} {b : Addr} {o : Obj} (e : h.get? b = some o) (n : H b = none) : (hidT h H).get? b = some o :=
  PySem.W.hideAll_get _ e fun hm => by
    have q : (H b).isSome = true := (List.mem_filter.mp hm).2
    rw [n] at q; simp at q
theorem of_hidT {h : Heap} {H : Hp} {b : Addr} {o : Obj} (e : (hidT h H).get? b = some o) : h.get? b = some o ∧ H b = none := by
  have e' : h.get? b = some o := PySem.W.of_hideAll (trk h H) e
  refine ⟨e', ?_⟩
  cases q : H b with
  | none => rfl
  | some x =>
    have hm : b ∈ trk h H := List.mem_filter.mpr ⟨List.mem_range.mpr (Heap.lt_size e'), by simp [q]⟩
    have z : (hidT h H).get? b = none := PySem.W.hideAll_none (trk h H) hm
    rw [z] at e; cases e

/-! ### OpenK's ledger, filled with every new object but one -/
end L2
namespace L2
open PySem PySem.Spec PyProof.Rows
/-- the module's facts, over the base: the heap at the law's entry without what is tracked there -/
structure Mod (K : PySem.W.Frag) (mg : Str → Option Value) (base : Heap) : Prop where
  kin : K.In base
  glob : base.Ns mainGlobals mg
  blt : ∃ mb, base.Ns builtinsNs mb ∧ ∀ x : Str, x ≠ "__name__" → mb x = bootBuiltins x
  nolimit : base.NoLimit

/-- the context: a def's body (or a comprehension's block) running. base: fixed through the whole law; s₀, H₀: the entry; outer: the frames whose slots others may change (a def's callers); stack: all frames that run;
   ex: iterators that were made ahead of the entry and are walked here (a comprehension's); fn: the names whose cells were made at the entry (a def: all; a comprehension's block: its own); calm: not within an except suite; pn: pins that every state bears; xe: what is wanted of an exception that leaves the code -/
structure Cx where
  prog : Program
  w : World
  K : PySem.W.Frag
  mg : Str → Option Value
  base : Heap
  A : Around
  N : List Str
  s_0 : Shared
  H_0 : Hp
  env : Env
  outer : List Env
  stack : List Env
  ex : List Addr
  fn : Str → Bool
  calm : Bool
  pn : List (Addr × Obj)
  xe : Value → Shared → Prop
/-- the callers' frames -/
def frs (l : List Env) : List Addr := l.filterMap (·.frame)
abbrev Cx.fs (X : Cx) : List Addr := frs X.outer

def Vis (sc : Scope) (x : Str) : Prop := sc.names.lookup x = some .local ∨ sc.names.lookup x = some .cell ∨ sc.names.lookup x = some .free
def Loc (sc : Scope) (x : Str) : Prop := sc.names.lookup x = some .local ∨ sc.names.lookup x = some .cell
def Look (env : Env) (h : Heap) (m : Str → Option Value) (x : Str) (u : Value) : Prop :=
  (env.kindOf x = some .local ∧ m x = some u) ∨ ((env.kindOf x = some .cell ∨ env.kindOf x = some .free) ∧ ∃ c, env.cells.lookup x = some c ∧ h.IsCell c (some u))

structure Cx.Ok (X : Cx) : Prop where
  mod : Mod X.K X.mg X.base
  kind : X.env.scope.kind = .function
  glob : X.env.globals = mainGlobals
  blt : X.env.builtins = builtinsNs
  above : X.s_0.heap.objs.size ≤ X.env.locals
  inj : ∀ x y c, X.env.cells.lookup x = some c → X.env.cells.lookup y = some c → x = y
  has : ∀ x, (X.env.kindOf x = some .cell ∨ X.env.kindOf x = some .free) → ∃ c, X.env.cells.lookup x = some c
  cab : ∀ x c, X.fn x = true → X.env.cells.lookup x = some c → X.s_0.heap.objs.size ≤ c
  hd : X.calm = true → X.A.handled = none
  frames : X.A.frames = some X.stack
  stk : X.stack = X.outer ∨ (X.stack = X.env :: X.outer ∧ X.env.frame = some X.env.locals)
  exf : ∀ b ∈ X.ex, b ≠ X.env.locals ∧ ∀ x c, X.env.cells.lookup x = some c → c ≠ b
  bs : ∀ b o, X.base.get? b = some o → X.s_0.heap.get? b = some o ∧ X.H_0 b = none
  bsz : X.base.objs.size ≤ X.s_0.heap.objs.size
  noex : ∀ b o, X.base.get? b = some o → b ∉ X.ex
  exfs : ∀ b ∈ X.ex, b ∉ X.fs
  funs : X.s_0.heap.FunFrames X.base X.outer
  frf : ∀ b ∈ X.fs, X.H_0 b = none

structure Inv (X : Cx) (pins : List (Addr × Obj)) (σ : List (Option V)) (H : Hp) (s : Shared) : Prop where
  ok : X.Ok
  os : s.os = X.s_0.os
  bare : AllBare s.gens
  base : Un X.fs X.ex X.H_0 H X.s_0.heap s.heap
  loc : ∃ m, s.heap.Ns X.env.locals m ∧ ∀ (i : Nat) (x : Str) (v : V), X.N[i]? = some x → σ[i]? = some (some v) → Vis X.env.scope x → ∃ u, RelV v u ∧ Look X.env s.heap m x u
  cell : ∀ x c, X.env.cells.lookup x = some c → ∃ v, s.heap.IsCell c v
  free : H X.env.locals = none
  freeC : ∀ x c, X.env.cells.lookup x = some c → H c = none
  pin : ∀ p ∈ X.pn ++ pins, s.heap.get? p.1 = some p.2 ∧ H p.1 = none ∧ p.1 ≠ X.env.locals ∧ p.1 ∉ X.fs ∧ ∀ v, p.2.data ≠ .cell v
  hok : HOk X.prog X.w H s.heap
  len : σ.length = X.N.length

section
variable {X : Cx} {pins : List (Addr × Obj)} {σ : List (Option V)} {H H' : Hp} {s : Shared} {h' : Heap}
theorem Cx.Ok.nofr (ok : X.Ok) {b : Addr} {o : Obj} (e : X.base.get? b = some o) : b ∉ X.fs := fun hb => by
  have := (ok.funs.mem hb).1
  rw [e] at this; cases this
theorem Inv.bs (I : Inv X pins σ H s) : ∀ b o, X.base.get? b = some o → s.heap.get? b = some o ∧ H b = none := fun b o e =>
  ⟨I.base.keep b o (I.ok.bs b o e).1 (I.ok.bs b o e).2 (I.ok.nofr e) (I.ok.noex b o e), I.base.free b o (I.ok.bs b o e).1 (I.ok.bs b o e).2 (I.ok.noex b o e)⟩
theorem Inv.bk (I : Inv X pins σ H s) : ∀ b o, X.base.get? b = some o → s.heap.get? b = some o := fun b o e => (I.bs b o e).1
theorem Inv.mod (I : Inv X pins σ H s) : Mod X.K X.mg X.base := I.ok.mod
theorem Inv.kIn (I : Inv X pins σ H s) : X.K.In s.heap := I.ok.mod.kin.keeps I.bk
theorem Inv.nolimit (I : Inv X pins σ H s) : s.heap.NoLimit := I.ok.mod.nolimit.keeps I.bk
/-- the frame over the base: for OpenK's rules (K.In X.base is I.mod.kin) -/
theorem Inv.fr (I : Inv X pins σ H s) : ∃ m, Fr X.base X.env.locals s.heap m :=
  let ⟨m, hn, _⟩ := I.loc
  ⟨m, hn, I.bk, Nat.le_trans I.ok.bsz I.ok.above⟩
theorem Inv.lt (I : Inv X pins σ H s) : X.env.locals < s.heap.objs.size := let ⟨_, hn, _⟩ := I.loc; hn.lt
theorem Inv.sz (I : Inv X pins σ H s) : X.s_0.heap.objs.size ≤ s.heap.objs.size := Nat.le_trans I.ok.above (Nat.le_of_lt I.lt)
theorem Inv.nofs (I : Inv X pins σ H s) {a : Addr} (h : s.heap.objs.size ≤ a) : a ∉ X.fs := fun hb => by
  obtain ⟨_, o, ho, _⟩ := I.ok.funs.mem hb
  exact absurd (Nat.lt_of_lt_of_le (Heap.lt_size ho) (Nat.le_trans I.sz h)) (Nat.lt_irrefl _)
theorem Inv.cne (I : Inv X pins σ H s) : ∀ x c, X.env.cells.lookup x = some c → c ≠ X.env.locals := fun x c e z => by
  obtain ⟨v, o, ho, hd⟩ := I.cell x c e
  obtain ⟨m, ⟨o', es, ep, ho', hd', _⟩, _⟩ := I.loc
  rw [z, ho'] at ho; cases ho; rw [hd'] at hd; cases hd
theorem Inv.funs (I : Inv X pins σ H s) : s.heap.FunFrames X.base X.outer := by
  have all : ∀ (l : List Env), (∀ b ∈ frs l, b ∈ X.fs) → X.s_0.heap.FunFrames X.base l → s.heap.FunFrames X.base l := by
    intro l
    induction l with
    | nil => intro _ _; trivial
    | cons env r ih =>
      intro hs hl
      obtain ⟨hk, ⟨L, o, hf, hn, ho, hd⟩, hr⟩ := hl
      have hL : L ∈ X.fs := hs L (by unfold frs; rw [List.filterMap_cons, hf]; exact List.mem_cons_self)
      obtain ⟨sl, e⟩ := I.base.slot L o ho (I.ok.frf L hL) hL fun z => I.ok.exfs L z hL
      exact ⟨hk, ⟨L, _, hf, hn, e, hd⟩, ih (fun b hb => hs b (by unfold frs; rw [List.filterMap_cons, hf]; exact List.mem_cons_of_mem _ hb)) hr⟩
  exact all X.outer (fun _ hb => hb) I.ok.funs

/-- the frames that run, for a call -/
theorem Inv.stack (I : Inv X pins σ H s) : s.heap.FunFrames X.base X.stack := by
  rcases I.ok.stk with e | ⟨e, hf⟩
  · rw [e]; exact I.funs
  · rw [e]
    obtain ⟨m, hn, _⟩ := I.loc
    refine .cons (by rw [I.ok.kind]; decide) hf hn ?_ I.funs
    exact Heap.get?_none_of_le (Nat.le_trans I.ok.bsz I.ok.above)
theorem Inv.stkSub (I : Inv X pins σ H s) : ∀ b ∈ frs X.stack, b ∈ X.env.locals :: X.fs := fun b hb => by
  rcases I.ok.stk with e | ⟨e, hf⟩
  · rw [e] at hb; exact List.mem_cons_of_mem _ hb
  · rw [e] at hb
    unfold frs at hb
    rw [List.filterMap_cons, hf] at hb
    exact hb
theorem Inv.stkFree (I : Inv X pins σ H s) : ∀ b ∈ frs X.stack, H b = none := fun b hb => by
  rcases List.mem_cons.mp (I.stkSub b hb) with e | hb
  · rw [e]; exact I.free
  · obtain ⟨_, o, ho, _⟩ := I.ok.funs.mem hb
    exact I.base.free b o ho (I.ok.frf b hb) fun z => I.ok.exfs b z hb

/-- THE STEP: the untracked objects but the frame and the records at ch are kept (the callers' frames up to slots), the frame's map is kept, the new abstract heap is held -/
theorem Inv.step {g' : Array GenState} {t' : Nat} {d' : Drawn} {ch : List Addr} (I : Inv X pins σ H s)
    (hch : ∀ b ∈ ch, (b ∈ X.ex ∨ X.s_0.heap.objs.size ≤ b) ∧ b ≠ X.env.locals ∧ (∀ x c, X.env.cells.lookup x = some c → c ≠ b) ∧ ∀ p ∈ X.pn ++ pins, p.1 ≠ b)
    (keep : ∀ b o, b ≠ X.env.locals → b ∉ X.fs → b ∉ ch → s.heap.get? b = some o → H b = none → h'.get? b = some o)
    (slot : ∀ b o, b ≠ X.env.locals → b ∈ X.fs → b ∉ ch → s.heap.get? b = some o → H b = none → ∃ sl, h'.get? b = some { o with slots := sl }) (free : ∀ b o, b ∉ ch → s.heap.get? b = some o → H b = none → H' b = none)
    (there : ∀ b o, b ∉ ch → s.heap.get? b = some o → ∃ o', h'.get? b = some o')
    (tups : ∀ b xs, H b = some (.tup xs) → H' b = some (.tup xs)) (frzs : ∀ b o u, H b = some (.frz o u) → H' b = some (.frz o u)) (tbls : ∀ b ps, H b = some (.tbl ps) → ∃ more, H' b = some (.tbl (ps ++ more)))
    (ns : ∀ m, s.heap.Ns X.env.locals m → h'.Ns X.env.locals m) (hok : HOk X.prog X.w H' h') (hg : AllBare g') :
    Inv X pins σ H' { s with heap := h', gens := g', drawn := d', toks := t' } := by
  have neL : ∀ b o, X.s_0.heap.get? b = some o → b ≠ X.env.locals := fun b o e => Nat.ne_of_lt (Nat.lt_of_lt_of_le (Heap.lt_size e) I.ok.above)
  have neC : ∀ b o, X.s_0.heap.get? b = some o → b ∉ X.ex → b ∉ ch := fun b o e hx hb => by
    rcases (hch b hb).1 with z | z
    · exact hx z
    · exact absurd (Nat.lt_of_lt_of_le (Heap.lt_size e) z) (Nat.lt_irrefl _)
  have cellK : ∀ x c, X.env.cells.lookup x = some c → ∀ v, s.heap.IsCell c v → h'.IsCell c v := fun x c e v ⟨o, ho, hd⟩ => by
    have nch : c ∉ ch := fun z => (hch c z).2.2.1 x c e rfl
    by_cases hc : c ∈ X.fs
    · obtain ⟨sl, q⟩ := slot c o (I.cne x c e) hc nch ho (I.freeC x c e)
      exact ⟨_, q, hd⟩
    · exact ⟨o, keep c o (I.cne x c e) hc nch ho (I.freeC x c e), hd⟩
  refine ⟨I.ok, I.os, hg, ⟨fun b o e n hb hx => ?_, fun b o e n hb hx => ?_, fun b o e n hx => ?_, fun b o e hx => ?_, fun b xs e => tups b xs (I.base.tups b xs e), fun b o xs e => frzs b o xs (I.base.frzs b o xs e), fun b ps e => ?_⟩, ?_, fun x c e => ?_, ?_, fun x c e => ?_, fun p hp => ?_, hok, I.len⟩
  · exact keep b o (neL b o e) hb (neC b o e hx) (I.base.keep b o e n hb hx) (I.base.free b o e n hx)
  · obtain ⟨sl, e1⟩ := I.base.slot b o e n hb hx
    obtain ⟨sl', e2⟩ := slot b _ (neL b o e) hb (neC b o e hx) e1 (I.base.free b o e n hx)
    exact ⟨sl', e2⟩
  · obtain ⟨o', e1⟩ := I.base.there b o e hx
    exact free b o' (neC b o e hx) e1 (I.base.free b o e n hx)
  · obtain ⟨o', e1⟩ := I.base.there b o e hx
    exact there b o' (neC b o e hx) e1
  · obtain ⟨m1, e1⟩ := I.base.tbls b ps e
    obtain ⟨m2, e2⟩ := tbls b _ e1
    exact ⟨m1 ++ m2, by rw [e2, Array.append_assoc]⟩
  · obtain ⟨m, hn, hl⟩ := I.loc
    refine ⟨m, ns m hn, fun i x v e1 e2 e3 => ?_⟩
    obtain ⟨u, r, l⟩ := hl i x v e1 e2 e3
    refine ⟨u, r, ?_⟩
    rcases l with l | ⟨k, c, e, z⟩
    · exact .inl l
    · exact .inr ⟨k, c, e, cellK x c e _ z⟩
  · obtain ⟨v, z⟩ := I.cell x c e
    exact ⟨v, cellK x c e v z⟩
  · obtain ⟨m, ⟨o, _, _, ho, _⟩, _⟩ := I.loc
    exact free _ o (fun z => (hch _ z).2.1 rfl) ho I.free
  · obtain ⟨v, o, ho, hd⟩ := I.cell x c e
    exact free c o (fun z => (hch c z).2.2.1 x c e rfl) ho (I.freeC x c e)
  · obtain ⟨e, n, ne, nf, d⟩ := I.pin p hp
    have nch : p.1 ∉ ch := fun z => (hch p.1 z).2.2.2 p hp rfl
    exact ⟨keep p.1 p.2 ne nf nch e n, free p.1 p.2 nch e n, ne, nf, d⟩
/-- .. where the frame's own object is kept too -/
theorem Inv.un {t' : Nat} (I : Inv X pins σ H s) (u : Un X.fs [] H H' s.heap h') (hok : HOk X.prog X.w H' h') : Inv X pins σ H' { s with heap := h', toks := t' } := by
  obtain ⟨m, ⟨o, es, ep, ho, r⟩, _⟩ := id I.loc
  obtain ⟨sl, hL⟩ := u.any ho I.free (by simp)
  exact I.step (g' := s.gens) (d' := s.drawn) (ch := []) (fun _ z => nomatch z) (fun b o _ hb _ e n => u.keep b o e n hb (by simp)) (fun b o _ hb _ e n => u.slot b o e n hb (by simp)) (fun b o _ e n => u.free b o e n (by simp)) (fun b o _ e => u.there b o e (by simp)) u.tups u.frzs u.tbls (fun m' hm => by
    obtain ⟨o', es', ep', ho', r'⟩ := hm
    rw [ho] at ho'; cases ho'
    exact ⟨_, es', ep', hL, r'⟩) hok I.bare
/-- behind a call (or a comprehension's block): the slots of this frame may have changed too, the records at ch may have turned -/
theorem Inv.call {g' : Array GenState} {t' : Nat} {d' : Drawn} {ch : List Addr} (I : Inv X pins σ H s) (u : Un (frs X.stack) ch H H' s.heap h') (hok : HOk X.prog X.w H' h') (hg : AllBare g')
    (hch : ∀ b ∈ ch, (b ∈ X.ex ∨ X.s_0.heap.objs.size ≤ b) ∧ b ≠ X.env.locals ∧ (∀ x c, X.env.cells.lookup x = some c → c ≠ b) ∧ ∀ p ∈ X.pn ++ pins, p.1 ≠ b) :
    Inv X pins σ H' { s with heap := h', gens := g', drawn := d', toks := t' } := by
  obtain ⟨m, ⟨o, es, ep, ho, r⟩, _⟩ := id I.loc
  obtain ⟨sl, hL⟩ := u.any ho I.free fun z => (hch _ z).2.1 rfl
  exact I.step (ch := ch) hch (fun b o hL hb hc e n => u.keep b o e n (fun z => (List.mem_cons.mp (I.stkSub b z)).elim hL hb) hc) (fun b o _ _ hc e n => u.any e n hc) (fun b o hc e n => u.free b o e n hc) (fun b o hc e => u.there b o e hc) u.tups u.frzs u.tbls (fun m' hm => by
    obtain ⟨o', es', ep', ho', r'⟩ := hm
    rw [ho] at ho'; cases ho'
    exact ⟨_, es', ep', hL, r'⟩) hok hg
/-- an untracked record of ours (an iterator) has turned -/
theorem Inv.turned {t' : Nat} {it : Addr} (I : Inv X pins σ H s) (k : ∀ b o, b ≠ it → s.heap.get? b = some o → h'.get? b = some o) (hn : H it = none) (hL : it ≠ X.env.locals)
    (h1 : it ∈ X.ex ∨ X.s_0.heap.objs.size ≤ it) (h2 : ∀ x c, X.env.cells.lookup x = some c → c ≠ it) (h3 : ∀ p ∈ X.pn ++ pins, p.1 ≠ it) : Inv X pins σ H { s with heap := h', toks := t' } := by
  have nit : ∀ b u, H b = some u → b ≠ it := fun b u e z => by rw [z, hn] at e; cases e
  refine I.step (g' := s.gens) (d' := s.drawn) (ch := [it]) (fun b hb => ?_) (fun b o _ _ hc e _ => k b o (fun z => hc (by simp [z])) e) (fun b o _ _ hc e _ => ⟨o.slots, k b o (fun z => hc (by simp [z])) e⟩) (fun _ _ _ _ n => n)
    (fun b o hc e => ⟨o, k b o (fun z => hc (by simp [z])) e⟩) (fun _ _ e => e) (fun _ _ _ e => e) (fun b ps e => ⟨#[], by rw [e]; simp⟩) (fun m hm => ?_) (fun b u e => ?_) I.bare
  · have e : b = it := by simpa using hb
    subst e
    exact ⟨h1, hL, h2, h3⟩
  · obtain ⟨o, es, ep, ho, r⟩ := hm
    exact ⟨o, es, ep, k _ o (Ne.symm hL) ho, r⟩
  · refine (I.hok b u e).stay (fun c v hc q => k c v ?_ q) (fun _ q => q) fun _ _ q => q
    rcases hc with z | z
    · rw [z]; exact nit b u e
    · exact nit c _ z
theorem Inv.tok (I : Inv X pins σ H s) (t : Nat) : Inv X pins σ H { s with toks := t } := I.un (h' := s.heap) (t' := t) Un.refl I.hok
/-- all objects kept -/
theorem Inv.kept {t' : Nat} (I : Inv X pins σ H s) (k : ∀ b u, s.heap.get? b = some u → h'.get? b = some u) : Inv X pins σ H { s with heap := h', toks := t' } := I.un (Un.kept k) (I.hok.kept k)
/-- a new object laid and tracked -/
theorem Inv.laid {a : Addr} {o : HO} {t' : Nat} (I : Inv X pins σ H s) (k : ∀ b u, s.heap.get? b = some u → h'.get? b = some u) (hp : s.heap.objs.size ≤ a) (new : ObjOk X.prog X.w (upd H a o) h' a o) :
    Inv X pins σ (upd H a o) { s with heap := h', toks := t' } := I.un (Un.laid k hp (I.hok.fresh hp)) (I.hok.laid k hp new)
/-- an object written -/
theorem Inv.write {x e : Addr} {o : HO} {t' : Nat} (I : Inv X pins σ H s) (mu : Mut (H x)) (he : e = x ∨ H e = some (.own x)) (k : ∀ b u, b ≠ e → s.heap.get? b = some u → h'.get? b = some u) (heo : ∃ u, h'.get? e = some u)
    (new : ObjOk X.prog X.w (upd H x o) h' x o) : Inv X pins σ (upd H x o) { s with heap := h', toks := t' } := I.un (Un.write mu he k heo) (I.hok.write mu he k heo new)
/-- forgetting slots, pins -/
theorem Inv.weak {σ' : List (Option V)} (I : Inv X pins σ H s) (hl : σ'.length = σ.length) (w : ∀ (i : Nat) v, σ'[i]? = some (some v) → σ[i]? = some (some v)) : Inv X pins σ' H s :=
  ⟨I.ok, I.os, I.bare, I.base, let ⟨m, hn, hl'⟩ := I.loc; ⟨m, hn, fun i x v e1 e2 e3 => hl' i x v e1 (w i v e2) e3⟩, I.cell, I.free, I.freeC, I.pin, I.hok, hl.trans I.len⟩
theorem Inv.pins_of {pins' : List (Addr × Obj)} (I : Inv X pins σ H s) (h : ∀ p ∈ pins', s.heap.get? p.1 = some p.2 ∧ H p.1 = none ∧ p.1 ≠ X.env.locals ∧ p.1 ∉ X.fs ∧ ∀ v, p.2.data ≠ .cell v) : Inv X pins' σ H s :=
  ⟨I.ok, I.os, I.bare, I.base, I.loc, I.cell, I.free, I.freeC, fun p hp => (List.mem_append.mp hp).elim (fun z => I.pin p (List.mem_append_left _ z)) (h p), I.hok, I.len⟩

theorem nodup_ix {N : List Str} (hN : N.Nodup) {i j : Nat} {x : Str} (a : N[i]? = some x) (b : N[j]? = some x) : i = j := by
  obtain ⟨h1, e1⟩ := List.getElem?_eq_some_iff.mp a
  obtain ⟨h2, e2⟩ := List.getElem?_eq_some_iff.mp b
  exact (List.getElem_inj hN).mp (e1.trans e2.symm)

/-- a name is stored; what changed -/
theorem store_ok2 {M : Model} {A : Around} {E : Value → Shared → Prop} {i : Nat} {x : Str} {v : V} {u : Value} {Q : Unit → Shared → Prop} (I : Inv X pins σ H s) (hN : X.N.Nodup) (hi : X.N[i]? = some x) (hx : Loc X.env.scope x) (r : RelV v u)
    (h : ∀ s', Inv X pins (σ.set i (some v)) H s' → (∃ a, Heap.SameBut a s.heap s'.heap ∧ (a = X.env.locals ∨ X.env.cells.lookup x = some a)) → Q () s') (hf : X.fn x = true ∨ X.env.scope.names.lookup x = some .local := by first | exact .inl rfl | exact .inr rfl | assumption) : wpAny M A (storeName X.env x u) Q E s := by
  obtain ⟨m, hn, hl⟩ := id I.loc
  have hcls : (X.env.scope.kind == .class || (X.env.scope.kind == .module && X.env.locals != X.env.globals)) = false := by rw [I.ok.kind]; rfl
  have hiσ : i < σ.length := by rw [I.len]; exact (List.getElem?_eq_some_iff.mp hi).1
  have cne := I.cne
  have tracked : ∀ {a : Addr} {h' : Heap}, (∃ o, s.heap.get? a = some o ∧ H a = none) → Heap.SameBut a s.heap h' → HOk X.prog X.w H h' := fun {a h'} ha hs b ob e => by
    obtain ⟨_, _, hfree⟩ := ha
    refine (I.hok b ob e).stay (fun c w' hc q => (hs.2 c ?_).trans q) (fun _ q => q) fun _ _ q => q
    rintro rfl
    rcases hc with rfl | hc
    · rw [hfree] at e; cases e
    · rw [hfree] at hc; cases hc
  rcases hx with hk | hk
  · refine wpAny_storeName_local hk hn (fun h' hn' hs => ?_) hcls
    obtain ⟨oL, _, _, hoL, _⟩ := id hn
    refine h _ ⟨I.ok, I.os, I.bare, ⟨fun b o e n hb hx => ?_, fun b o e n hb hx => ?_, I.base.free, fun b o e hx => ?_, I.base.tups, I.base.frzs, I.base.tbls⟩, ⟨_, hn', fun j y v' e1 e2 e3 => ?_⟩, fun y c e => ?_, I.free, I.freeC, fun p hp => ?_, tracked ⟨oL, hoL, I.free⟩ hs, by simpa using I.len⟩ ⟨_, hs, .inl rfl⟩
    · exact (hs.2 b (Nat.ne_of_lt (Nat.lt_of_lt_of_le (Heap.lt_size e) I.ok.above))).trans (I.base.keep b o e n hb hx)
    · obtain ⟨sl, e1⟩ := I.base.slot b o e n hb hx
      exact ⟨sl, (hs.2 b (Nat.ne_of_lt (Nat.lt_of_lt_of_le (Heap.lt_size e) I.ok.above))).trans e1⟩
    · obtain ⟨o', e1⟩ := I.base.there b o e hx
      exact ⟨o', (hs.2 b (Nat.ne_of_lt (Nat.lt_of_lt_of_le (Heap.lt_size e) I.ok.above))).trans e1⟩
    · by_cases hj : j = i
      · subst hj
        rw [hi] at e1; cases e1
        rw [List.getElem?_set_self hiσ] at e2
        cases e2
        exact ⟨u, r, .inl ⟨hk, by simp⟩⟩
      · rw [List.getElem?_set_ne (Ne.symm hj)] at e2
        obtain ⟨u', r', q⟩ := hl j y v' e1 e2 e3
        refine ⟨u', r', ?_⟩
        rcases q with ⟨k, e⟩ | ⟨k, c, e, z⟩
        · refine .inl ⟨k, ?_⟩
          have : y ≠ x := fun e => hj (nodup_ix hN e1 (e ▸ hi))
          simp [this, e]
        · exact .inr ⟨k, c, e, z.sameBut hs (cne y c e)⟩
    · obtain ⟨w', z⟩ := I.cell y c e
      exact ⟨w', z.sameBut hs (cne y c e)⟩
    · obtain ⟨e, n, ne, nf, d⟩ := I.pin p hp
      exact ⟨(hs.2 p.1 ne).trans e, n, ne, nf, d⟩
  · have hfn : X.fn x = true := by
      rcases hf with z | z
      · exact z
      · rw [z] at hk; cases hk
    obtain ⟨c, hc⟩ := I.ok.has x (.inl hk)
    obtain ⟨w', z⟩ := I.cell x c hc
    refine wpAny_storeName_cell I.ok.kind hk hc z (fun h' hc' hs => ?_)
    obtain ⟨oc, hoc, hocd⟩ := id z
    refine h { s with heap := h' } ⟨I.ok, I.os, I.bare, ⟨fun b o e n hb hx => ?_, fun b o e n hb hx => ?_, I.base.free, fun b o e hx => ?_, I.base.tups, I.base.frzs, I.base.tbls⟩, ⟨m, hn.sameBut hs (Ne.symm (cne x c hc)), fun j y v' e1 e2 e3 => ?_⟩, fun y c' e => ?_, I.free, I.freeC, fun p hp => ?_, tracked ⟨oc, hoc, I.freeC x c hc⟩ hs, by simpa using I.len⟩ ⟨c, hs, .inr hc⟩
    · exact (hs.2 b (Nat.ne_of_lt (Nat.lt_of_lt_of_le (Heap.lt_size e) (I.ok.cab x c hfn hc)))).trans (I.base.keep b o e n hb hx)
    · obtain ⟨sl, e1⟩ := I.base.slot b o e n hb hx
      exact ⟨sl, (hs.2 b (Nat.ne_of_lt (Nat.lt_of_lt_of_le (Heap.lt_size e) (I.ok.cab x c hfn hc)))).trans e1⟩
    · obtain ⟨o', e1⟩ := I.base.there b o e hx
      exact ⟨o', (hs.2 b (Nat.ne_of_lt (Nat.lt_of_lt_of_le (Heap.lt_size e) (I.ok.cab x c hfn hc)))).trans e1⟩
    · by_cases hj : j = i
      · subst hj
        rw [hi] at e1; cases e1
        rw [List.getElem?_set_self hiσ] at e2
        cases e2
        exact ⟨u, r, .inr ⟨.inl hk, c, hc, hc'⟩⟩
      · rw [List.getElem?_set_ne (Ne.symm hj)] at e2
        obtain ⟨u', r', q⟩ := hl j y v' e1 e2 e3
        refine ⟨u', r', ?_⟩
        rcases q with q | ⟨k, c', e, z'⟩
        · exact .inl q
        · refine .inr ⟨k, c', e, z'.sameBut hs ?_⟩
          rintro rfl
          exact hj (nodup_ix hN e1 (I.ok.inj _ _ _ e hc ▸ hi))
    · by_cases hcc : c' = c
      · subst hcc; exact ⟨_, hc'⟩
      · obtain ⟨w2, z2⟩ := I.cell y c' e
        exact ⟨w2, z2.sameBut hs hcc⟩
    · obtain ⟨e, n, ne, nf, d⟩ := I.pin p hp
      refine ⟨(hs.2 p.1 ?_).trans e, n, ne, nf, d⟩
      intro q
      rw [q, hoc] at e
      have q' : oc = p.2 := Option.some.inj e
      exact d w' (by rw [← q']; exact hocd)
theorem store_ok {M : Model} {A : Around} {E : Value → Shared → Prop} {i : Nat} {x : Str} {v : V} {u : Value} {Q : Unit → Shared → Prop} (I : Inv X pins σ H s) (hN : X.N.Nodup) (hi : X.N[i]? = some x) (hx : Loc X.env.scope x) (r : RelV v u)
    (h : ∀ s', Inv X pins (σ.set i (some v)) H s' → Q () s') (hf : X.fn x = true ∨ X.env.scope.names.lookup x = some .local := by first | exact .inl rfl | exact .inr rfl | assumption) : wpAny M A (storeName X.env x u) Q E s :=
  store_ok2 I hN hi hx r (fun s' I' _ => h s' I') hf
/-- behind a call or a block, the state as it is -/
theorem Inv.call' {s' : Shared} {ch : List Addr} (I : Inv X pins σ H s) (ho : s'.os = s.os) (u : Un (frs X.stack) ch H H' s.heap s'.heap) (hok : HOk X.prog X.w H' s'.heap) (hg : AllBare s'.gens)
    (hch : ∀ b ∈ ch, (b ∈ X.ex ∨ X.s_0.heap.objs.size ≤ b) ∧ b ≠ X.env.locals ∧ (∀ x c, X.env.cells.lookup x = some c → c ≠ b) ∧ ∀ p ∈ X.pn ++ pins, p.1 ≠ b) : Inv X pins σ H' s' := by
  obtain ⟨h', g', d', t', o'⟩ := s'
  have e : o' = s.os := ho
  subst e
  exact I.call (g' := g') (t' := t') (d' := d') u hok hg hch
end
/-! ### the judgements -/
/-- an exception: its class, its own dict's address (where it has one), the abstract heap behind it -/
abbrev XK := Value → Option Addr → Hp → Prop
abbrev St := List (Option V)
abbrev VK := V → Hp → Prop
/-- an expression's reading; a test's; an argument list's -/
abbrev TE := St → Hp → VK → Prop
abbrev TT := St → Hp → (Bool → Hp → Prop) → Prop
abbrev TA := St → Hp → (List V → Hp → Prop) → Prop
/-- what is wanted behind a statement -/
structure Ends where
  nx : St → Hp → Prop
  rt : VK
  bk : St → Hp → Prop := fun _ _ => False
  ct : St → Hp → Prop := fun _ _ => False
abbrev TS := Ends → St → Hp → Prop

def EP (X : Cx) (pins : List (Addr × Obj)) (σ : St) (Q : VK) (u : Value) (s' : Shared) : Prop := ∃ v H', Inv X pins σ H' s' ∧ RelV v u ∧ Q v H'
def TP (X : Cx) (pins : List (Addr × Obj)) (σ : St) (Q : Bool → Hp → Prop) (b : Bool) (s' : Shared) : Prop := ∃ H', Inv X pins σ H' s' ∧ Q b H'
def AP (X : Cx) (pins : List (Addr × Obj)) (σ : St) (Q : List V → Hp → Prop) (us : List Value) (s' : Shared) : Prop := ∃ vs H', Inv X pins σ H' s' ∧ Vals vs us ∧ Q vs H'
def SP (X : Cx) (pins : List (Addr × Obj)) (D : Ends) (f : Flow) (s' : Shared) : Prop :=
  match f with
  | .next => ∃ σ' H', Inv X pins σ' H' s' ∧ D.nx σ' H'
  | .brk => ∃ σ' H', Inv X pins σ' H' s' ∧ D.bk σ' H'
  | .cont => ∃ σ' H', Inv X pins σ' H' s' ∧ D.ct σ' H'
  | .ret u => ∃ v σ' H', Inv X pins σ' H' s' ∧ RelV v u ∧ D.rt v H'

def PE (X : Cx) (e : Expr) (t : TE) : Prop :=
  ∀ (pins : List (Addr × Obj)) (s : Shared) (σ : St) (H : Hp) (Q : VK), Inv X pins σ H s → t σ H Q → wpAny (model X.prog X.w) X.A (eval e X.env) (EP X pins σ Q) X.xe s
def PT (X : Cx) (e : Expr) (t : TT) : Prop :=
  ∀ (pins : List (Addr × Obj)) (s : Shared) (σ : St) (H : Hp) (Q : Bool → Hp → Prop), Inv X pins σ H s → t σ H Q → wpAny (model X.prog X.w) X.A (isTrue e X.env (eval e X.env)) (TP X pins σ Q) X.xe s
/-- a test whatever its 'whole' is (and, or) -/
def PW (X : Cx) (e : Expr) (t : TT) : Prop :=
  ∀ (whole : Sem Value) (pins : List (Addr × Obj)) (s : Shared) (σ : St) (H : Hp) (Q : Bool → Hp → Prop), Inv X pins σ H s → t σ H Q → wpAny (model X.prog X.w) X.A (isTrue e X.env whole) (TP X pins σ Q) X.xe s
theorem PW.pt {X : Cx} {e : Expr} {t : TT} (h : PW X e t) : PT X e t := h _
/-- an argument list (no star), from the left -/
def PA (X : Cx) (es : List Expr) (t : TA) : Prop :=
  ∀ (pos : Pos) (pins : List (Addr × Obj)) (s : Shared) (σ : St) (H : Hp) (Q : List V → Hp → Prop), Inv X pins σ H s → t σ H Q → wpAny (model X.prog X.w) X.A (spliced (backTo pos (starEach es X.env))) (AP X pins σ Q) X.xe s
def PS (X : Cx) (st : Stmt) (t : TS) : Prop :=
  ∀ (pins : List (Addr × Obj)) (s : Shared) (σ : St) (H : Hp) (D : Ends), Inv X pins σ H s → t D σ H → wpAny (model X.prog X.w) X.A (exec st X.env) (SP X pins D) X.xe s
def PSs (X : Cx) (st : List Stmt) (t : TS) : Prop :=
  ∀ (pins : List (Addr × Obj)) (s : Shared) (σ : St) (H : Hp) (D : Ends), Inv X pins σ H s → t D σ H → wpAny (model X.prog X.w) X.A (execs st X.env) (SP X pins D) X.xe s
/-- weaken the end -/
theorem thn {α : Type} {t : Sem α} {Q Q' : α → Shared → Prop} {M : Model} {A : Around} {E : Value → Shared → Prop} {s : Shared} (h : wpAny M A t Q E s) (hQ : ∀ a s, Q a s → Q' a s) : wpAny M A t Q' E s := wpAny_mono h hQ fun _ _ x => x
end L2
namespace L2
open PySem PySem.Spec PyProof.Rows
section
variable {X : Cx}
/-- two expressions in a row -/
theorem bin {a b : Expr} {ta tb : TE} (ha : PE X a ta) (hb : PE X b tb) {pins : List (Addr × Obj)} {s : Shared} {σ : St} {H : Hp} {R : V → V → Hp → Prop} (I : Inv X pins σ H s) (h : ta σ H fun x H1 => tb σ H1 fun y H2 => R x y H2)
    {α : Type} {Q : α → Shared → Prop} {f : Value → Value → Sem α}
    (hf : ∀ v u s2 x y H2, Inv X pins σ H2 s2 → RelV x v → RelV y u → R x y H2 → wpAny (model X.prog X.w) X.A (f v u) Q X.xe s2) :
    wpAny (model X.prog X.w) X.A (eval a X.env) (fun v s₁ => wpAny (model X.prog X.w) X.A (eval b X.env) (fun u s₂ => wpAny (model X.prog X.w) X.A (f v u) Q X.xe s₂) X.xe s₁) X.xe s := by
  refine thn (ha pins s σ H _ I h) fun v s1 ⟨x, H1, I1, r1, q1⟩ => ?_
  refine thn (hb pins s1 σ H1 _ I1 q1) fun u s2 ⟨y, H2, I2, r2, q2⟩ => ?_
  exact hf v u s2 x y H2 I2 r1 r2 q2

/-! ### names and constants -/
def tVar (i : Nat) : TE := fun σ H Q => ∃ v, σ[i]? = some (some v) ∧ Q v H
def tC (v : V) : TE := fun _ H Q => Q v H
theorem pe_var {i : Nat} {x : Str} {pos : Pos} (hN : X.N[i]? = some x) (hv : Vis X.env.scope x) (hd : (x == ("__debug__" : Str)) = false := by decide) (hcd : (x == ("__classdict__" : Str)) = false := by decide) : PE X (.Name x pos) (tVar i) := by
  intro pins s σ H Q I h
  obtain ⟨v, e, h⟩ := h
  obtain ⟨m, hn, hl⟩ := I.loc
  obtain ⟨u, r, l⟩ := hl i x v hN e hv
  have fin : EP X pins σ Q u s := ⟨v, H, I, r, h⟩
  rcases l with ⟨hk, hm⟩ | ⟨hk, c, hc, hcell⟩
  · exact wpAny_Name (wpAny_loadName_local I.ok.kind hk hn hm fin) hd
  · rcases hk with hk | hk
    · exact wpAny_Name (wpAny_loadName_cell I.ok.kind hk hc hcell fin) hd
    · exact wpAny_Name (wpAny_loadName_free I.ok.kind hk hc hcell fin hcd) hd
theorem pe_int {i j pos} : PE X (.Constant (.int i) j pos) (tC (.int i)) := fun _ _ _ H _ I h => wpAny_Constant_int ⟨.int i, H, I.tok _, ⟨_, rfl⟩, h⟩
theorem pe_bl {b j pos} : PE X (.Constant (.bool b) j pos) (tC (.bl b)) := fun _ _ _ H _ I h => Constant_bool ⟨.bl b, H, I, rfl, h⟩
theorem pe_non {j pos} : PE X (.Constant .none j pos) (tC .non) := fun _ _ _ H _ I h => Constant_none ⟨.non, H, I, rfl, h⟩
theorem pe_str {x j pos} : PE X (.Constant (.str x) j pos) (tC (.str x)) := fun _ _ _ H _ I h => Calls.Constant_str ⟨.str x, H, I.tok _, ⟨_, rfl⟩, h⟩

/-- a global name of the def -/
def Gl (X : Cx) (x : Str) : Prop := X.env.kindOf x = some .globalImplicit
theorem ld_glob {E : Value → Shared → Prop} {pins : List (Addr × Obj)} {s : Shared} {σ : St} {H : Hp} {x : Str} {u : Value} {pos : Pos} {Q : Value → Shared → Prop} (I : Inv X pins σ H s) (hg : Gl X x) (hm : X.mg x = some u) (h : Q u s)
    (hd : (x == ("__debug__" : Str)) = false := by decide) : wpAny (model X.prog X.w) X.A (eval (.Name x pos) X.env) Q E s :=
  Calls.Name_function_global I.ok.kind hg (Calls.loadGlobal_global (by rw [I.ok.glob]; exact I.mod.glob.keeps I.bk) hm h) hd
theorem ld_blt {E : Value → Shared → Prop} {pins : List (Addr × Obj)} {s : Shared} {σ : St} {H : Hp} {x : Str} {u : Value} {pos : Pos} {Q : Value → Shared → Prop} (I : Inv X pins σ H s) (hg : Gl X x) (hm : X.mg x = none) (hv : bootBuiltins x = some u) (h : Q u s)
    (hn : x ≠ "__name__" := by decide) (hd : (x == ("__debug__" : Str)) = false := by decide) : wpAny (model X.prog X.w) X.A (eval (.Name x pos) X.env) Q E s := by
  obtain ⟨mb, h1, h2⟩ := I.mod.blt
  exact Calls.Name_function_global I.ok.kind hg (Calls.loadGlobal_builtin (by rw [I.ok.glob]; exact I.mod.glob.keeps I.bk) hm (by rw [I.ok.blt]; exact h1.keeps I.bk) ((h2 x hn).trans hv) h) hd
/-- a module's constant, a class, a function, as a value -/
theorem pe_glob {x : Str} {v : V} {u : Value} {pos : Pos} (hg : Gl X x) (hm : X.mg x = some u) (r : RelV v u) (hd : (x == ("__debug__" : Str)) = false := by decide) : PE X (.Name x pos) (tC v) :=
  fun _ _ _ H _ I h => ld_glob I hg hm ⟨v, H, I, r, h⟩ hd
theorem pe_bltn {x : Str} {v : V} {u : Value} {pos : Pos} (hg : Gl X x) (hm : X.mg x = none) (hv : bootBuiltins x = some u) (r : RelV v u) (hn : x ≠ "__name__" := by decide) (hd : (x == ("__debug__" : Str)) = false := by decide) : PE X (.Name x pos) (tC v) :=
  fun _ _ _ H _ I h => ld_blt I hg hm hv ⟨v, H, I, r, h⟩ hn hd

/-! ### arithmetic -/
variable {a b : Expr} {ta tb : TE} {pos : Pos}
/-! ### comparisons -/
def PC (X : Cx) (op : CmpOp) (a b : Expr) (t : TE) : Prop :=
  ∀ (pins : List (Addr × Obj)) (s : Shared) (σ : St) (H : Hp) (Q : VK), Inv X pins σ H s → t σ H Q →
    wpAny (model X.prog X.w) X.A (eval a X.env) (fun v s₁ => wpAny (model X.prog X.w) X.A (eval b X.env) (fun u s₂ => wpAny (model X.prog X.w) X.A (compareOp op v u) (EP X pins σ Q) X.xe s₂) X.xe s₁) X.xe s
/-- a comparison as a value, as a test -/
def tB (t : TE) : TT := fun σ H Q => t σ H fun x H1 => ∃ c, x = .bl c ∧ Q c H1
theorem pt_cmp {op : CmpOp} {t : TE} (h : PC X op a b t) (h1 : behindInMarks op b = false := by first | exact nobehind _ (by decide) (by decide) | rfl) : PT X (.Compare a [op] [b] pos) (tB t) := by
  intro pins s σ H Q I hw
  refine wpAny_isTrue_Compare1 (thn (h pins s σ H _ I hw) fun v s1 h1 => thn h1 fun u s2 h2 => thn h2 fun c s3 ⟨x, H1, I1, r1, q1⟩ => ?_) h1
  obtain ⟨d, rfl, q⟩ := q1
  cases r1
  exact wpAny_truthy_bool ⟨H1, I1, q⟩
/-- an expression whose value is a bool, as a test -/
theorem pt_val {e : Expr} {t : TE} (h : PE X e t) (he : ∀ whole, isTrue e X.env whole = (do let v ← whole; standAt e.pos; holding [v] (truthy v)) := by intro _; rfl) : PT X e (tB t) := by
  intro pins s σ H Q I hw
  refine isTrue_plain (thn (h pins s σ H _ I hw) fun v s1 ⟨x, H1, I1, r1, q1⟩ => ?_) (he _)
  obtain ⟨d, rfl, q⟩ := q1
  cases r1
  exact wpAny_truthy_bool ⟨H1, I1, q⟩

/-! ### and, or, not -/
variable {tA tB' : TT} {rest : List Expr}
def tAnd (t u : TT) : TT := fun σ H Q => t σ H fun c H1 => if c = true then u σ H1 Q else Q false H1
def tOr (t u : TT) : TT := fun σ H Q => t σ H fun c H1 => if c = true then Q true H1 else u σ H1 Q
def tNot (t : TT) : TT := fun σ H Q => t σ H fun c H1 => Q (!c) H1
theorem pw_and1 (ha : PT X a tA) : PW X (.BoolOp .And [a] pos) tA := by
  intro wh pins s σ H Q I h
  refine isTrue_and (thn (ha pins s σ H Q I h) fun c s1 e => ?_)
  cases c with
  | true => exact isTrue_and_nil e
  | false => exact e
theorem pw_or1 (ha : PT X a tA) : PW X (.BoolOp .Or [a] pos) tA := by
  intro wh pins s σ H Q I h
  refine isTrue_or (thn (ha pins s σ H Q I h) fun c s1 e => ?_)
  cases c with
  | false => exact isTrue_or_nil e
  | true => exact e
theorem pw_and (ha : PT X a tA) (hb : PW X (.BoolOp .And (b :: rest) pos) tB') : PW X (.BoolOp .And (a :: b :: rest) pos) (tAnd tA tB') := by
  intro wh pins s σ H Q I h
  refine isTrue_and (thn (ha pins s σ H _ I h) fun c s1 ⟨H1, I1, q1⟩ => ?_)
  cases c with
  | true => exact hb wh pins s1 σ H1 Q I1 q1
  | false => exact ⟨H1, I1, q1⟩
theorem pw_or (ha : PT X a tA) (hb : PW X (.BoolOp .Or (b :: rest) pos) tB') : PW X (.BoolOp .Or (a :: b :: rest) pos) (tOr tA tB') := by
  intro wh pins s σ H Q I h
  refine isTrue_or (thn (ha pins s σ H _ I h) fun c s1 ⟨H1, I1, q1⟩ => ?_)
  cases c with
  | true => exact ⟨H1, I1, q1⟩
  | false => exact hb wh pins s1 σ H1 Q I1 q1
theorem pt_not (ha : PT X a tA) : PT X (.UnaryOp .Not a pos) (tNot tA) := by
  intro pins s σ H Q I h
  exact isTrue_not (ha pins s σ H (fun c H1 => Q (!c) H1) I h)
/-- a if t else b -/
def tIf (t : TT) (ta tb : TE) : TE := fun σ H Q => t σ H fun c H1 => if c = true then ta σ H1 Q else tb σ H1 Q
theorem pe_ifExp {c : Expr} (hc : PT X c tA) (ha : PE X a ta) (hb : PE X b tb) : PE X (.IfExp c a b pos) (tIf tA ta tb) := by
  intro pins s σ H Q I h
  refine wpAny_IfExp (thn (hc pins s σ H _ I h) fun d s1 ⟨H1, I1, q1⟩ => ?_)
  cases d with
  | true => exact ha pins s1 σ H1 Q I1 q1
  | false => exact hb pins s1 σ H1 Q I1 q1
end
end L2
namespace L2
open PySem PySem.Spec PyProof.Rows
/-! ### a list, a tuple that is read: tracked, frozen, or an object of the module -/
def SqL (K : PySem.W.Frag) (H : Hp) (a : Addr) (xs : List V) : Prop :=
  Rd H a (.lst xs) ∨
    ∃ (o : Obj) (its : Array Value) (n : Nat), K.lookup a = some o ∧ o.cls = .type "list" ∧ o.dict = none ∧ o.data = .seq its n ∧ its.size ≤ sizeLine ∧ Vals xs its.toList
def SqT (K : PySem.W.Frag) (H : Hp) (a : Addr) (xs : List V) : Prop :=
  Rd H a (.tup xs) ∨
    ∃ (o : Obj) (its : Array Value) (n : Nat), K.lookup a = some o ∧ o.cls = .type "tuple" ∧ o.data = .seq its n ∧ its.size ≤ sizeLine ∧ Vals xs its.toList
def absV : Value → Option V
  | .none => some .non
  | .bool b => some (.bl b)
  | .int i _ => some (.int i)
  | .str x _ => some (.str x)
  | .bytes b _ => some (.byt b)
  | .float b _ => some (.flt b)
  | .ref a => some (.ref a)
  | .type n => some (.ty n)
  | _ => none
theorem RelV.abs {x : V} {u : Value} (r : RelV x u) : absV u = some x := by
  cases x with
  | non => cases r; rfl
  | bl _ => cases r; rfl
  | int _ => obtain ⟨t, rfl⟩ := r; rfl
  | str _ => obtain ⟨t, rfl⟩ := r; rfl
  | byt _ => obtain ⟨t, rfl⟩ := r; rfl
  | flt _ => obtain ⟨t, rfl⟩ := r; rfl
  | ref _ => cases r; rfl
  | ty _ => cases r; rfl
theorem RelV.inj {x y : V} {u : Value} (r : RelV x u) (q : RelV y u) : x = y := Option.some.inj (r.abs.symm.trans q.abs)
theorem Vals.inj : ∀ {xs ys : List V} {us : List Value}, Vals xs us → Vals ys us → xs = ys
  | _, _, _, .nil, .nil => rfl
  | _, _, _, .cons r t, .cons r' t' => by rw [r.inj r', Vals.inj t t']
section
variable {X : Cx} {pins : List (Addr × Obj)} {σ : St} {H : Hp} {s : Shared} {a : Addr} {xs ys : List V}
theorem SqL.of {K : PySem.W.Frag} (h : H a = some (.lst xs)) : SqL K H a xs := .inl (.inl h)
theorem SqT.of {K : PySem.W.Frag} (h : H a = some (.tup xs)) : SqT K H a xs := .inl (.inl h)
theorem Inv.list (I : Inv X pins σ H s) (h : SqL X.K H a xs) : ∃ its : List Value, Vals xs its ∧ PlainL s.heap a its.toArray ∧ xs.length ≤ sizeLine := by
  rcases h with h | ⟨o, its, n, hk, hc, hd, hs, hz, r⟩
  · obtain ⟨z, its, n, r, e⟩ := h.ok I.hok
    exact ⟨its, r, ⟨_, n, e, rfl, rfl, rfl⟩, z⟩
  · refine ⟨its.toList, r, ⟨o, n, I.kIn a o hk, hc, hd, by simpa using hs⟩, ?_⟩
    have e := r.length
    simp only [Array.length_toList] at e
    omega
theorem Inv.tuple (I : Inv X pins σ H s) (h : SqT X.K H a xs) : ∃ its : List Value, Vals xs its ∧ IsTup s.heap a its.toArray ∧ xs.length ≤ sizeLine := by
  rcases h with h | ⟨o, its, n, hk, hc, hs, hz, r⟩
  · obtain ⟨z, its, r, p⟩ := h.ok I.hok
    exact ⟨its, r, p, z⟩
  · refine ⟨its.toList, r, ⟨o, I.kIn a o hk, hc, n, by simpa using hs⟩, ?_⟩
    have e := r.length
    simp only [Array.length_toList] at e
    omega
theorem Inv.list_inj (I : Inv X pins σ H s) (h : SqL X.K H a xs) (h' : SqL X.K H a ys) : xs = ys := by
  obtain ⟨its, r, ⟨o, n, e, _, _, d⟩, _⟩ := I.list h
  obtain ⟨its', r', ⟨o', n', e', _, _, d'⟩, _⟩ := I.list h'
  rw [e] at e'; cases e'
  rw [d] at d'
  injection d' with d1 _
  have : its = its' := by simpa using congrArg Array.toList d1
  subst this
  exact r.inj r'
theorem Inv.tuple_inj (I : Inv X pins σ H s) (h : SqT X.K H a xs) (h' : SqT X.K H a ys) : xs = ys := by
  obtain ⟨its, r, ⟨o, e, _, n, d⟩, _⟩ := I.tuple h
  obtain ⟨its', r', ⟨o', e', _, n', d'⟩, _⟩ := I.tuple h'
  rw [e] at e'; cases e'
  rw [d] at d'
  injection d' with d1 _
  have : its = its' := by simpa using congrArg Array.toList d1
  subst this
  exact r.inj r'
end
/-! ### another wish about exceptions -/
abbrev Cx.wish (X : Cx) (E : Value → Shared → Prop) : Cx := { X with xe := E }
/-- no exception leaves -/
abbrev Cx.nox (X : Cx) : Cx := X.wish fun _ _ => False
theorem Cx.Ok.wish {X : Cx} (ok : X.Ok) (E : Value → Shared → Prop) : (X.wish E).Ok :=
  ⟨ok.mod, ok.kind, ok.glob, ok.blt, ok.above, ok.inj, ok.has, ok.cab, ok.hd, ok.frames, ok.stk, ok.exf, ok.bs, ok.bsz, ok.noex, ok.exfs, ok.funs, ok.frf⟩
theorem Cx.Ok.unwish {X : Cx} {E : Value → Shared → Prop} (ok : (X.wish E).Ok) : X.Ok :=
  ⟨ok.mod, ok.kind, ok.glob, ok.blt, ok.above, ok.inj, ok.has, ok.cab, ok.hd, ok.frames, ok.stk, ok.exf, ok.bs, ok.bsz, ok.noex, ok.exfs, ok.funs, ok.frf⟩
section
variable {X : Cx} {pins : List (Addr × Obj)} {σ : St} {H : Hp} {s : Shared} {E : Value → Shared → Prop}
theorem Inv.wish (I : Inv X pins σ H s) (E : Value → Shared → Prop) : Inv (X.wish E) pins σ H s := ⟨I.ok.wish E, I.os, I.bare, I.base, I.loc, I.cell, I.free, I.freeC, I.pin, I.hok, I.len⟩
theorem Inv.unwish (I : Inv (X.wish E) pins σ H s) : Inv X pins σ H s := ⟨I.ok.unwish, I.os, I.bare, I.base, I.loc, I.cell, I.free, I.freeC, I.pin, I.hok, I.len⟩
theorem SP.unwish {D : Ends} {f : Flow} {s' : Shared} (h : SP (X.wish E) pins D f s') : SP X pins D f s' := by
  cases f with
  | next => obtain ⟨σ', H', I, q⟩ := h; exact ⟨σ', H', I.unwish, q⟩
  | brk => obtain ⟨σ', H', I, q⟩ := h; exact ⟨σ', H', I.unwish, q⟩
  | cont => obtain ⟨σ', H', I, q⟩ := h; exact ⟨σ', H', I.unwish, q⟩
  | ret u => obtain ⟨v, σ', H', I, r, q⟩ := h; exact ⟨v, σ', H', I.unwish, r, q⟩
theorem PSs.nox {st : List Stmt} {t : TS} (h : PSs X.nox st t) : PSs X st t := fun pins s σ H D I hw =>
  wpAny_mono (h pins s σ H D (I.wish _) hw) (fun _ _ q => q.unwish) fun _ _ z => False.elim z
end
/-! ### blocks and small statements -/
section
variable {X : Cx} {st : Stmt} {rest : List Stmt} {t u : TS} {e : Expr} {te : TE} {pos : Pos}
def tNext : TS := fun D σ H => D.nx σ H
def tSeq (t u : TS) : TS := fun D σ H => t { D with nx := u D } σ H
theorem pss_nil : PSs X [] tNext := fun _ _ σ H _ I h => wpAny_execs_nil ⟨σ, H, I, h⟩
theorem pss_cons (h1 : PS X st t) (h2 : PSs X rest u) : PSs X (st :: rest) (tSeq t u) := by
  intro pins s σ H D I h
  refine wpAny_execs_cons (thn (h1 pins s σ H { D with nx := u D } I h) fun f s1 q => ?_)
  cases f with
  | next =>
    obtain ⟨σ', H', I', q⟩ := q
    exact h2 pins s1 σ' H' D I' q
  | ret v => exact q
  | brk => exact q
  | cont => exact q
theorem pss_one (h1 : PS X st t) : PSs X [st] t := by
  intro pins s σ H D I h
  refine wpAny_execs_cons (thn (h1 pins s σ H D I h) fun f s1 q => ?_)
  cases f with
  | next => exact wpAny_execs_nil q
  | ret v => exact q
  | brk => exact q
  | cont => exact q
/-- in a def's body nothing is shown -/
theorem Inv.quiet {pins : List (Addr × Obj)} {σ : St} {H : Hp} {s : Shared} (I : Inv X pins σ H s) : interactive X.env = false := by simp [interactive, I.ok.kind]
/-- an expression whose value is dropped -/
def tDrop (te : TE) : TS := fun D σ H => te σ H fun _ H1 => D.nx σ H1
theorem ps_expr (he : PE X e te) (hs : swapsWith e none pos.line X.env = pure false := by rfl) : PS X (.Expr e pos) (tDrop te) := by
  intro pins s σ H D I h
  exact wpAny_Expr_any (thn (he pins s σ H _ I h) fun v s1 ⟨x, H1, I1, r1, q1⟩ => ⟨σ, H1, I1, q1⟩) I.quiet hs
def tRet (te : TE) : TS := fun D σ H => te σ H D.rt
theorem ps_ret (he : PE X e te) : PS X (.Return (some e) pos) (tRet te) := by
  intro pins s σ H D I h
  exact wpAny_Return_some (thn (he pins s σ H _ I h) fun v s1 ⟨x, H1, I1, r1, q1⟩ => ⟨x, σ, H1, I1, r1, q1⟩)
def tIfS (c : TT) (t u : TS) : TS := fun D σ H => c σ H fun b H1 => if b = true then t D σ H1 else u D σ H1
theorem ps_if {c : Expr} {a b : List Stmt} {tc : TT} (hc : PT X c tc) (ha : PSs X a t) (hb : PSs X b u) : PS X (.If c a b pos) (tIfS tc t u) := by
  intro pins s σ H D I h
  refine wpAny_If (thn (hc pins s σ H _ I h) fun d s1 ⟨H1, I1, q1⟩ => ?_)
  cases d with
  | true => exact ha pins s1 σ H1 D I1 q1
  | false => exact hb pins s1 σ H1 D I1 q1
/-- code that the proof never comes to -/
def tNever : TS := fun _ _ _ => False
theorem ps_never : PS X st tNever := fun _ _ _ _ _ _ h => h.elim
end
/-! ### targets -/
abbrev TG := V → St → Hp → (St → Hp → Prop) → Prop
abbrev TGs := List V → St → Hp → (St → Hp → Prop) → Prop
def PG (X : Cx) (target : Expr) (t : TG) : Prop :=
  ∀ (pins : List (Addr × Obj)) (s : Shared) (σ : St) (H : Hp) (v : V) (u : Value) (Q : St → Hp → Prop), Inv X pins σ H s → RelV v u → t v σ H Q →
    wpAny (model X.prog X.w) X.A (assign target X.env u) (fun _ s' => ∃ σ' H', Inv X pins σ' H' s' ∧ Q σ' H') X.xe s
/-- several targets, one after another -/
def PGs (X : Cx) (ts : List Expr) (t : TGs) : Prop :=
  ∀ (pins : List (Addr × Obj)) (s : Shared) (σ : St) (H : Hp) (vs : List V) (us : List Value) (Q : St → Hp → Prop), Inv X pins σ H s → Vals vs us → t vs σ H Q →
    wpAny (model X.prog X.w) X.A (assignInOrder ((assignEach ts X.env).map (·.2)) us) (fun _ s' => ∃ σ' H', Inv X pins σ' H' s' ∧ Q σ' H') X.xe s
/-- o[i] = v, by values -/
abbrev TSet := V → V → V → Hp → (Hp → Prop) → Prop
def PSet (X : Cx) (t : TSet) : Prop :=
  ∀ (pins : List (Addr × Obj)) (s : Shared) (σ : St) (H : Hp) (o i v : V) (ov iv u : Value) (Q : Hp → Prop), Inv X pins σ H s → RelV o ov → RelV i iv → RelV v u → t o i v H Q →
    wpAny (model X.prog X.w) X.A (setItem ov iv u) (fun _ s' => ∃ H', Inv X pins σ H' s' ∧ Q H') X.xe s
section
variable {X : Cx} {pos : Pos}
def gName (i : Nat) : TG := fun v σ H Q => Q (σ.set i (some v)) H
theorem pg_name {i : Nat} {x : Str} (hN : X.N.Nodup) (hi : X.N[i]? = some x) (hx : Loc X.env.scope x) (hf : X.fn x = true ∨ X.env.scope.names.lookup x = some .local := by first | exact .inl rfl | exact .inr rfl | assumption) : PG X (.Name x pos) (gName i) := by
  intro pins s σ H v u Q I r h
  exact wpAny_assign_Name (store_ok I hN hi hx r (fun s' I' => ⟨_, H, I', h⟩) hf)
def gNil : TGs := fun vs σ H Q => vs = [] ∧ Q σ H
def gCons (t : TG) (u : TGs) : TGs := fun vs σ H Q => ∃ v r, vs = v :: r ∧ t v σ H fun σ' H' => u r σ' H' Q
theorem pgs_nil : PGs X [] gNil := by
  intro pins s σ H vs us Q I r h
  obtain ⟨e, h⟩ := h
  subst e
  cases r
  exact assignInOrder_nil ⟨σ, H, I, h⟩
theorem pgs_cons {e : Expr} {es : List Expr} {t : TG} {u : TGs} (h1 : PG X e t) (h2 : PGs X es u)
    (hs : (assignEach (e :: es) X.env).map (·.2) = assign e X.env :: (assignEach es X.env).map (·.2) := by rfl) : PGs X (e :: es) (gCons t u) := by
  intro pins s σ H vs us Q I r h
  obtain ⟨v, vr, e1, h⟩ := h
  subst e1
  cases r with
  | cons r rr =>
    rw [hs]
    refine assignInOrder_cons (thn (h1 pins s σ H _ _ _ I r h) fun _ s1 ⟨σ1, H1, I1, q1⟩ => ?_)
    exact h2 pins s1 σ1 H1 _ _ Q I1 rr q1
/-- (a, b, ..) = a tuple of that length -/
def gTup (K : PySem.W.Frag) (n : Nat) (t : TGs) : TG := fun v σ H Q => ∃ a xs, v = .ref a ∧ SqT K H a xs ∧ xs.length = n ∧ t xs σ H Q
theorem pg_tup {es : List Expr} {k : Nat} {t : TGs} {n : Nat} (hc : X.calm = true) (h : PGs X es t)
    (hn : (assignEach es X.env).length = n := by rfl) (hst : (assignEach es X.env).findIdx? (·.1) = none := by rfl) : PG X (.Tuple es k pos) (gTup X.K n t) := by
  intro pins s σ H v u Q I r hw
  obtain ⟨a, xs, e1, hq, hl, hw⟩ := hw
  subst e1
  cases r
  obtain ⟨its, rv, ht, hz⟩ := I.tuple hq
  refine assign_Tuple_tuple (I.ok.hd hc) ht (by simp [hn, ← hl, rv.length]) hst fun h' hx => ?_
  have I1 : Inv X pins σ H { s with heap := h' } := I.kept (t' := s.toks) fun b o e => hx b o (Nat.ne_of_lt (Heap.lt_size e)) e
  exact h pins _ σ H xs _ Q I1 (by simpa using rv) hw
/-- o[i] = .. -/
def gSub (to ti : TE) (t : TSet) : TG := fun v σ H Q => to σ H fun o H1 => ti σ H1 fun i H2 => t o i v H2 fun H3 => Q σ H3
theorem pg_sub {o i : Expr} {to ti : TE} {t : TSet} (ho : PE X o to) (hi : PE X i ti) (hs : PSet X t)
    (ha : ∀ v, assign (.Subscript o i pos) X.env v = (do
      let ov ← holding [v] (eval o X.env)
      let iv ← holding [v, ov] (eval i X.env)
      standAt pos
      holding [v, ov, iv] (setItem ov iv v)
      release [v, ov, iv] []) := by intro _; rfl) : PG X (.Subscript o i pos) (gSub to ti t) := by
  intro pins s σ H v u Q I r h
  rw [ha]
  refine wpAny_bind (wpAny_holding (thn (ho pins s σ H _ I h) fun ov s1 ⟨x, H1, I1, r1, q1⟩ => ?_))
  refine wpAny_bind (wpAny_holding (thn (hi pins s1 σ H1 _ I1 q1) fun iv s2 ⟨y, H2, I2, r2, q2⟩ => ?_))
  refine wpAny_bind (wpAny_standAt (wpAny_bind (wpAny_holding (thn (hs pins s2 σ H2 x y v ov iv u _ I2 r1 r2 r q2) fun _ s3 ⟨H3, I3, q3⟩ => ?_))))
  exact wpAny_release ⟨σ, H3, I3, q3⟩
/-- target = value -/
def tAsg (te : TE) (g : TG) : TS := fun D σ H => te σ H fun x H1 => g x σ H1 D.nx
theorem ps_asg {tg e : Expr} {te : TE} {g : TG} (he : PE X e te) (hg : PG X tg g) (hs : swapsWithSole [tg] e pos.line X.env = pure false := by rfl) (hw : swappedStores [tg] e X.env = pure none := by rfl)
    (h1 : (assignEach [tg] X.env).map (·.2) = [assign tg X.env] := by rfl) : PS X (.Assign [tg] e pos) (tAsg te g) := by
  intro pins s σ H D I h
  refine wpAny_Assign_stores (thn (he pins s σ H _ I h) fun v s1 ⟨x, H1, I1, r1, q1⟩ => ?_) hs hw
  rw [h1]
  exact thn (hg pins s1 σ H1 x v _ I1 r1 q1) fun _ s2 q => q
/-- name = value -/
theorem ps_set {i : Nat} {x : Str} {e : Expr} {te : TE} {pos' : Pos} (hN : X.N.Nodup) (hi : X.N[i]? = some x) (hx : Loc X.env.scope x) (he : PE X e te) (hs : swapsWith e (some (.Name x pos')) pos.line X.env = pure false := by rfl) (hf : X.fn x = true ∨ X.env.scope.names.lookup x = some .local := by first | exact .inl rfl | exact .inr rfl | assumption) :
    PS X (.Assign [.Name x pos'] e pos) (tAsg te (gName i)) := by
  intro pins s σ H D I h
  refine wpAny_Assign_Name (thn (he pins s σ H _ I h) fun v s1 ⟨y, H1, I1, r1, q1⟩ => ?_) hs
  exact store_ok I1 hN hi hx r1 (fun s2 I2 => ⟨_, H1, I2, q1⟩) hf
end
/-! ### while -/
section
variable {X : Cx} {pos : Pos}
/-- the invariant W with its measure -/
def tWhile (c : TT) (tb : TS) : TS := fun D σ H => ∃ W : Nat → St → Hp → Prop, (∃ m, W m σ H) ∧ ∀ m σ H, W m σ H →
  c σ H fun b H1 => if b = true then ∃ N : St → Hp → Prop, (∀ σ' H', N σ' H' → ∃ m', m' < m ∧ W m' σ' H') ∧ tb { D with nx := N, ct := N, bk := D.nx } σ H1 else D.nx σ H1
theorem ps_while {c : Expr} {body : List Stmt} {tc : TT} {tb : TS} (hp : PassesOwn (model X.prog X.w) X.A X.env X.xe) (hc : PT X c tc) (hb : PSs X body tb) : PS X (.While c body [] pos) (tWhile tc tb) := by
  intro pins s σ H D I h
  obtain ⟨W, ⟨m0, w0⟩, turn⟩ := h
  refine wpAny_While (codeAny_whileLoop (fun n s' => ∃ σ' H', Inv X pins σ' H' s' ∧ W n σ' H') ?_ m0 ⟨σ, H, I, w0⟩)
  rintro n s1 ⟨σ1, H1, I1, w1⟩
  refine wpAny_passesOwn hp (thn (hc pins s1 σ1 H1 _ I1 (turn n σ1 H1 w1)) fun b s2 ⟨H2, I2, q2⟩ => ?_)
  cases b with
  | true =>
    obtain ⟨N, hN, q2⟩ := q2
    rw [if_pos rfl]
    refine wpAny_passesOwn hp (thn (hb pins s2 σ1 H2 _ I2 q2) fun f s3 q3 => ?_)
    cases f with
    | next =>
      obtain ⟨σ3, H3, I3, n3⟩ := q3
      obtain ⟨m', hm, w3⟩ := hN σ3 H3 n3
      exact ⟨m', hm, σ3, H3, I3, w3⟩
    | cont =>
      obtain ⟨σ3, H3, I3, n3⟩ := q3
      obtain ⟨m', hm, w3⟩ := hN σ3 H3 n3
      exact ⟨m', hm, σ3, H3, I3, w3⟩
    | brk => exact q3
    | ret v => exact q3
  | false =>
    rw [if_neg Bool.false_ne_true]
    exact wpAny_execs_nil ⟨σ1, H2, I2, q2⟩
end
/-! ### what a loop or a comprehension walks -/
/-- at turn i: it yields x (the heap may grow), or it stops -/
structure It where
  go : Nat → Hp → Prop
  yld : Nat → Hp → V → Hp → Prop
  stop : Nat → Hp → Prop
/-- the iterator's own objects may turn: they are not the frame's, not pinned, younger than the entry (or a comprehension's own) -/
def FpOk (X : Cx) (pins : List (Addr × Obj)) (H : Hp) (b : Addr) : Prop :=
  H b = none ∧ b ≠ X.env.locals ∧ b ∉ X.fs ∧ (b ∈ X.ex ∨ X.s_0.heap.objs.size ≤ b) ∧ (∀ x c, X.env.cells.lookup x = some c → c ≠ b) ∧ ∀ p ∈ X.pn ++ pins, p.1 ≠ b
theorem Inv.fpOk {X : Cx} {pins : List (Addr × Obj)} {σ : St} {H H' : Hp} {s : Shared} {b : Addr} (I : Inv X pins σ H s) (hb : s.heap.objs.size ≤ b) (hn : H' b = none) : FpOk X pins H' b := by
  refine ⟨hn, Nat.ne_of_gt (Nat.lt_of_lt_of_le I.lt hb), I.nofs hb, .inr (Nat.le_trans I.sz hb), fun x c e z => ?_, fun p hp z => ?_⟩
  · obtain ⟨v, q⟩ := I.cell x c e
    exact absurd (Nat.lt_of_lt_of_le q.lt (by rw [z]; exact hb)) (Nat.lt_irrefl _)
  · exact absurd (Nat.lt_of_lt_of_le (Heap.lt_size (I.pin p hp).1) (by rw [z]; exact hb)) (Nat.lt_irrefl _)
structure Turn (P : Program) (w : World) (K : PySem.W.Frag) (tg : Expr) (J : It) (fp : List Addr) (it : Addr) (tn : Nat → Heap → Prop) : Prop where
  mem : it ∈ fp
  obj : ∀ i h, tn i h → ∀ b ∈ fp, ∃ o, h.get? b = some o ∧ ∀ v, o.data ≠ .cell v
  keep : ∀ i h h', tn i h → (∀ b ∈ fp, ∀ o, h.get? b = some o → h'.get? b = some o) → tn i h'
  item : ∀ (X : Cx), X.prog = P → X.w = w → X.K = K → X.calm = true → ∀ (i : Nat) (pins : List (Addr × Obj)) (s : Shared) (σ : St) (H : Hp) (E : Value → Shared → Prop), Inv X pins σ H s → (∀ b ∈ fp, FpOk X pins H b) → tn i s.heap → J.go i H →
    wpAny (model P w) X.A (pyNext (.ref it)) (fun r s1 => ∃ u, r = some u ∧
      wpAny (model P w) X.A (letOwnedTupleGo tg (.ref it) u) (fun _ s2 => ∃ x H', Inv X pins σ H' s2 ∧ RelV x u ∧ J.yld i H x H' ∧ tn (i + 1) s2.heap ∧ ∀ b ∈ fp, H' b = none) E s1) E s
  done : ∀ (X : Cx), X.prog = P → X.w = w → X.K = K → X.calm = true → ∀ (i : Nat) (pins : List (Addr × Obj)) (s : Shared) (σ : St) (H : Hp) (E : Value → Shared → Prop), Inv X pins σ H s → (∀ b ∈ fp, FpOk X pins H b) → tn i s.heap → J.stop i H →
    wpAny (model P w) X.A (pyNext (.ref it)) (fun r s1 => r = none ∧ Inv X pins σ H s1) E s
  self : ∀ (A : Around) (i : Nat) (s : Shared) (Q : Value → Shared → Prop) (E : Value → Shared → Prop), tn i s.heap → Q (.ref it) s → wpAny (model P w) A (pyIter (.ref it)) Q E s
abbrev TI := St → Hp → (It → Hp → Prop) → Prop
/-- an iterator has come -/
def PIE (X : Cx) (pins : List (Addr × Obj)) (σ : St) (tg : Expr) (R : It → Hp → Prop) (itv : Value) (s2 : Shared) : Prop :=
  ∃ (it : Addr) (fp : List Addr) (tn : Nat → Heap → Prop) (J : It) (H' : Hp), itv = .ref it ∧ Inv X pins σ H' s2 ∧ Turn X.prog X.w X.K tg J fp it tn ∧ tn 0 s2.heap ∧ (∀ b ∈ fp, FpOk X pins H' b) ∧ R J H'
def PI (X : Cx) (tg iter : Expr) (wi : TI) : Prop :=
  ∀ (pins : List (Addr × Obj)) (s : Shared) (σ : St) (H : Hp) (R : It → Hp → Prop), Inv X pins σ H s → wi σ H R →
    wpAny (model X.prog X.w) X.A (eval iter X.env) (fun v s1 => wpAny (model X.prog X.w) X.A (pyIter v) (PIE X pins σ tg R) X.xe s1) X.xe s

/-- the step ahead of the store is nothing for an iterator that keeps no tuple -/
theorem go_of {M : Model} {A : Around} {E : Value → Shared → Prop} {s : Shared} {tg : Expr} {it : Addr} {u : Value} {o : Obj} {n : String} {vs : Array Value} {Q : Unit → Shared → Prop} (ho : s.heap.get? it = some o) (hc : o.cls = .type n) (hd : o.data = .fields vs)
    (hn : ["enumerate", "zip", "dict_itemiterator", "dict_reverseitemiterator", "odict_iterator", "itertools.zip_longest", "itertools.pairwise"].contains n = false) (hQ : Q () s) : wpAny M A (letOwnedTupleGo tg (.ref it) u) Q E s := by
  unfold letOwnedTupleGo
  cases tg <;> first
    | exact wpAny_pure hQ
    | (cases u <;> first
        | exact wpAny_pure hQ
        | (refine wpAny_bind (wpAny_load ho ?_)
           rw [hc, hd]
           show wpAny M A (if (["enumerate", "zip", "dict_itemiterator", "dict_reverseitemiterator", "odict_iterator", "itertools.zip_longest", "itertools.pairwise"].contains n && vs[0]? == some (rawInt _)) = true then _ else _) Q E s
           rw [if_neg (by intro h; rw [hn, Bool.false_and] at h; cases h)]
           exact wpAny_pure hQ))

/-- the list at a, as it stands at each turn (a loop may append to it) -/
def Itl (K : PySem.W.Frag) (a : Addr) : It :=
  ⟨fun i H => ∃ xs x, SqL K H a xs ∧ xs[i]? = some x, fun i H x H' => H' = H ∧ ∀ xs, SqL K H a xs → xs[i]? = some x, fun i H => ∃ xs, SqL K H a xs ∧ xs.length ≤ i⟩
def Itt (K : PySem.W.Frag) (a : Addr) : It :=
  ⟨fun i H => ∃ xs x, SqT K H a xs ∧ xs[i]? = some x, fun i H x H' => H' = H ∧ ∀ xs, SqT K H a xs → xs[i]? = some x, fun i H => ∃ xs, SqT K H a xs ∧ xs.length ≤ i⟩
/-- lo, lo + 1, .. (n of them) -/
def Itr (lo : Int) (n : Nat) : It := ⟨fun i _ => i < n, fun i H x H' => H' = H ∧ x = .int (lo + i), fun i _ => n ≤ i⟩
theorem turn_list {P : Program} {w : World} {K : PySem.W.Frag} {tg : Expr} (a it : Addr) : Turn P w K tg (Itl K a) [it] it (fun i h => h.IsListIter it a i) where
  mem := by simp
  obj := fun i h st b hb => by
    have e : b = it := by simpa using hb
    subst e
    obtain ⟨o, e, c, d⟩ := st
    exact ⟨o, e, fun v z => by rw [d] at z; cases z⟩
  keep := fun i h h' st k => st.at fun o e => k it (by simp) o e
  item := by
    intro X hP hw hK hc i pins s σ H E I hf st hg
    subst hP hw hK
    obtain ⟨xs, x, hq, hx⟩ := hg
    obtain ⟨its, rv, p, hz⟩ := I.list hq
    obtain ⟨u, hu, ru⟩ := rv.get hx
    obtain ⟨f0, f1, f2, f3, f4, f5⟩ := hf it (by simp)
    refine wpAny_pyNext_list_item st p.isList (x := u) (by simpa using hu) fun h' st' sb => ?_
    have I1 : Inv X pins σ H { s with heap := h' } := I.turned (t' := s.toks) (fun b o hb e => (sb.2 b hb).trans e) f0 f1 f3 f4 f5
    obtain ⟨o, e, c, d⟩ := id st'
    exact ⟨u, rfl, go_of (s := { s with heap := h' }) e c d (by decide) ⟨x, H, I1, ru, ⟨rfl, fun ys hy => by rw [I.list_inj hy hq]; exact hx⟩, st', fun b hb => (hf b hb).1⟩⟩
  done := by
    intro X hP hw hK hc i pins s σ H E I hf st hg
    subst hP hw hK
    obtain ⟨xs, hq, hx⟩ := hg
    obtain ⟨its, rv, p, hz⟩ := I.list hq
    obtain ⟨f0, f1, f2, f3, f4, f5⟩ := hf it (by simp)
    have hl := rv.length
    exact wpAny_pyNext_list_end (I.ok.hd hc) st p.isList (by simp; omega) fun h' eb => ⟨rfl, I.turned (t' := s.toks) (fun b o hb e => eb b o hb e) f0 f1 f3 f4 f5⟩
  self := fun _ _ _ _ _ st h => wpAny_pyIter_listiter st h
theorem turn_tuple {P : Program} {w : World} {K : PySem.W.Frag} {tg : Expr} (a it : Addr) : Turn P w K tg (Itt K a) [it] it (fun i h => h.IsTupleIter it a i) where
  mem := by simp
  obj := fun i h st b hb => by
    have e : b = it := by simpa using hb
    subst e
    obtain ⟨o, e, c, d⟩ := st
    exact ⟨o, e, fun v z => by rw [d] at z; cases z⟩
  keep := fun i h h' st k => st.at fun o e => k it (by simp) o e
  item := by
    intro X hP hw hK hc i pins s σ H E I hf st hg
    subst hP hw hK
    obtain ⟨xs, x, hq, hx⟩ := hg
    obtain ⟨its, rv, p, hz⟩ := I.tuple hq
    obtain ⟨u, hu, ru⟩ := rv.get hx
    obtain ⟨f0, f1, f2, f3, f4, f5⟩ := hf it (by simp)
    refine wpAny_pyNext_tuple_item st (show s.heap.IsTuple a its.toArray from p) (x := u) (by simpa using hu) fun h' st' sb => ?_
    have I1 : Inv X pins σ H { s with heap := h' } := I.turned (t' := s.toks) (fun b o hb e => (sb.2 b hb).trans e) f0 f1 f3 f4 f5
    obtain ⟨o, e, c, d⟩ := id st'
    exact ⟨u, rfl, go_of (s := { s with heap := h' }) e c d (by decide) ⟨x, H, I1, ru, ⟨rfl, fun ys hy => by rw [I.tuple_inj hy hq]; exact hx⟩, st', fun b hb => (hf b hb).1⟩⟩
  done := by
    intro X hP hw hK hc i pins s σ H E I hf st hg
    subst hP hw hK
    obtain ⟨xs, hq, hx⟩ := hg
    obtain ⟨its, rv, p, hz⟩ := I.tuple hq
    obtain ⟨f0, f1, f2, f3, f4, f5⟩ := hf it (by simp)
    have hl := rv.length
    exact wpAny_pyNext_tuple_end (I.ok.hd hc) st (show s.heap.IsTuple a its.toArray from p) (by simp; omega) fun h' eb => ⟨rfl, I.turned (t' := s.toks) (fun b o hb e => eb b o hb e) f0 f1 f3 f4 f5⟩
  self := fun _ _ _ _ _ st h => wpAny_pyIter_tupleiter st h
theorem turn_range {P : Program} {w : World} {K : PySem.W.Frag} {tg : Expr} (it : Addr) (lo : Int) (n : Nat) : Turn P w K tg (Itr lo n) [it] it (fun i h => IsRangeIter h it (lo + (i : Nat) * 1) ((n : Int) - (i : Nat)) 1) where
  mem := by simp
  obj := fun i h st b hb => by
    have e : b = it := by simpa using hb
    subst e
    exact ⟨_, st, fun v z => by
      have z' : Data.fields _ = Data.cell v := z
      cases z'⟩
  keep := fun i h h' st k => k it (by simp) _ st
  item := by
    intro X hP hw hK hc i pins s σ H E I hf st hg
    subst hP hw hK
    obtain ⟨f0, f1, f2, f3, f4, f5⟩ := hf it (by simp)
    have W := Walks.range (prog := X.prog) (w := X.w) (I.ok.hd hc) it lo 1 n
    refine W.item i s _ _ hg st fun v h' tk hv st' kk => ?_
    obtain ⟨t, rfl⟩ := hv
    have I1 : Inv X pins σ H { s with heap := h', toks := tk } := I.turned (fun b o hb e => kk b o (by simpa using hb) e) f0 f1 f3 f4 f5
    refine ⟨_, rfl, go_of (s := { s with heap := h', toks := tk }) (n := "range_iterator") st' rfl rfl (by decide) ⟨.int (lo + i), H, I1, ⟨t, ?_⟩, ⟨rfl, rfl⟩, st', fun b hb => (hf b hb).1⟩⟩
    rw [Int.mul_one]
  done := by
    intro X hP hw hK hc i pins s σ H E I hf st hg
    subst hP hw hK
    obtain ⟨f0, f1, f2, f3, f4, f5⟩ := hf it (by simp)
    exact wpAny_pyNext_range_end (I.ok.hd hc) st (by have : n ≤ i := hg; omega) fun h' eb => ⟨rfl, I.turned (t' := s.toks) (fun b o hb e => eb b o hb e) f0 f1 f3 f4 f5⟩
  self := fun _ _ _ _ _ st h => wpAny_pyIter_rangeiter st h
end L2
namespace L2
open PySem PySem.Spec PyProof.Rows
section
variable {X : Cx} {tg : Expr}
def iList (K : PySem.W.Frag) (tl : TE) : TI := fun σ H R => tl σ H fun x H1 => ∃ a, x = .ref a ∧ (∃ xs, SqL K H1 a xs) ∧ R (Itl K a) H1
def iTup (K : PySem.W.Frag) (tl : TE) : TI := fun σ H R => tl σ H fun x H1 => ∃ a, x = .ref a ∧ (∃ xs, SqT K H1 a xs) ∧ R (Itt K a) H1
theorem pi_list {l : Expr} {tl : TE} (hl : PE X l tl) : PI X tg l (iList X.K tl) := by
  intro pins s σ H R I h
  refine thn (hl pins s σ H _ I h) fun v s1 ⟨x, H1, I1, r1, q1⟩ => ?_
  obtain ⟨a, e, ⟨xs, hq⟩, q⟩ := q1
  subst e
  cases r1
  obtain ⟨its, rv, p, hz⟩ := I1.list hq
  refine wpAny_pyIter_list p.isList ?_
  refine ⟨s1.heap.objs.size, [s1.heap.objs.size], _, _, H1, rfl, I1.kept (t' := s1.toks) fun b o e => Heap.get?_push_of_some _ e, turn_list a _, ⟨_, Heap.get?_push_size _ rfl, rfl, rfl⟩, fun b hb => ?_, q⟩
  have e : b = s1.heap.objs.size := by simpa using hb
  subst e
  exact I1.fpOk (Nat.le_refl _) (I1.hok.fresh (Nat.le_refl _))
theorem pi_tup {l : Expr} {tl : TE} (hl : PE X l tl) : PI X tg l (iTup X.K tl) := by
  intro pins s σ H R I h
  refine thn (hl pins s σ H _ I h) fun v s1 ⟨x, H1, I1, r1, q1⟩ => ?_
  obtain ⟨a, e, ⟨xs, hq⟩, q⟩ := q1
  subst e
  cases r1
  obtain ⟨its, rv, p, hz⟩ := I1.tuple hq
  refine wpAny_pyIter_tuple (show s1.heap.IsTuple a its.toArray from p) ?_
  refine ⟨s1.heap.objs.size, [s1.heap.objs.size], _, _, H1, rfl, I1.kept (t' := s1.toks) fun b o e => Heap.get?_push_of_some _ e, turn_tuple a _, ⟨_, Heap.get?_push_size _ rfl, rfl, rfl⟩, fun b hb => ?_, q⟩
  have e : b = s1.heap.objs.size := by simpa using hb
  subst e
  exact I1.fpOk (Nat.le_refl _) (I1.hok.fresh (Nat.le_refl _))
/-- a range object just made, walked -/
theorem range_it {pins : List (Addr × Obj)} {σ : St} {H : Hp} {s : Shared} {R : It → Hp → Prop} {E : Value → Shared → Prop} {lo hi : Int} {t u v : Tok} {tk : Nat} (I : Inv X pins σ H s) (h1 : -(2 ^ 62) ≤ lo) (h2 : lo < 2 ^ 62) (h3 : -(2 ^ 62) ≤ hi) (h4 : hi < 2 ^ 62)
    (q : R (Itr lo (hi - lo).toNat) H) : wpAny (model X.prog X.w) X.A (pyIter (.ref s.heap.objs.size)) (PIE X pins σ tg R) E { s with heap := s.heap.push { cls := .type "range", data := .fields #[.int lo t, .int hi u, .int 1 v] }, toks := tk } := by
  refine wpAny_pyIter_range (IsRange.new ..) (small_one h1 h2 h3 h4) ?_
  have I1 : Inv X pins σ H { s with heap := s.heap.push { cls := .type "range", data := .fields #[.int lo t, .int hi u, .int 1 v] }, toks := tk } := I.kept fun b o e => Heap.get?_push_of_some _ e
  refine ⟨(s.heap.push { cls := .type "range", data := .fields #[.int lo t, .int hi u, .int 1 v] }).objs.size, [(s.heap.push { cls := .type "range", data := .fields #[.int lo t, .int hi u, .int 1 v] }).objs.size], _, _, H, rfl,
    I1.kept (t' := tk) fun b o e => Heap.get?_push_of_some _ e, turn_range _ lo (hi - lo).toNat, ?_, fun b hb => ?_, q⟩
  · have e1 : lo + ((0 : Nat) : Int) * 1 = lo := by simp
    have e2 : (((hi - lo).toNat : Nat) : Int) - ((0 : Nat) : Int) = Builtin.Range.rangeSize lo hi 1 := by rw [rangeSize_one]; split <;> omega
    show IsRangeIter _ _ (lo + ((0 : Nat) : Int) * 1) ((((hi - lo).toNat : Nat) : Int) - ((0 : Nat) : Int)) 1
    rw [e1, e2]
    exact Heap.get?_push_size _ rfl
  · have e : b = (s.heap.push { cls := .type "range", data := .fields #[.int lo t, .int hi u, .int 1 v] }).objs.size := by simpa using hb
    subst e
    exact I1.fpOk (Nat.le_refl _) (I1.hok.fresh (Nat.le_refl _))
def iRng1 (ta : TA) : TI := fun σ H R => ta σ H fun vs H1 => ∃ j : Int, vs = [.int j] ∧ -(2 ^ 62) ≤ j ∧ j < 2 ^ 62 ∧ R (Itr 0 j.toNat) H1
theorem pi_range1 {a : Expr} {ta : TA} {p pos : Pos} (hg : Gl X "range") (hm : X.mg "range" = none) (ha : PA X [a] ta) (hs : starEach [a] X.env = [(false, eval a X.env)] := by rfl) : PI X tg (.Call (.Name "range" p) [a] [] pos) (iRng1 ta) := by
  intro pins s σ H R I h
  refine Call_ (ld_blt I hg hm boot_range (PyProof.Rows.callWith_type1 (thn (ha pos pins s σ H _ I h) fun us s1 ⟨vs, H1, I1, r1, q1⟩ => ?_) hs rfl))
  obtain ⟨j, e, q1, q2, q⟩ := q1
  subst e
  cases r1 with
  | cons r rr =>
    cases rr
    obtain ⟨t, rfl⟩ := r
    exact call_range_1 (range_it I1 (by omega) (by omega) q1 q2 (by simpa using q))
/-! ### for -/
/-- W: the invariant by the turn and a measure; N: what the body is to reach -/
def tFor (wi : TI) (g : TG) (tb : TS) : TS := fun D σ H => wi σ H fun J H1 => ∃ W : Nat → Nat → St → Hp → Prop, (∃ m, W 0 m σ H1) ∧ ∀ i m σ H, W i m σ H →
  (J.stop i H ∧ D.nx σ H) ∨ (J.go i H ∧ ∃ N : St → Hp → Prop, (∀ σ' H', N σ' H' → ∃ m', m' < m ∧ W (i + 1) m' σ' H') ∧ ∀ x H', J.yld i H x H' → g x σ H' fun σ2 H2 => tb { D with nx := N, ct := N, bk := D.nx } σ2 H2)
/-- the records at fp as they stand -/
def pinsAt (fp : List Addr) (h : Heap) : List (Addr × Obj) := fp.filterMap fun b => (h.get? b).map fun o => (b, o)
theorem mem_pinsAt {fp : List Addr} {h : Heap} {b : Addr} {o : Obj} (hb : b ∈ fp) (e : h.get? b = some o) : (b, o) ∈ pinsAt fp h := List.mem_filterMap.mpr ⟨b, hb, by rw [e]; rfl⟩
theorem of_pinsAt {fp : List Addr} {h : Heap} {p : Addr × Obj} (hp : p ∈ pinsAt fp h) : p.1 ∈ fp ∧ h.get? p.1 = some p.2 := by
  obtain ⟨b, hb, e⟩ := List.mem_filterMap.mp hp
  cases q : h.get? b with
  | none => rw [q] at e; cases e
  | some o =>
    rw [q] at e
    have e' : (b, o) = p := Option.some.inj e
    subst e'
    exact ⟨hb, q⟩
theorem Inv.pinned {pins : List (Addr × Obj)} {σ : St} {H : Hp} {s : Shared} {fp : List Addr} (I : Inv X pins σ H s) (hf : ∀ b ∈ fp, FpOk X pins H b) (ho : ∀ b ∈ fp, ∃ o, s.heap.get? b = some o ∧ ∀ v, o.data ≠ .cell v) : Inv X (pins ++ pinsAt fp s.heap) σ H s :=
  I.pins_of fun p hp => (List.mem_append.mp hp).elim (fun z => I.pin p (List.mem_append_right _ z)) fun z => by
    obtain ⟨hb, e⟩ := of_pinsAt z
    obtain ⟨f0, f1, f2, _⟩ := hf p.1 hb
    obtain ⟨o, e', d⟩ := ho p.1 hb
    rw [e] at e'; cases e'
    exact ⟨e, f0, f1, f2, d⟩
theorem Inv.unpinned {pins pl : List (Addr × Obj)} {σ : St} {H : Hp} {s : Shared} (I : Inv X (pins ++ pl) σ H s) : Inv X pins σ H s := I.pins_of fun p hp => I.pin p (List.mem_append_right _ (List.mem_append_left _ hp))
theorem ps_for {iter : Expr} {body : List Stmt} {wi : TI} {g : TG} {tb : TS} {pos : Pos} (hp : PassesOwn (model X.prog X.w) X.A X.env X.xe) (hc : X.calm = true) (hi : PI X tg iter wi) (hg : PG X tg g) (hb : PSs X body tb)
    (hs : ∀ x, foldedSetIterable iter X.env x = pure x := by intro _; rfl) : PS X (.For tg iter body [] pos) (tFor wi g tb) := by
  intro pins s σ H D I h
  refine wpAny_For (thn (hi pins s σ H _ I h) fun v s1 h1 => thn h1 fun itv s2 h2 => ?_) hs
  obtain ⟨it, fp, tn, J, H2, e, I2, T, st2, f2, W, ⟨m0, w0⟩, turn⟩ := h2
  subst e
  -- what stays true of the iterator's objects through the loop
  have stat : ∀ {H' : Hp}, (∀ b ∈ fp, H' b = none) → ∀ b ∈ fp, FpOk X pins H' b := fun hn b hb => ⟨hn b hb, (f2 b hb).2⟩
  refine codeAny_forLoop_any (fun n s' => ∃ i σ' H', Inv X pins σ' H' s' ∧ tn i s'.heap ∧ (∀ b ∈ fp, H' b = none) ∧ W i n σ' H') ?_ m0 ⟨0, σ, H2, I2, st2, fun b hb => (f2 b hb).1, w0⟩
  rintro n s3 ⟨i, σ3, H3, I3, st3, fr3, w3⟩
  rcases turn i n σ3 H3 w3 with ⟨stop, qn⟩ | ⟨go, N, hN, step⟩
  · refine wpAny_passesOwn hp (thn (T.done X rfl rfl rfl hc i pins s3 σ3 H3 X.xe I3 (stat fr3) st3 stop) fun r s4 ⟨hr, I4⟩ => ?_)
    subst hr
    exact wpAny_execs_nil ⟨σ3, H3, I4, qn⟩
  · refine wpAny_passesOwn hp (thn (T.item X rfl rfl rfl hc i pins s3 σ3 H3 X.xe I3 (stat fr3) st3 go) fun r s4 ⟨u, hr, h4⟩ => ?_)
    subst hr
    refine wpAny_passesOwn hp (thn h4 fun _ s5 ⟨x, H5, I5, r5, y5, st5, fr5⟩ => ?_)
    have I5' := I5.pinned (stat fr5) (T.obj _ _ st5)
    refine wpAny_passesOwn hp (thn (hg _ s5 σ3 H5 x u _ I5' r5 (step x H5 y5)) fun _ s6 ⟨σ6, H6, I6, q6⟩ => ?_)
    refine wpAny_passesOwn hp (thn (hb _ s6 σ6 H6 _ I6 q6) fun f s7 q7 => ?_)
    have again : ∀ {σ7 : St} {H7 : Hp}, Inv X (pins ++ pinsAt fp s5.heap) σ7 H7 s7 → N σ7 H7 → ∃ m, m < n ∧ ∃ i σ' H', Inv X pins σ' H' s7 ∧ tn i s7.heap ∧ (∀ b ∈ fp, H' b = none) ∧ W i m σ' H' := fun {σ7 H7} I7 n7 => by
      obtain ⟨m', hm, w7⟩ := hN σ7 H7 n7
      refine ⟨m', hm, i + 1, σ7, H7, I7.unpinned, T.keep _ _ _ st5 fun b hb o e => (I7.pin (b, o) (List.mem_append_right _ (List.mem_append_right _ (mem_pinsAt hb e)))).1, fun b hb => ?_, w7⟩
      obtain ⟨o, e, d⟩ := T.obj _ _ st5 b hb
      exact (I7.pin (b, o) (List.mem_append_right _ (List.mem_append_right _ (mem_pinsAt hb e)))).2.1
    cases f with
    | next => obtain ⟨σ7, H7, I7, n7⟩ := q7; exact again I7 n7
    | cont => obtain ⟨σ7, H7, I7, n7⟩ := q7; exact again I7 n7
    | brk => obtain ⟨σ7, H7, I7, q7⟩ := q7; exact ⟨σ7, H7, I7.unpinned, q7⟩
    | ret v => obtain ⟨x7, σ7, H7, I7, r7, q7⟩ := q7; exact ⟨x7, σ7, H7, I7.unpinned, r7, q7⟩
end
/-! ### the forms one uses -/
/-- over a list that the body leaves as it is -/
theorem for_list {K : PySem.W.Frag} {a : Addr} {xs : List V} {g : TG} {tb : TS} {D : Ends} {σ : St} {H : Hp} (Pv : Nat → St → Hp → Prop) (h0 : Pv 0 σ H) (hl : ∀ i σ H, i ≤ xs.length → Pv i σ H → SqL K H a xs)
    (hs : ∀ i x σ H, xs[i]? = some x → Pv i σ H → g x σ H fun σ2 H2 => tb { D with nx := Pv (i + 1), ct := Pv (i + 1), bk := D.nx } σ2 H2) (hd : ∀ σ H, Pv xs.length σ H → D.nx σ H) :
    ∃ W : Nat → Nat → St → Hp → Prop, (∃ m, W 0 m σ H) ∧ ∀ i m σ H, W i m σ H →
      ((Itl K a).stop i H ∧ D.nx σ H) ∨ ((Itl K a).go i H ∧ ∃ N : St → Hp → Prop, (∀ σ' H', N σ' H' → ∃ m', m' < m ∧ W (i + 1) m' σ' H') ∧ ∀ x H', (Itl K a).yld i H x H' → g x σ H' fun σ2 H2 => tb { D with nx := N, ct := N, bk := D.nx } σ2 H2) := by
  refine ⟨fun i m σ H => m = xs.length - i ∧ i ≤ xs.length ∧ Pv i σ H, ⟨xs.length, by simp, Nat.zero_le _, h0⟩, ?_⟩
  rintro i m σ H ⟨rfl, hi, p⟩
  have q := hl i σ H hi p
  by_cases hlt : i < xs.length
  · refine .inr ⟨⟨xs, xs[i], q, by simp [hlt]⟩, Pv (i + 1), fun σ' H' p' => ⟨xs.length - (i + 1), by omega, rfl, hlt, p'⟩, fun x H' y => ?_⟩
    obtain ⟨e, y⟩ := y
    subst e
    exact hs i x σ _ (y xs q) p
  · have e : i = xs.length := by omega
    subst e
    exact .inl ⟨⟨xs, q, Nat.le_refl _⟩, hd σ H p⟩
theorem for_range {lo : Int} {n : Nat} {g : TG} {tb : TS} {D : Ends} {σ : St} {H : Hp} (Pv : Nat → St → Hp → Prop) (h0 : Pv 0 σ H)
    (hs : ∀ i σ H, i < n → Pv i σ H → g (.int (lo + i)) σ H fun σ2 H2 => tb { D with nx := Pv (i + 1), ct := Pv (i + 1), bk := D.nx } σ2 H2) (hd : ∀ σ H, Pv n σ H → D.nx σ H) :
    ∃ W : Nat → Nat → St → Hp → Prop, (∃ m, W 0 m σ H) ∧ ∀ i m σ H, W i m σ H →
      ((Itr lo n).stop i H ∧ D.nx σ H) ∨ ((Itr lo n).go i H ∧ ∃ N : St → Hp → Prop, (∀ σ' H', N σ' H' → ∃ m', m' < m ∧ W (i + 1) m' σ' H') ∧ ∀ x H', (Itr lo n).yld i H x H' → g x σ H' fun σ2 H2 => tb { D with nx := N, ct := N, bk := D.nx } σ2 H2) := by
  refine ⟨fun i m σ H => m = n - i ∧ i ≤ n ∧ Pv i σ H, ⟨n, by simp, Nat.zero_le _, h0⟩, ?_⟩
  rintro i m σ H ⟨rfl, hi, p⟩
  by_cases hlt : i < n
  · refine .inr ⟨hlt, Pv (i + 1), fun σ' H' p' => ⟨n - (i + 1), by omega, rfl, hlt, p'⟩, fun x H' y => ?_⟩
    obtain ⟨e, y⟩ := y
    subst e y
    exact hs i σ _ hlt p
  · have e : i = n := by omega
    subst e
    exact .inl ⟨Nat.le_refl _, hd σ H p⟩
end L2
namespace L2
open PySem PySem.Spec PyProof.Rows
abbrev R2 := V → V → Hp → VK → Prop
/-- a two-place operation on values: f is binaryOp op, inplaceOp op or compareOp op -/
def OpR (X : Cx) (f : Value → Value → Sem Value) (r : R2) : Prop :=
  ∀ (pins : List (Addr × Obj)) (s : Shared) (σ : St) (H : Hp) (x y : V) (v u : Value) (Q : VK), Inv X pins σ H s → RelV x v → RelV y u → r x y H Q →
    wpAny (model X.prog X.w) X.A (f v u) (EP X pins σ Q) X.xe s
/-- a one-place operation -/
def UnR (X : Cx) (f : Value → Sem Value) (r : V → Hp → VK → Prop) : Prop :=
  ∀ (pins : List (Addr × Obj)) (s : Shared) (σ : St) (H : Hp) (x : V) (v : Value) (Q : VK), Inv X pins σ H s → RelV x v → r x H Q →
    wpAny (model X.prog X.w) X.A (f v) (EP X pins σ Q) X.xe s
/-- a call of a value that is known (a builtin, a type) with values -/
def CallR (X : Cx) (f : Value) (r : List V → Hp → VK → Prop) : Prop :=
  ∀ (pins : List (Addr × Obj)) (s : Shared) (σ : St) (H : Hp) (xs : List V) (us : List Value) (Q : VK), Inv X pins σ H s → Vals xs us → r xs H Q →
    wpAny (model X.prog X.w) X.A (call f us) (EP X pins σ Q) X.xe s
def tOp (r : R2) (ta tb : TE) : TE := fun σ H Q => ta σ H fun x H1 => tb σ H1 fun y H2 => r x y H2 Q
def tUn (r : V → Hp → VK → Prop) (ta : TE) : TE := fun σ H Q => ta σ H fun x H1 => r x H1 Q
/-- ints in, under C, and a value out -/
def rI (C : Int → Int → Prop) (g : Int → Int → V) : R2 := fun x y H Q => ∃ i j, x = .int i ∧ y = .int j ∧ C i j ∧ Q (g i j) H
def rI0 (g : Int → Int → V) : R2 := fun x y H Q => ∃ i j, x = .int i ∧ y = .int j ∧ Q (g i j) H
def rU (g : Int → V) : V → Hp → VK → Prop := fun x H Q => ∃ i, x = .int i ∧ Q (g i) H

section
variable {X : Cx} {a b c : Expr} {ta tb tc : TE} {pos : Pos}
theorem binT (ha : PE X a ta) (hb : PE X b tb) {pins : List (Addr × Obj)} {s : Shared} {σ : St} {H : Hp} {R : V → V → Hp → Prop} (I : Inv X pins σ H s)
    (h : ta σ H fun x H1 => tb σ H1 fun y H2 => R x y H2) {Q : Value → Shared → Prop} {f : Value → Value → Sem Value}
    (hf : ∀ v u s2 x y H2, Inv X pins σ H2 s2 → RelV x v → RelV y u → R x y H2 → wpAny (model X.prog X.w) X.A (f v u) Q X.xe s2) :
    wpAny (model X.prog X.w) X.A (eval a X.env) (fun v s₁ => wpAny (model X.prog X.w) X.A (eval b X.env) (fun u s₂ => wpAny (model X.prog X.w) X.A (f v u) Q X.xe s₂) X.xe s₁) X.xe s := by
  refine thn (ha pins s σ H _ I h) fun v s1 ⟨x, H1, I1, r1, q1⟩ => ?_
  refine thn (hb pins s1 σ H1 _ I1 q1) fun u s2 ⟨y, H2, I2, r2, q2⟩ => ?_
  exact hf v u s2 x y H2 I2 r1 r2 q2

theorem pe_op {op : Operator} {r : R2} (ho : OpR X (binaryOp op) r) (ha : PE X a ta) (hb : PE X b tb) : PE X (.BinOp a op b pos) (tOp r ta tb) := by
  intro pins s σ H Q I h
  exact wpAny_BinOp (binT ha hb I h fun v u s2 x y H2 I2 rx ry q => ho pins s2 σ H2 x y v u Q I2 rx ry q)
theorem pe_un {op : UnaryOp} {r : V → Hp → VK → Prop} (ho : UnR X (unaryOp op) r) (ha : PE X a ta) : PE X (.UnaryOp op a pos) (tUn r ta) := by
  intro pins s σ H Q I h
  exact UnaryOp_ (thn (ha pins s σ H _ I h) fun v s1 ⟨x, H1, I1, r1, q1⟩ => ho pins s1 σ H1 x v Q I1 r1 q1)
/-! ### ints -/
theorem opI {f : Value → Value → Sem Value} {C : Int → Int → Prop} {g : Int → Int → Int}
    (rule : ∀ (i j : Int) (t u : Tok) (s : Shared) (Q : Value → Shared → Prop) (E : Value → Shared → Prop), C i j → Q (.int (g i j) s.toks) { s with toks := s.toks + 1 } → wpAny (model X.prog X.w) X.A (f (.int i t) (.int j u)) Q E s) :
    OpR X f (rI C fun i j => .int (g i j)) := by
  intro pins s σ H x y v u Q I rx ry h
  obtain ⟨i, j, rfl, rfl, hc, q⟩ := h
  obtain ⟨t, rfl⟩ := rx
  obtain ⟨t', rfl⟩ := ry
  exact rule i j t t' s _ _ hc ⟨.int (g i j), H, I.tok _, ⟨_, rfl⟩, q⟩
theorem opI0 {f : Value → Value → Sem Value} {g : Int → Int → Int}
    (rule : ∀ (i j : Int) (t u : Tok) (s : Shared) (Q : Value → Shared → Prop) (E : Value → Shared → Prop), Q (.int (g i j) s.toks) { s with toks := s.toks + 1 } → wpAny (model X.prog X.w) X.A (f (.int i t) (.int j u)) Q E s) :
    OpR X f (rI0 fun i j => .int (g i j)) := by
  intro pins s σ H x y v u Q I rx ry h
  obtain ⟨i, j, rfl, rfl, q⟩ := h
  obtain ⟨t, rfl⟩ := rx
  obtain ⟨t', rfl⟩ := ry
  exact rule i j t t' s _ _ ⟨.int (g i j), H, I.tok _, ⟨_, rfl⟩, q⟩
theorem opB0 {f : Value → Value → Sem Value} {g : Int → Int → Bool}
    (rule : ∀ (i j : Int) (t u : Tok) (s : Shared) (Q : Value → Shared → Prop) (E : Value → Shared → Prop), Q (.bool (g i j)) s → wpAny (model X.prog X.w) X.A (f (.int i t) (.int j u)) Q E s) :
    OpR X f (rI0 fun i j => .bl (g i j)) := by
  intro pins s σ H x y v u Q I rx ry h
  obtain ⟨i, j, rfl, rfl, q⟩ := h
  obtain ⟨t, rfl⟩ := rx
  obtain ⟨t', rfl⟩ := ry
  exact rule i j t t' s _ _ ⟨.bl (g i j), H, I, rfl, q⟩

def CDiv (i j : Int) : Prop := 0 < j ∧ j < 1073741824
def CPow (i j : Int) : Prop := 0 ≤ j ∧ j ≤ 1000000 ∧ i.natAbs < 2 ^ 64
def CMul (i j : Int) : Prop := (-(2 ^ 64) < i ∧ i < 2 ^ 64) ∨ (-(2 ^ 64) < j ∧ j < 2 ^ 64)
theorem CMul.ok {i j : Int} (h : CMul i j) : IntMulOk i j := by
  rcases h with ⟨h1, h2⟩ | ⟨h1, h2⟩
  · exact .of_left (intBits_le_64 h1 h2)
  · exact .of_right (intBits_le_64 h1 h2)
theorem op_add : OpR X (binaryOp .Add) (rI0 fun i j => .int (i + j)) := opI0 fun _ _ _ _ _ _ _ q => add_int q
theorem op_sub : OpR X (binaryOp .Sub) (rI0 fun i j => .int (i - j)) := opI0 fun _ _ _ _ _ _ _ q => sub_int q
theorem op_mul : OpR X (binaryOp .Mult) (rI CMul fun i j => .int (i * j)) := opI fun _ _ _ _ _ _ _ hc q => mul_int q hc.ok
/-- // by a positive divisor -/
theorem op_fdiv : OpR X (binaryOp .FloorDiv) (rI CDiv fun i j => .int (i / j)) := opI fun i j _ _ _ _ _ hc q => by
  have h1 : (0 : Int) < j := hc.1
  have h2 : j < 1073741824 := hc.2
  exact floordiv_int (by omega) (by rw [Int.fdiv_eq_ediv_of_nonneg i (by omega)]; exact q) (.inl (PyProof.noPylong_small (by omega)))
/-- % by a positive divisor of any size -/
theorem op_mod : OpR X (binaryOp .Mod) (rI (fun _ j => 0 < j) fun i j => .int (i % j)) := opI fun i j _ _ _ _ _ hc q => by
  have h1 : (0 : Int) < j := hc
  exact mod_int' (by omega) (by rw [Int.fmod_eq_emod_of_nonneg i (by omega)]; exact q)
theorem op_pow : OpR X (binaryOp .Pow) (rI CPow fun i j => .int (i ^ j.toNat)) := opI fun _ _ _ _ _ _ _ hc q => pow_int_small hc.1 hc.2.1 hc.2.2 q
theorem unI {f : Value → Sem Value} {g : Int → Int}
    (rule : ∀ (i : Int) (t : Tok) (s : Shared) (Q : Value → Shared → Prop) (E : Value → Shared → Prop), Q (.int (g i) s.toks) { s with toks := s.toks + 1 } → wpAny (model X.prog X.w) X.A (f (.int i t)) Q E s) :
    UnR X f (rU fun i => .int (g i)) := by
  intro pins s σ H x v Q I rx h
  obtain ⟨i, rfl, q⟩ := h
  obtain ⟨t, rfl⟩ := rx
  exact rule i t s _ _ ⟨.int (g i), H, I.tok _, ⟨_, rfl⟩, q⟩
theorem un_neg : UnR X (unaryOp .USub) (rU fun i => .int (-i)) := unI fun _ _ _ _ _ q => neg_int q
/-! ### bools among ints: n += (a < b) -/
end
/-! ### comparisons -/
/-- the scalars that == tells apart as data does -/
def scal : V → V → Bool
  | .non, .non => true | .non, .int _ => true | .int _, .non => true | .non, .bl _ => true | .bl _, .non => true | .non, .str _ => true | .str _, .non => true
  | .int _, .int _ => true | .bl _, .bl _ => true | .str _, .str _ => true | .byt _, .byt _ => true
  | .int _, .str _ => true | .str _, .int _ => true | .bl _, .str _ => true | .str _, .bl _ => true
  | _, _ => false
def rEq : R2 := fun x y H Q => scal x y = true ∧ Q (.bl (decide (x = y))) H
def rNe : R2 := fun x y H Q => scal x y = true ∧ Q (.bl (!decide (x = y))) H

theorem dec_int {i j : Int} : decide (V.int i = V.int j) = (i == j) := by
  rw [Bool.eq_iff_iff]
  simp
theorem dec_bl {i j : Bool} : decide (V.bl i = V.bl j) = (i == j) := by
  rw [Bool.eq_iff_iff]
  simp
theorem dec_str {i j : Str} : decide (V.str i = V.str j) = (i == j) := by
  rw [Bool.eq_iff_iff]
  simp
theorem dec_byt {i j : Array UInt8} : decide (V.byt i = V.byt j) = (i.toList == j.toList) := by
  rw [Bool.eq_iff_iff]
  cases i
  cases j
  simp

section
variable {X : Cx} {a b c : Expr} {ta tb tc : TE} {pos : Pos}
theorem fin_bl {pins : List (Addr × Obj)} {σ : St} {H : Hp} {s : Shared} {Q : VK} {k k' : Bool} (I : Inv X pins σ H s) (q : Q (.bl k) H) (e : k = k') : EP X pins σ Q (.bool k') s := by
  subst e
  exact ⟨.bl k, H, I, rfl, q⟩
theorem op_eq : OpR X (compareOp .Eq) rEq := by
  intro pins s σ H x y v u Q I rx ry h
  obtain ⟨hs, q⟩ := h
  cases x with
  | non =>
    cases rx
    cases y with
    | non => cases ry; exact PySem.EqNone.eq_none_none (fin_bl I q (by simp))
    | bl j => cases ry; exact PySem.EqNone.eq_none_bool (fin_bl I q (by simp))
    | int j => obtain ⟨t', rfl⟩ := ry; exact PySem.EqNone.eq_none_int (fin_bl I q (by simp))
    | str j => obtain ⟨t', rfl⟩ := ry; exact PySem.EqNone.eq_none_str (fin_bl I q (by simp))
    | _ => exact absurd (show false = true from hs) Bool.false_ne_true
  | bl i =>
    cases rx
    cases y with
    | non => cases ry; exact PySem.EqNone.eq_bool_none (fin_bl I q (by simp))
    | bl j => cases ry; exact eq_bool (fin_bl I q dec_bl)
    | str j => obtain ⟨t', rfl⟩ := ry; exact PySem.EqMixed.eq_bool_str (fin_bl I q (by simp))
    | _ => exact absurd (show false = true from hs) Bool.false_ne_true
  | int i =>
    obtain ⟨t, rfl⟩ := rx
    cases y with
    | non => cases ry; exact PySem.EqNone.eq_int_none (fin_bl I q (by simp))
    | int j => obtain ⟨t', rfl⟩ := ry; exact eq_int (fin_bl I q dec_int)
    | str j => obtain ⟨t', rfl⟩ := ry; exact PySem.EqMixed.eq_int_str (fin_bl I q (by simp))
    | _ => exact absurd (show false = true from hs) Bool.false_ne_true
  | str i =>
    obtain ⟨t, rfl⟩ := rx
    cases y with
    | non => cases ry; exact PySem.EqNone.eq_str_none (fin_bl I q (by simp))
    | bl j => cases ry; exact PySem.EqMixed.eq_str_bool (fin_bl I q (by simp))
    | int j => obtain ⟨t', rfl⟩ := ry; exact PySem.EqMixed.eq_str_int (fin_bl I q (by simp))
    | str j => obtain ⟨t', rfl⟩ := ry; exact eq_str (fin_bl I q dec_str)
    | _ => exact absurd (show false = true from hs) Bool.false_ne_true
  | byt i =>
    obtain ⟨t, rfl⟩ := rx
    cases y with
    | byt j => obtain ⟨t', rfl⟩ := ry; exact PySem.W.eq_bytes (fin_bl I q dec_byt)
    | _ => exact absurd (show false = true from hs) Bool.false_ne_true
  | _ => cases y <;> exact absurd (show false = true from hs) Bool.false_ne_true
theorem op_ne : OpR X (compareOp .NotEq) rNe := by
  intro pins s σ H x y v u Q I rx ry h
  obtain ⟨hs, q⟩ := h
  cases x with
  | non =>
    cases rx
    cases y with
    | non => cases ry; exact PySem.EqNone.ne_none_none (fin_bl I q (by simp))
    | bl j => cases ry; exact PySem.EqNone.ne_none_bool (fin_bl I q (by simp))
    | int j => obtain ⟨t', rfl⟩ := ry; exact PySem.EqNone.ne_none_int (fin_bl I q (by simp))
    | str j => obtain ⟨t', rfl⟩ := ry; exact PySem.EqNone.ne_none_str (fin_bl I q (by simp))
    | _ => exact absurd (show false = true from hs) Bool.false_ne_true
  | bl i =>
    cases rx
    cases y with
    | non => cases ry; exact PySem.EqNone.ne_bool_none (fin_bl I q (by simp))
    | bl j => cases ry; exact ne_bool (fin_bl I q (congrArg not dec_bl))
    | str j => obtain ⟨t', rfl⟩ := ry; exact PySem.EqMixed.ne_bool_str (fin_bl I q (by simp))
    | _ => exact absurd (show false = true from hs) Bool.false_ne_true
  | int i =>
    obtain ⟨t, rfl⟩ := rx
    cases y with
    | non => cases ry; exact PySem.EqNone.ne_int_none (fin_bl I q (by simp))
    | int j => obtain ⟨t', rfl⟩ := ry; exact ne_int (fin_bl I q (congrArg not dec_int))
    | str j => obtain ⟨t', rfl⟩ := ry; exact PySem.EqMixed.ne_int_str (fin_bl I q (by simp))
    | _ => exact absurd (show false = true from hs) Bool.false_ne_true
  | str i =>
    obtain ⟨t, rfl⟩ := rx
    cases y with
    | non => cases ry; exact PySem.EqNone.ne_str_none (fin_bl I q (by simp))
    | bl j => cases ry; exact PySem.EqMixed.ne_str_bool (fin_bl I q (by simp))
    | int j => obtain ⟨t', rfl⟩ := ry; exact PySem.EqMixed.ne_str_int (fin_bl I q (by simp))
    | str j => obtain ⟨t', rfl⟩ := ry; exact ne_str (fin_bl I q (congrArg not dec_str))
    | _ => exact absurd (show false = true from hs) Bool.false_ne_true
  | byt i =>
    obtain ⟨t, rfl⟩ := rx
    cases y with
    | byt j => obtain ⟨t', rfl⟩ := ry; exact PySem.W.ne_bytes (fin_bl I q (congrArg not dec_byt))
    | _ => exact absurd (show false = true from hs) Bool.false_ne_true
  | _ => cases y <;> exact absurd (show false = true from hs) Bool.false_ne_true

theorem op_lt : OpR X (compareOp .Lt) (rI0 fun i j => .bl (decide (i < j))) := opB0 fun _ _ _ _ _ _ _ q => lt_int q
theorem op_gt : OpR X (compareOp .Gt) (rI0 fun i j => .bl (decide (j < i))) := opB0 fun _ _ _ _ _ _ _ q => gt_int q
theorem op_ge : OpR X (compareOp .GtE) (rI0 fun i j => .bl (decide (j ≤ i))) := opB0 fun _ _ _ _ _ _ _ q => ge_int q
/-- is None, is not None: the right side a value none -/
theorem op_isN : OpR X (compareOp .Is) (fun x y H Q => y = .non ∧ Q (.bl (decide (x = .non))) H) := by
  intro pins s σ H x y v u Q I rx ry h
  obtain ⟨rfl, q⟩ := h
  cases ry
  refine is_none_gen (fin_bl I q ?_)
  cases x <;> first
    | (cases rx; rfl)
    | (obtain ⟨t, rfl⟩ := rx; rfl)
theorem op_notN : OpR X (compareOp .IsNot) (fun x y H Q => y = .non ∧ Q (.bl (!decide (x = .non))) H) := by
  intro pins s σ H x y v u Q I rx ry h
  obtain ⟨rfl, q⟩ := h
  cases ry
  refine isnot_none_gen (fin_bl I q ?_)
  cases x <;> first
    | (cases rx; rfl)
    | (obtain ⟨t, rfl⟩ := rx; rfl)

theorem nomark (b : Expr) {op : CmpOp} (h : op ≠ .In := by decide) (h2 : op ≠ .NotIn := by decide) : behindInMarks op b = false := by
  have e1 : (op == CmpOp.In) = false := by cases op <;> first | rfl | exact absurd rfl h
  have e2 : (op == CmpOp.NotIn) = false := by cases op <;> first | rfl | exact absurd rfl h2
  cases b <;> simp [behindInMarks, e1, e2]
/-- a comparison as a value; hm: nomark b, or (for in, not in) by with_unfolding_all rfl -/
theorem pe_cmpR {op : CmpOp} {r : R2} (ho : OpR X (compareOp op) r) (ha : PE X a ta) (hb : PE X b tb) (hm : behindInMarks op b = false) : PE X (.Compare a [op] [b] pos) (tOp r ta tb) := by
  intro pins s σ H Q I h
  exact wpAny_Compare1 (binT ha hb I h fun v u s2 x y H2 I2 rx ry q => ho pins s2 σ H2 x y v u Q I2 rx ry q) hm
/-- a reading of a value as a test -/
def tTest (t : TE) : TT := fun σ H Q => t σ H fun x H' => ∃ k, x = .bl k ∧ Q k H'
theorem pt_cmpR {op : CmpOp} {r : R2} (ho : OpR X (compareOp op) r) (ha : PE X a ta) (hb : PE X b tb) (hm : behindInMarks op b = false) : PT X (.Compare a [op] [b] pos) (tTest (tOp r ta tb)) := by
  intro pins s σ H Q I h
  refine wpAny_isTrue_Compare1 (thn (ha pins s σ H _ I h) fun v s1 ⟨x, H1, I1, r1, q1⟩ => thn (hb pins s1 σ H1 _ I1 q1) fun u s2 ⟨y, H2, I2, r2, q2⟩ =>
    thn (ho pins s2 σ H2 x y v u _ I2 r1 r2 q2) fun c s3 ⟨z, H3, I3, r3, k, e, q3⟩ => ?_) hm
  subst e
  cases r3
  exact wpAny_truthy_bool ⟨H3, I3, q3⟩
/-! ### truth -/
theorem line63 : (sizeLine : Nat) < 2 ^ 63 := by rw [sizeLine_eq]; decide
/-! ### strs and bytes -/
theorem op_add_str : OpR X (binaryOp .Add) (fun x y H Q => ∃ i j, x = .str i ∧ y = .str j ∧ i.length + j.length ≤ sizeLine ∧ Q (.str (i ++ j)) H) := by
  intro pins s σ H x y v u Q I rx ry h
  obtain ⟨i, j, rfl, rfl, hz, q⟩ := h
  obtain ⟨t, rfl⟩ := rx
  obtain ⟨t', rfl⟩ := ry
  exact add_str (fun t' tk => ⟨.str (i ++ j), H, I.tok _, ⟨_, rfl⟩, q⟩) hz
/-! ### scalar builtins, by CallR -/
theorem vals1 {x : V} {us : List Value} (r : Vals [x] us) : ∃ u, us = [u] ∧ RelV x u := by
  cases r with
  | cons r1 r2 => cases r2; exact ⟨_, rfl, r1⟩
theorem vals2 {x y : V} {us : List Value} (r : Vals [x, y] us) : ∃ u w', us = [u, w'] ∧ RelV x u ∧ RelV y w' := by
  cases r with
  | cons r1 r2 =>
    cases r2 with
    | cons r3 r4 => cases r4; exact ⟨_, _, rfl, r1, r3⟩
theorem call_int1 : CallR X (.type "int") (fun xs H Q => (∃ i, xs = [.int i] ∧ Q (.int i) H) ∨ ∃ k, xs = [.bl k] ∧ Q (.int (if k then 1 else 0)) H) := by
  intro pins s σ H xs us Q I r h
  rcases h with ⟨i, rfl, q⟩ | ⟨k, rfl, q⟩
  · obtain ⟨u, rfl, t, rfl⟩ := vals1 r
    exact call_int_int ⟨.int i, H, I, ⟨_, rfl⟩, q⟩
  · obtain ⟨u, rfl, r1⟩ := vals1 r
    cases r1
    exact call_int_bool ⟨.int (if k then 1 else 0), H, I.tok _, ⟨_, rfl⟩, q⟩
end
end L2
namespace L2
open PySem PySem.Spec PyProof.Rows
/-! ### an instance, its attributes a map -/
structure ObjM (h : Heap) (x dx C : Addr) (mA : Str → Option Value) : Prop where
  obj : h.get? x = some (PySem.W.instObj C dx)
  ns : h.Ns1 dx mA
  ne : dx ≠ x

theorem lookIn_ns {h : Heap} {dx : Addr} {mA : Str → Option Value} (n : h.Ns1 dx mA) : ∃ od, h.get? dx = some od ∧ ∀ name, PySem.W.lookIn name od = some (mA name) := by
  obtain ⟨o, es, ep, ho, hd, hk, _, hm⟩ := n
  refine ⟨o, ho, fun name => ?_⟩
  have e := hm name
  unfold nsFind findBy at e
  rw [← Array.find?_toList] at e
  unfold PySem.W.lookIn
  rw [hd]
  dsimp only
  split
  · rename_i y q
    rw [q] at e
    exact congrArg some e
  · rename_i q
    rw [q] at e
    have a : es.toList.any (·.refKey) = false := by
      rw [List.any_eq_false]
      intro y hy
      obtain ⟨z, t, hkey⟩ := hk y (Array.mem_toList_iff.mp hy)
      simp [DictEntry.refKey, hkey]
    have a' : ¬ es.toList.any (·.refKey) = true := by rw [a]; exact Bool.false_ne_true
    rw [if_neg a']
    exact congrArg some e

theorem ObjM.look {h : Heap} {x dx C : Addr} {mA : Str → Option Value} (I : ObjM h x dx C mA) : ∃ od, PySem.W.InstAt h x (PySem.W.instObj C dx) C (some od) ∧ ∀ name, PySem.W.lookIn name od = some (mA name) :=
  let ⟨od, ho, hl⟩ := lookIn_ns I.ns
  ⟨od, ⟨I.obj, rfl, rfl, ho⟩, hl⟩

section
variable {prog : Program} {w : World} {A : Around} {E : Value → Shared → Prop} {s : Shared} {K : PySem.W.Frag} {x dx C f : Addr} {mA : Str → Option Value} {name : Str} {v : Value}
theorem get_map {expr : Bool} {Q : Value → Shared → Prop} (X : K.In s.heap) (I : ObjM s.heap x dx C mA) (hg : PySem.W.plainGet K C name = true) (hh : PySem.W.hasDictIn K C = true)
    (ha : PySem.W.findIn K (.ref C) name = some none) (hv : mA name = some v) (hv' : PySem.W.handedIn v = true) (h : Q v { s with toks := s.toks + 1 }) :
    wpAny (model prog w) A (getAttr (.ref x) name expr) Q E s := by
  obtain ⟨od, J, hl⟩ := I.look
  exact PySem.W.get_value X J (PySem.W.plainGet_of hg).1 (PySem.W.findObj_own hh ha rfl (by rw [hl, hv])) hv' h

theorem get_meth {pl : Sem Bool} {Q : Value × List Value → Shared → Prop} (X : K.In s.heap) (I : ObjM s.heap x dx C mA) (hg : PySem.W.plainGet K C name = true)
    (hf : PySem.W.findIn K (.ref C) name = some (some (.ref f))) (ht : PySem.W.isFn K (.ref f) = true) (hv : mA name = none) (h : Q (.ref f, [.ref x]) s) :
    wpAny (model prog w) A (getMethod (.ref x) name pl) Q E s := by
  obtain ⟨od, J, hl⟩ := I.look
  exact PySem.W.method_fn X J (PySem.W.plainGet_of hg).1 (PySem.W.plainGet_of hg).2 hf (beq_iff_eq.mp ht) (by show (PySem.W.lookIn name od).map (·.isSome) = some false; rw [hl, hv]; rfl) h

theorem set_map {ns : List Str} {Q : Unit → Shared → Prop} (X : K.In s.heap) (I : ObjM s.heap x dx C mA)
    (hs : PySem.W.findIn K (.ref C) "__setattr__" = some (some (.builtin "object.__setattr__"))) (hp : PySem.W.plainOver K C = true) (ht : PySem.W.takerIn K C name = some none) (hh : PySem.W.hasDictIn K C = true)
    (hw : PySem.Within mA ns) (hsz : ns.length ≤ sizeLine)
    (h : ∀ h', ObjM h' x dx C (fun y => if y = name then some v else mA y) → Heap.SameBut dx s.heap h' → Q () { s with heap := h', toks := s.toks + 2 }) :
    wpAny (model prog w) A (setAttr (.ref x) name v) Q E s := by
  obtain ⟨od, J, hl⟩ := I.look
  refine PySem.W.set_plain X J hs (PySem.W.osa_open (s := { s with toks := s.toks + 1 }) (r := none) X J hp ht fun b => ?_)
  obtain ⟨cd, hc, hd'⟩ := PySem.W.any_some hh
  have hx : s.heap.get? x = some ⟨.ref C, some dx, .plain, #[]⟩ := I.obj
  refine wpAny_bind (wpAny_pure (wpAny_bind (wpAny_bind (wpAny_loadPart hx (wpAny_bind (PySem.W.Looks.here (s := { s with toks := s.toks + 1 }) (PySem.W.looks_clsIn X hc) ?_))))))
  rw [hd']
  refine wpAny_pure (a := some dx) (wpAny_bind (wpAny_pure (wpAny_bind ?_)))
  refine wpAny_nsSet1 (s := { s with toks := s.toks + 1 }) I.ns fun h' hn2 hs2 => ?_
  obtain ⟨oD, esD, epD, hoD, hdD, hcD⟩ := hn2.count (PySem.Within.cons name v hw)
  refine wpAny_bind (wpAny_lookBehind hoD (by rw [hdD]; exact pastItsLine_dict (Nat.le_trans hcD (by rw [List.length_cons]; omega))) ?_)
  exact wpAny_pure (h _ ⟨(hs2.2 _ (Ne.symm I.ne)).trans I.obj, hn2, I.ne⟩ hs2)

/-- C(..): the dict at the heap's end, the instance behind it; then its __init__ -/
theorem make_map {R : Result → Shared → Prop} {vs : List Value} {kw : List (Str × Value)} (X : K.In s.heap) (hm : PySem.W.makesIn K C = true)
    (hi : PySem.W.findIn K (.ref C) "__init__" = some (some (.ref f))) (hf : PySem.W.typeIn K (.ref f) = some (.type "function"))
    (h : codeAny (model prog w) (A.under (.builtin "type.__call__" ⟨.ref C :: vs, kw⟩)) (.call (.ref f) ⟨.ref (s.heap.objs.size + 1) :: vs, kw⟩) (PySem.W.InitBack (s.heap.objs.size + 1) R)
      { s with heap := (s.heap.push PySem.W.emptyDict).push (PySem.W.instObj C s.heap.objs.size) }) :
    codeAny (model prog w) A (.call (.ref C) ⟨vs, kw⟩) R s := by
  obtain ⟨hh, g, d, t, os⟩ := s
  exact PySem.W.make_core (PySem.W.makes_of X hm) (PySem.W.looks_findIn X hi) (fun self => PySem.W.bind_fn X self hf) (.inl rfl) h
end
/-! ### the attributes as a list of pairs -/
def putF (f : Str) (v : V) : List (Str × V) → List (Str × V)
  | [] => [(f, v)]
  | (g, x) :: r => if g = f then (g, v) :: r else (g, x) :: putF f v r
theorem lookup_putF (f g : Str) (v : V) : ∀ fs : List (Str × V), (putF f v fs).lookup g = if g = f then some v else fs.lookup g
  | [] => by
    show List.lookup g [(f, v)] = _
    by_cases h : g = f
    · have hb : (g == f) = true := beq_iff_eq.mpr h
      simp only [List.lookup, hb, if_pos h]
    · have hb : (g == f) = false := beq_eq_false_iff_ne.mpr h
      simp only [List.lookup, hb, if_neg h]
  | (k, x) :: r => by
    have ih := lookup_putF f g v r
    rw [show putF f v ((k, x) :: r) = (if k = f then (k, v) :: r else (k, x) :: putF f v r) from rfl]
    by_cases hk : k = f
    · rw [if_pos hk]
      by_cases h : g = k
      · have hb : (g == k) = true := beq_iff_eq.mpr h
        simp only [List.lookup, hb, if_pos (h.trans hk)]
      · have hb : (g == k) = false := beq_eq_false_iff_ne.mpr h
        simp only [List.lookup, hb, if_neg (fun e : g = f => h (e.trans hk.symm))]
    · rw [if_neg hk]
      by_cases h : g = k
      · have hb : (g == k) = true := beq_iff_eq.mpr h
        simp only [List.lookup, hb, if_neg (fun e : g = f => hk (h.symm.trans e))]
      · have hb : (g == k) = false := beq_eq_false_iff_ne.mpr h
        simp only [List.lookup, hb]
        exact ih
theorem keys_putF (f : Str) (v : V) : ∀ fs : List (Str × V), f ∈ (putF f v fs).map (·.1) ∧ ∀ g, g ∈ fs.map (·.1) → g ∈ (putF f v fs).map (·.1)
  | [] => ⟨by simp [putF], fun g h => by simp at h⟩
  | (k, x) :: r => by
    obtain ⟨i1, i2⟩ := keys_putF f v r
    rw [show putF f v ((k, x) :: r) = (if k = f then (k, v) :: r else (k, x) :: putF f v r) from rfl]
    by_cases hk : k = f
    · rw [if_pos hk]
      subst hk
      exact ⟨by simp, fun g h => by simpa using h⟩
    · rw [if_neg hk]
      refine ⟨?_, fun g h => ?_⟩
      · rw [List.map_cons]
        exact List.mem_cons_of_mem _ i1
      · rw [List.map_cons] at h ⊢
        rcases List.mem_cons.mp h with e | e
        · exact List.mem_cons.mpr (.inl e)
        · exact List.mem_cons_of_mem _ (i2 g e)
theorem length_putF (f : Str) (v : V) : ∀ fs : List (Str × V), (putF f v fs).length ≤ fs.length + 1
  | [] => by simp [putF]
  | (k, x) :: r => by
    have ih := length_putF f v r
    rw [show putF f v ((k, x) :: r) = (if k = f then (k, v) :: r else (k, x) :: putF f v r) from rfl]
    by_cases hk : k = f
    · rw [if_pos hk, List.length_cons, List.length_cons]; omega
    · rw [if_neg hk, List.length_cons, List.length_cons]; omega

theorem RelO.some_of {v : V} {o : Option Value} (r : RelO (some v) o) : ∃ u, o = some u ∧ RelV v u := by
  cases o with
  | none => exact (show False from r).elim
  | some u => exact ⟨u, rfl, r⟩
theorem RelO.none_of {o : Option Value} (r : RelO none o) : o = none := by
  cases o with
  | none => rfl
  | some u => exact (show False from r).elim
theorem handed_of {v : V} {u : Value} (r : RelV v u) : PySem.W.handedIn u = true := by
  cases v with
  | non => cases (show u = Value.none from r); rfl
  | bl b => cases (show u = Value.bool b from r); rfl
  | int i => obtain ⟨t, e⟩ := (show ∃ t, u = Value.int i t from r); cases e; rfl
  | str x => obtain ⟨t, e⟩ := (show ∃ t, u = Value.str x t from r); cases e; rfl
  | byt b => obtain ⟨t, e⟩ := (show ∃ t, u = Value.bytes b t from r); cases e; rfl
  | flt b => obtain ⟨t, e⟩ := (show ∃ t, u = Value.float b t from r); cases e; rfl
  | ref a => cases (show u = Value.ref a from r); rfl
  | ty n => cases (show u = Value.type n from r); rfl

section
variable {P : Program} {w : World} {H H' : Hp} {h h' : Heap} {a C dx : Addr} {fs fs' : List (Str × V)}
theorem ins_get (hok : HOk P w H h) (e : H a = some (.ins C dx fs)) : ∃ mA, ObjM h a dx C mA ∧ (∀ f, RelO (fs.lookup f) (mA f)) ∧ PySem.Within mA (fs.map (·.1)) ∧ fs.length ≤ 1000 ∧ H dx = some (.own a) := by
  obtain ⟨d, z, ne, ob, mA, n, r, q⟩ := (show ObjOk P w H h a (.ins C dx fs) from hok a _ e)
  exact ⟨mA, ⟨ob, n, ne⟩, r, q, z, d⟩
end
/-! ### what of the text a class must have -/
structure Cls (K : PySem.W.Frag) (C : Addr) : Prop where
  pg : PySem.W.plainGet K C Str.empty = true
  hd : PySem.W.hasDictIn K C = true
  po : PySem.W.plainOver K C = true
  sa : PySem.W.findIn K (.ref C) "__setattr__" = some (some (.builtin "object.__setattr__"))
theorem Cls.get {K : PySem.W.Frag} {C : Addr} (c : Cls K C) (f : Str) : PySem.W.plainGet K C f = true := c.pg
/-- no class of it has the name -/
def NoAttr (K : PySem.W.Frag) (C : Addr) (f : Str) : Prop := PySem.W.findIn K (.ref C) f = some none
theorem NoAttr.taker {K : PySem.W.Frag} {C : Addr} {f : Str} (n : NoAttr K C f) : PySem.W.takerIn K C f = some none := by
  unfold PySem.W.takerIn
  rw [show PySem.W.findIn K (.ref C) f = some none from n]
  rfl
/-- a method: a plain def of the class or of one above it -/
structure Meth (K : PySem.W.Frag) (C : Addr) (m : Str) (f : Addr) : Prop where
  at_ : PySem.W.findIn K (.ref C) m = some (some (.ref f))
  fn : PySem.W.isFn K (.ref f) = true
  kp : PySem.W.keepIn K (.ref f) = true

section
variable {X : Cx} {pins : List (Addr × Obj)} {σ : St} {H : Hp} {s : Shared} {a C dx : Addr} {fs : List (Str × V)} {f : Str} {v : V} {A : Around} {E : Value → Shared → Prop}
theorem getattr_ok {b : Bool} {Q : Value → Shared → Prop} (I : Inv X pins σ H s) (e : H a = some (.ins C dx fs)) (c : Cls X.K C) (n : NoAttr X.K C f) (l : fs.lookup f = some v)
    (h : ∀ u s', Inv X pins σ H s' → RelV v u → Q u s') : wpAny (model X.prog X.w) A (getAttr (.ref a) f b) Q E s := by
  obtain ⟨mA, O, r, _, _, _⟩ := ins_get I.hok e
  obtain ⟨u, hu, ru⟩ := RelO.some_of (v := v) (o := mA f) (by rw [← l]; exact r f)
  exact get_map I.kIn O (c.get f) c.hd n hu (handed_of ru) (h u _ (I.tok _) ru)

theorem getmeth_ok {m : Str} {g : Addr} {pl : Sem Bool} {Q : Value × List Value → Shared → Prop} (I : Inv X pins σ H s) (e : H a = some (.ins C dx fs)) (c : Cls X.K C) (k : Meth X.K C m g) (l : fs.lookup m = none)
    (h : Q (.ref g, [.ref a]) s) : wpAny (model X.prog X.w) A (getMethod (.ref a) m pl) Q E s := by
  obtain ⟨mA, O, r, _, _, _⟩ := ins_get I.hok e
  have hn : mA m = none := RelO.none_of (by rw [← l]; exact r m)
  exact get_meth I.kIn O (c.get m) k.at_ k.fn hn h

theorem setattr_ok {y : V} {u : Value} {Q : Unit → Shared → Prop} (I : Inv X pins σ H s) (e : H a = some (.ins C dx fs)) (c : Cls X.K C) (n : NoAttr X.K C f) (hl : fs.length < 1000) (ry : RelV y u)
    (h : ∀ s', Inv X pins σ (upd H a (.ins C dx (putF f y fs))) s' → Q () s') : wpAny (model X.prog X.w) A (setAttr (.ref a) f u) Q E s := by
  obtain ⟨mA, O, r, wi, _, ho⟩ := ins_get I.hok e
  have hz : (fs.map (·.1)).length ≤ sizeLine := by rw [List.length_map, sizeLine_eq]; omega
  refine set_map I.kIn O c.sa c.po n.taker c.hd wi hz fun h' O' sb => h _ ?_
  have hd : ∃ o, h'.get? dx = some o := let ⟨o, _, _, e', _⟩ := O'.ns; ⟨o, e'⟩
  refine I.write (x := a) (e := dx) (by rw [e]; exact True.intro) (.inr ho) (fun b q hb z => (sb.2 b hb).trans z) hd ?_
  refine ⟨by rw [upd_ne O.ne]; exact ho, ?_, O.ne, O'.obj, _, O'.ns, fun g => ?_, fun g hg => ?_⟩
  · have := length_putF f y fs; omega
  · show RelO ((putF f y fs).lookup g) (if g = f then some u else mA g)
    rw [lookup_putF]
    by_cases q : g = f
    · rw [if_pos q, if_pos q]; exact ry
    · rw [if_neg q, if_neg q]; exact r g
  · by_cases q : g = f
    · rw [q]; exact (keys_putF f y fs).1
    · refine (keys_putF f y fs).2 g (wi g fun z => hg ?_)
      show (if g = f then some u else mA g) = none
      rw [if_neg q]; exact z

/-- a new instance, tracked, without attributes -/
theorem Inv.made (I : Inv X pins σ H s) : Inv X pins σ (upd (upd H s.heap.objs.size (.own (s.heap.objs.size + 1))) (s.heap.objs.size + 1) (.ins C s.heap.objs.size []))
    { s with heap := (s.heap.push PySem.W.emptyDict).push (PySem.W.instObj C s.heap.objs.size) } := by
  have e1 : (s.heap.push PySem.W.emptyDict).get? s.heap.objs.size = some PySem.W.emptyDict := Heap.get?_push_size s.heap rfl
  have e2 : ((s.heap.push PySem.W.emptyDict).push (PySem.W.instObj C s.heap.objs.size)).get? (s.heap.objs.size + 1) = some (PySem.W.instObj C s.heap.objs.size) := by
    have := Heap.get?_push_size (s.heap.push PySem.W.emptyDict) (o := PySem.W.instObj C s.heap.objs.size) rfl
    rwa [Heap.size_push] at this
  have e3 : (s.heap.push PySem.W.emptyDict).Ns s.heap.objs.size (fun _ => none) := ⟨PySem.W.emptyDict, #[], _, e1, rfl, (fun e he => absurd he (by simp)), fun _ => rfl⟩
  have I1 := I.laid (a := s.heap.objs.size) (o := .own (s.heap.objs.size + 1)) (h' := s.heap.push PySem.W.emptyDict) (t' := s.toks) (fun b u q => Heap.get?_push_of_some _ q) (Nat.le_refl _) ⟨_, e1⟩
  refine I1.laid (a := s.heap.objs.size + 1) (o := .ins C s.heap.objs.size []) (t' := s.toks) (fun b u q => Heap.get?_push_of_some _ q) (Nat.le_of_eq (Heap.size_push _ _)) ?_
  have ne : s.heap.objs.size ≠ s.heap.objs.size + 1 := Nat.ne_of_lt (Nat.lt_succ_self _)
  refine ⟨by rw [upd_ne ne, upd_same], Nat.zero_le _, ne, e2, fun _ => none, (Heap.Ns1.of_empty e3).at fun o q => Heap.get?_push_of_some _ q, fun _ => True.intro, fun y hy => absurd rfl hy⟩

/-- e.f where nothing but the object is asked: through attributeBase (super) and the last hold -/
theorem attr_of {prog : Program} {w : World} {env : Env} {e : Expr} {f : Str} {pos : Pos} {s : Shared} {Q : Value → Shared → Prop} (hb : attributeBase e f env (eval e env) = eval e env)
    (h : wpAny (model prog w) A (eval e env) (fun o s₁ => wpAny (model prog w) A (getAttr o f true) Q E s₁) E s) : wpAny (model prog w) A (eval (.Attribute e f pos) env) Q E s :=
  Attribute_any_ h (by rw [arm_eval_Attribute, hb])
end
/-! ### readings and rules -/
/-- e.f, an attribute of the instance -/
def tFld (K : PySem.W.Frag) (ta : TE) (f : Str) : TE := fun σ H Q => ta σ H fun x H1 => ∃ a C dx fs v, x = .ref a ∧ H1 a = some (.ins C dx fs) ∧ Cls K C ∧ NoAttr K C f ∧ fs.lookup f = some v ∧ Q v H1
/-- e.f = value -/
def sFld (K : PySem.W.Frag) (ta tv : TE) (f : Str) : TS := fun D σ H => tv σ H fun y H1 => ta σ H1 fun x H2 => ∃ a C dx fs, x = .ref a ∧ H2 a = some (.ins C dx fs) ∧ Cls K C ∧ NoAttr K C f ∧ fs.length < 1000 ∧
  D.nx σ (upd H2 a (.ins C dx (putF f y fs)))
section
variable {X : Cx} {o e value : Expr} {f : Str} {pos pos' tpos : Pos} {ta tv : TE}
theorem pe_fld (he : PE X e ta) (hb : attributeBase e f X.env (eval e X.env) = eval e X.env) : PE X (.Attribute e f pos) (tFld X.K ta f) := by
  intro pins s σ H Q I h
  refine attr_of hb (thn (he pins s σ H _ I h) fun u s1 ⟨x, H1, I1, rx, a, C, dx, fs, v, ex, ea, c, n, l, q⟩ => ?_)
  subst ex
  obtain rfl : u = Value.ref a := rx
  exact getattr_ok I1 ea c n l fun u' s2 I2 ru => ⟨v, H1, I2, ru, q⟩
theorem ps_fld (ha : PE X o ta) (hv : PE X value tv) (hs : swapsWith value (some (.Attribute o f pos')) pos.line X.env = pure false) : PS X (.Assign [.Attribute o f pos'] value pos) (sFld X.K ta tv f) := by
  intro pins s σ H D I h
  refine plainObj_wpAny_Assign_Attribute (thn (hv pins s σ H _ I h) fun u s1 ⟨y, H1, I1, ry, q⟩ => thn (ha pins s1 σ H1 _ I1 q) fun ov s2 ⟨x, H2, I2, rx, a, C, dx, fs, ex, ea, c, n, l, q2⟩ => ?_) hs
  subst ex
  obtain rfl : ov = Value.ref a := rx
  exact setattr_ok I2 ea c n l ry fun s3 I3 => ⟨σ, _, I3, q2⟩
/-- what is between an instance and its method: the tree of a method call -/
theorem methcall_of {pl : Sem Bool} {m : Str} {apos : Pos} {args : List Expr} {pins : List (Addr × Obj)} {s : Shared} {σ : St} {H : Hp} {Q : Value → Shared → Prop} {te : TE} (he : PE X e te) (I : Inv X pins σ H s)
    (h : te σ H fun x H1 => ∃ a C dx fs g, x = .ref a ∧ H1 a = some (.ins C dx fs) ∧ Cls X.K C ∧ Meth X.K C m g ∧ fs.lookup m = none ∧
      ∀ s1, Inv X pins σ H1 s1 → wpAny (model X.prog X.w) X.A (callWith pos (.ref g) [.ref a] (backTo pos (starEach args X.env)) (backToKw pos (keywordEach [] X.env))) Q X.xe s1)
    (ht : eval (.Call (.Attribute e m apos) args [] pos) X.env = (do
      let ov ← eval e X.env
      standAt apos.atName
      let (f, first) ← holding [ov] (getMethod ov m pl)
      callWith pos f first (backTo pos (starEach args X.env)) (backToKw pos (keywordEach [] X.env)))) :
    wpAny (model X.prog X.w) X.A (eval (.Call (.Attribute e m apos) args [] pos) X.env) Q X.xe s := by
  refine PySem.W.methodCall_KW (pl := pl) (thn (he pins s σ H _ I h) fun u s1 ⟨x, H1, I1, rx, a, C, dx, fs, g, ex, ea, c, k, l, q⟩ => ?_) ht
  subst ex
  obtain rfl : u = Value.ref a := rx
  exact getmeth_ok I1 ea c k l (q s1 I1)
end
/-! ### isinstance -/
section
variable {X : Cx} {pins : List (Addr × Obj)} {σ : St} {H : Hp} {s : Shared} {A : Around} {E : Value → Shared → Prop} {Q : Value → Shared → Prop} {c : Value} {b : Bool}
/-- the type of a value, as the fragment's deciders take it; for an instance its class -/
inductive TyOf (K : PySem.W.Frag) (H : Hp) : V → Value → Prop where
  | non : TyOf K H .non (.type "NoneType")
  | bl (x : Bool) : TyOf K H (.bl x) (.type "bool")
  | int (i : Int) : TyOf K H (.int i) (.type "int")
  | str (x : Str) : TyOf K H (.str x) (.type "str")
  | flt (x : UInt64) : TyOf K H (.flt x) (.type "float")
  | lst {a : Addr} {xs : List V} (e : H a = some (.lst xs)) : TyOf K H (.ref a) (.type "list")
  | frz {a : Addr} {o : Obj} {xs : List V} (e : H a = some (.frz o (.lst xs))) : TyOf K H (.ref a) (.type "list")
  | tup {a : Addr} {xs : List V} (e : H a = some (.tup xs)) : TyOf K H (.ref a) (.type "tuple")
  | dK {a : Addr} {kvs : List (Key × V)} (e : H a = some (.dK kvs)) : TyOf K H (.ref a) (.type "dict")
  | dT {a : Addr} {kvs : List (List Key × V)} (e : H a = some (.dT kvs)) : TyOf K H (.ref a) (.type "dict")
  | ins {a C dx : Addr} {fs : List (Str × V)} (e : H a = some (.ins C dx fs)) (cl : Cls K C) (ha : PySem.W.findIn K (.ref C) "__class__" = some (some (.builtin "object.__class__")))
      (hn : PySem.W.specialIn K (.builtin "object.__class__") "__get__" = some (some (.builtin "getset_descriptor.__get__"))) (htk : PySem.W.takesIn K (.builtin "object.__class__") = some true)
      (hm : PySem.W.mroIn K C (.type "object") = some true) : TyOf K H (.ref a) (.ref C)
/-- isinstance(x, c) for one class c, a built-in or an own one: kitOne's answer -/
theorem isinst_ok {x : V} {u t : Value} (I : Inv X pins σ H s) (rx : RelV x u) (ty : TyOf X.K H x t) (e : PySem.W.kitOne X.K t c = some b) (h : ∀ tk, Q (.bool b) { s with toks := tk }) :
    wpAny (model X.prog X.w) A (call (.builtin "isinstance") [u, c]) Q E s := by
  cases ty with
  | non => cases (show u = Value.none from rx); exact PySem.W.kia_one PySem.W.kitx_none I.kIn True.intro e (fun z => nomatch z) h
  | bl y => cases (show u = Value.bool y from rx); exact PySem.W.kia_one PySem.W.kitx_bool I.kIn True.intro e (fun z => nomatch z) h
  | int i => obtain ⟨t, q⟩ := (show ∃ t, u = Value.int i t from rx); cases q; exact PySem.W.kia_one PySem.W.kitx_int I.kIn True.intro e (fun z => nomatch z) h
  | str y => obtain ⟨t, q⟩ := (show ∃ t, u = Value.str y t from rx); cases q; exact PySem.W.kia_one PySem.W.kitx_str I.kIn True.intro e (fun z => nomatch z) h
  | flt y => obtain ⟨t, q⟩ := (show ∃ t, u = Value.float y t from rx); cases q; exact PySem.W.kia_one PySem.W.kitx_float I.kIn True.intro e (fun z => nomatch z) h
  | @lst a xs ea =>
    cases (show u = Value.ref a from rx)
    obtain ⟨_, _, n, _, h1⟩ := (show ObjOk X.prog X.w H s.heap a (.lst xs) from I.hok a _ ea)
    exact PySem.W.kia_one PySem.W.kitx_list I.kIn ⟨_, h1, rfl⟩ e (fun z => nomatch z) h
  | @frz a ob xs ea =>
    cases (show u = Value.ref a from rx)
    obtain ⟨_, _, _, n, _, h1⟩ := (show ObjOk X.prog X.w H s.heap a (.frz ob (.lst xs)) from I.hok a _ ea)
    exact PySem.W.kia_one PySem.W.kitx_list I.kIn ⟨_, h1, rfl⟩ e (fun z => nomatch z) h
  | @tup a xs ea =>
    cases (show u = Value.ref a from rx)
    obtain ⟨_, _, _, p⟩ := (show ObjOk X.prog X.w H s.heap a (.tup xs) from I.hok a _ ea)
    obtain ⟨o, h1, h2, _⟩ := p
    exact PySem.W.kia_one PySem.W.kitx_tuple I.kIn ⟨o, h1, h2⟩ e (fun z => nomatch z) h
  | @dK a kvs ea =>
    cases (show u = Value.ref a from rx)
    obtain ⟨_, _, vs, _, p⟩ := (show ObjOk X.prog X.w H s.heap a (.dK kvs) from I.hok a _ ea)
    obtain ⟨o, es, ep, h1, h2, _⟩ := p
    exact PySem.W.kia_one PySem.W.kitx_dict I.kIn ⟨o, h1, h2.1⟩ e (fun z => nomatch z) h
  | @dT a kvs ea =>
    cases (show u = Value.ref a from rx)
    obtain ⟨_, _, xs, _, o, es, ep, h1, h2, _⟩ := (show ObjOk X.prog X.w H s.heap a (.dT kvs) from I.hok a _ ea)
    exact PySem.W.kia_one PySem.W.kitx_dict I.kIn ⟨o, h1, h2.1⟩ e (fun z => nomatch z) h
  | @ins a C dx fs ea cl ha hn htk hm =>
    cases (show u = Value.ref a from rx)
    obtain ⟨mA, O, _⟩ := ins_get I.hok ea
    obtain ⟨od, J, _⟩ := O.look
    exact PySem.W.kia_one (PySem.W.kitx_own (cl.get _) cl.hd ha hn htk hm) I.kIn J e (fun z => nomatch z) h
end
end L2
namespace L2
open PySem PySem.Spec PyProof.Rows
/-! ### room -/
structure Room (k : Nat) (A : Around) : Prop where
  hd : A.handled = none
  dp : A.depth + 3 * k + 5 < recursionLimit
  un : A.units + 16 * k + 200 < cLine
theorem Room.mono {j k : Nat} {A : Around} (r : Room k A) (h : j ≤ k) : Room j A := ⟨r.hd, by have := r.dp; omega, by have := r.un; omega⟩
theorem Room.deeper {k : Nat} {A : Around} (r : Room (k + 1) A) (env : Env) : Room k (A.deeper env) :=
  ⟨r.hd, by have := r.dp; show A.depth + 1 + 3 * k + 5 < _; omega, by have := r.un; show A.units + 3 + 16 * k + 200 < _; omega⟩
theorem make_depth {A : Around} {C : Addr} {us : List Value} {kw : List (Str × Value)} : (A.under (.builtin "type.__call__" ⟨.ref C :: us, kw⟩)).depth = A.depth + 1 := by
  first | rfl | simp [Around.under, Code.weight, Code.isCreation, Code.isGuard, Code.isCaller, Code.frames, Code.isFrame, guardIds]
theorem make_units {A : Around} {C : Addr} {us : List Value} {kw : List (Str × Value)} : (A.under (.builtin "type.__call__" ⟨.ref C :: us, kw⟩)).units = A.units + 1 := by
  first | rfl | simp [Around.under, Code.cUnits, Code.frames, Code.isFrame]
theorem Room.make {k : Nat} {A : Around} (r : Room (k + 1) A) (C : Addr) (us : List Value) (kw : List (Str × Value)) : Room k (A.under (.builtin "type.__call__" ⟨.ref C :: us, kw⟩)) :=
  ⟨r.hd, by have := r.dp; rw [make_depth]; omega, by have := r.un; rw [make_units]; omega⟩
theorem Room.depth {k : Nat} {A : Around} (r : Room k A) : A.depth < recursionLimit := by have := r.dp; omega
theorem Room.units {k : Nat} {A : Around} (r : Room k A) : A.units + 64 < cLine := by have := r.un; omega
/-! ### argument lists and displays -/
def tNil : TA := fun _ H Q => Q [] H
def tCons (ta : TE) (tr : TA) : TA := fun σ H Q => ta σ H fun x H1 => tr σ H1 fun xs H2 => Q (x :: xs) H2
section
variable {X : Cx} {e : Expr} {es : List Expr} {te : TE} {t : TA} {pos : Pos}
theorem pa_nil : PA X [] tNil := fun _ _ _ _ H Q I h => Calls.spliced_nil ⟨[], H, I, .nil, h⟩
theorem pa_cons (ha : PE X e te) (hr : PA X es t) (hs : starEach (e :: es) X.env = (false, eval e X.env) :: starEach es X.env := by rfl) : PA X (e :: es) (tCons te t) := by
  intro pos pins s σ H Q I h
  rw [hs]
  show wpAny _ _ (spliced ((false, eval e X.env) :: backTo pos (starEach es X.env))) _ _ s
  refine Calls.spliced_cons (thn (ha pins s σ H _ I h) fun u s1 ⟨x, H1, I1, r1, q1⟩ => ?_)
  exact thn (hr pos pins s1 σ H1 _ I1 q1) fun us s2 ⟨xs, H2, I2, r2, q2⟩ => ⟨x :: xs, H2, I2, .cons r1 r2, q2⟩

/-- a tuple, a list of written items -/
def tTup (t : TA) : TE := fun σ H Q => t σ H fun xs H1 => xs.length ≤ sizeLine ∧ ∀ p, H1 p = none → Q (.ref p) (upd H1 p (.tup xs))
def tLst (t : TA) : TE := fun σ H Q => t σ H fun xs H1 => xs.length ≤ sizeLine ∧ ∀ p, H1 p = none → Q (.ref p) (upd H1 p (.lst xs))
theorem pe_tup {x1} (h : PA X es t) : PE X (.Tuple es x1 pos) (tTup t) := by
  intro pins s σ H Q I hq
  refine wpAny_Tuple_spliced (thn (h pos pins s σ H _ I hq) fun us s1 ⟨xs, H1, I1, r, z, q⟩ => ⟨by rw [← r.length]; exact z, ?_⟩)
  have hf : H1 s1.heap.objs.size = none := I1.hok.fresh (Nat.le_refl _)
  refine ⟨.ref s1.heap.objs.size, upd H1 s1.heap.objs.size (.tup xs), I1.laid (t' := s1.toks) (fun b u e => Heap.get?_push_of_some _ e) (Nat.le_refl _) ?_, rfl, q _ hf⟩
  exact ⟨z, us, r, ⟨_, Heap.get?_push_size _ rfl, rfl, _, rfl⟩⟩
theorem pe_lst (h : PA X es t) : PE X (.List es pos) (tLst t) := by
  intro pins s σ H Q I hq
  refine wpAny_List_spliced (thn (h pos pins s σ H _ I hq) fun us s1 ⟨xs, H1, I1, r, z, q⟩ => ⟨by rw [← r.length]; exact z, ?_⟩)
  have hf : H1 s1.heap.objs.size = none := I1.hok.fresh (Nat.le_refl _)
  refine ⟨.ref s1.heap.objs.size, upd H1 s1.heap.objs.size (.lst xs), I1.laid (t' := s1.toks) (fun b u e => Heap.get?_push_of_some _ e) (Nat.le_refl _) ?_, rfl, q _ hf⟩
  exact ⟨z, us, 0, r, Heap.get?_push_size _ rfl⟩
end
/-! ### what a def promises -/
/-- a def's promise: the bound arguments in the parameters' order, the heap, the wanted end, the wanted exception -/
abbrev Sp := List V → Hp → VK → XK → Prop
/-- how an exception lies behind a call (file 08 gives it): the callers' frames, abstract heap and state ahead of the call, the wish, the exception, the state -/
abbrev CXT := List Env → Hp → Shared → XK → Value → Shared → Prop

/-- the state at a call -/
structure Env0 (P : Program) (w : World) (K : PySem.W.Frag) (mg : Str → Option Value) (base : Heap) (A : Around) (outer : List Env) (s : Shared) (H : Hp) : Prop where
  frames : A.frames = some outer
  mod : Mod K mg base
  bs : ∀ b o, base.get? b = some o → s.heap.get? b = some o ∧ H b = none
  bsz : base.objs.size ≤ s.heap.objs.size
  funs : s.heap.FunFrames base outer
  frf : ∀ b ∈ frs outer, H b = none
  hok : HOk P w H s.heap
  bare : AllBare s.gens
/-- a call's end -/
def CE (outer : List Env) (P : Program) (w : World) (H : Hp) (s : Shared) (Q : VK) (u : Value) (s' : Shared) : Prop :=
  ∃ v H', s'.os = s.os ∧ AllBare s'.gens ∧ Un (frs outer) [] H H' s.heap s'.heap ∧ HOk P w H' s'.heap ∧ RelV v u ∧ Q v H'
def CR (CX : CXT) (outer : List Env) (P : Program) (w : World) (H : Hp) (s : Shared) (Q : VK) (E : XK) (r : Result) (s' : Shared) : Prop :=
  match r with
  | .ok (.ret u) => CE outer P w H s Q u s'
  | .ok _ => False
  | .error e => CX outer H s E e s'
structure FnOk (P : Program) (w : World) (K : PySem.W.Frag) (mg : Str → Option Value) (base : Heap) (CX : CXT) (k : Nat) (f : Addr) (fd : FuncData) (ps : List Str) (sp : Sp) : Prop where
  len : ∀ vs H Q E, sp vs H Q E → vs.length = ps.length
  run : ∀ (A : Around) (outer : List Env) (s : Shared) (H : Hp) (args : Args) (us : List Value) (vs : List V) (Q : VK) (E : XK), Room k A → Env0 P w K mg base A outer s H → BindsTo s fd args (ps.zip us) → Vals vs us → sp vs H Q E →
    codeAny (model P w) A (.call (.ref f) args) (CR CX outer P w H s Q E) s
theorem Env0.make {P : Program} {w : World} {K : PySem.W.Frag} {mg : Str → Option Value} {base : Heap} {A : Around} {outer : List Env} {s : Shared} {H : Hp} (e : Env0 P w K mg base A outer s H) (C : Addr) (us : List Value) (kw : List (Str × Value)) :
    Env0 P w K mg base (A.under (.builtin "type.__call__" ⟨.ref C :: us, kw⟩)) outer s H := ⟨by first | exact e.frames | (simpa [Around.under, Code.envs, Code.isFrame, pushEnvs] using e.frames), e.mod, e.bs, e.bsz, e.funs, e.frf, e.hok, e.bare⟩
section
variable {X : Cx} {pins : List (Addr × Obj)} {σ : St} {H : Hp} {s s' : Shared}
/-- from a body: what a callee wants -/
theorem Inv.env0 (I : Inv X pins σ H s) : Env0 X.prog X.w X.K X.mg X.base X.A X.stack s H :=
  ⟨I.ok.frames, I.ok.mod, I.bs, Nat.le_trans I.ok.bsz I.sz, I.stack, I.stkFree, I.hok, I.bare⟩
/-- behind a call -/
theorem Inv.after {Q : VK} {u : Value} (I : Inv X pins σ H s) (h : CE X.stack X.prog X.w H s Q u s') : EP X pins σ Q u s' := by
  obtain ⟨v, H', os, bare, un, hok, r, q⟩ := h
  obtain ⟨hh, g, d, t, os'⟩ := s'
  obtain rfl : os' = s.os := os
  exact ⟨v, H', I.call (h' := hh) (g' := g) (d' := d) (t' := t) (ch := []) un hok bare (fun b z => absurd z (by simp)), r, q⟩
end
/-! ### calls -/
/-- f(..): the written arguments, then the defaults dvs; E: what is wanted of an exception -/
def tCall (sp : Sp) (dvs : List V) (E : XK) (t : TA) : TE := fun σ H Q => t σ H fun vs H1 => sp (vs ++ dvs) H1 Q E
/-- o.m(..) of an instance of the class at C -/
def tMeth (C : Addr) (m : Str) (sp : Sp) (dvs : List V) (E : XK) (ta : TE) (t : TA) : TE := fun σ H Q => ta σ H fun x H1 => ∃ a dx fs, x = .ref a ∧ H1 a = some (.ins C dx fs) ∧ fs.lookup m = none ∧
  t σ H1 fun vs H2 => sp (x :: (vs ++ dvs)) H2 Q E
/-- C(..): a new instance and its dict, then __init__ -/
def tMake (C : Addr) (sp : Sp) (dvs : List V) (E : XK) (t : TA) : TE := fun σ H Q => t σ H fun vs H1 => ∀ x dx, H1 x = none → H1 dx = none → dx ≠ x →
  sp (.ref x :: (vs ++ dvs)) (upd (upd H1 dx (.own x)) x (.ins C dx [])) (fun v H2 => v = .non ∧ Q (.ref x) H2) E

/-- how the parameters are bound: us the positional arguments, kw the keywords' values by name, ds the defaults that fill up -/
def Binds (K : PySem.W.Frag) (fd : FuncData) (ps : List Str) (ds : List Value) : Prop :=
  ∀ (s : Shared) (us : List Value), K.In s.heap → (us ++ ds).length = ps.length → BindsTo s fd ⟨us, []⟩ (ps.zip (us ++ ds))
/-- every parameter is given -/
theorem Binds.all {K : PySem.W.Frag} {fd : FuncData} {ps : List Str} (h : ∀ us : List Value, us.length = ps.length → bindArgs fd ⟨us, []⟩ = pure (ps.zip us)) : Binds K fd ps [] := fun s us _ hl => by
  rw [List.append_nil] at hl ⊢
  exact .of_eq (h us hl)

/-- an exception of a callee reaches what this body wants of exceptions -/
def Passes (CX : CXT) (X : Cx) (E : XK) : Prop := ∀ (pins : List (Addr × Obj)) (σ : St) (H : Hp) (s : Shared) (e : Value) (s' : Shared), Inv X pins σ H s → CX X.stack H s E e s' → X.xe e s'

section
variable {X : Cx} {CX : CXT} {k : Nat} {f C : Addr} {fd : FuncData} {ps : List Str} {sp : Sp} {dvs : List V} {ds : List Value} {E : XK} {x m : Str} {p pos apos : Pos} {e o : Expr} {es : List Expr} {ta : TE} {t : TA}
/-- the callee runs -/
theorem run_fn {pins : List (Addr × Obj)} {σ : St} {H : Hp} {s : Shared} {Q : VK} {us : List Value} {vs : List V} (F : FnOk X.prog X.w X.K X.mg X.base CX k f fd ps sp) (hr : Room k X.A) (hb : Binds X.K fd ps ds) (hd : Vals dvs ds) (hx : Passes CX X E)
    (I : Inv X pins σ H s) (r : Vals vs us) (h : sp (vs ++ dvs) H Q E) : wpAny (model X.prog X.w) X.A (call (.ref f) us) (EP X pins σ Q) X.xe s := by
  have r2 : Vals (vs ++ dvs) (us ++ ds) := r.append hd
  have hl : (us ++ ds).length = ps.length := by rw [← r2.length]; exact F.len _ _ _ _ h
  refine wpAny_call (codeAny_mono (F.run X.A X.stack s H ⟨us, []⟩ (us ++ ds) (vs ++ dvs) Q E hr I.env0 (hb s us I.kIn hl) r2 h) fun r s' hq => ?_)
  cases r with
  | error e => exact hx pins σ H s e s' I hq
  | ok fl =>
    cases fl with
    | ret u => exact I.after hq
    | next => exact False.elim hq
    | brk => exact False.elim hq
    | cont => exact False.elim hq

theorem pe_call (F : FnOk X.prog X.w X.K X.mg X.base CX k f fd ps sp) (hr : Room k X.A) (hg : Gl X x) (hm : X.mg x = some (.ref f)) (hk : PySem.W.keepIn X.K (.ref f) = true) (hb : Binds X.K fd ps ds) (hd : Vals dvs ds) (hx : Passes CX X E)
    (ha : PA X (e :: es) t) (hdb : (x == ("__debug__" : Str)) = false := by decide) (he : starEach (e :: es) X.env = (false, eval e X.env) :: starEach es X.env := by rfl) (hpl : (backTo pos (starEach es X.env)).any (·.1) = false := by rfl) :
    PE X (.Call (.Name x p) (e :: es) [] pos) (tCall sp dvs E t) := by
  intro pins s σ H Q I h
  refine wpAny_Call_Name_kw (ld_glob I hg hm ?_ hdb)
  refine PySem.W.callWith_K (h₀ := X.base) I.ok.mod.kin hk (thn (ha pos pins s σ H _ I h) fun us s1 ⟨vs, H1, I1, r, q⟩ => ⟨I1.kIn, ?_⟩) he hpl
  exact run_fn F hr hb hd hx I1 r q
/-- o.m(e, ..) -/
theorem pe_meth {pl : Sem Bool} (he : PE X o ta) (c : Cls X.K C) (hm : Meth X.K C m f) (F : FnOk X.prog X.w X.K X.mg X.base CX k f fd ps sp) (hr : Room k X.A) (hb : Binds X.K fd ps ds) (hd : Vals dvs ds) (hx : Passes CX X E) (ha : PA X (e :: es) t)
    (hst : starEach (e :: es) X.env = (false, eval e X.env) :: starEach es X.env := by rfl) (hpl : (backTo pos (starEach es X.env)).any (·.1) = false := by rfl)
    (ht : eval (.Call (.Attribute o m apos) (e :: es) [] pos) X.env = (do
      let ov ← eval o X.env
      standAt apos.atName
      let (f, first) ← holding [ov] (getMethod ov m pl)
      callWith pos f first (backTo pos (starEach (e :: es) X.env)) (backToKw pos (keywordEach [] X.env))) := by rfl) :
    PE X (.Call (.Attribute o m apos) (e :: es) [] pos) (tMeth C m sp dvs E ta t) := by
  intro pins s σ H Q I h
  refine PySem.W.methodCall_KW (pl := pl) (thn (he pins s σ H _ I h) fun u s1 ⟨x, H1, I1, rx, a, dx, fs, ex, ea, l, q⟩ => ?_) ht
  subst ex
  obtain rfl : u = Value.ref a := rx
  refine getmeth_ok I1 ea c hm l ?_
  refine PySem.W.callWith_K (first := [.ref a]) (h₀ := X.base) I.ok.mod.kin hm.kp (thn (ha pos pins s1 σ H1 _ I1 q) fun us s2 ⟨vs, H2, I2, r, q2⟩ => ⟨I2.kIn, ?_⟩) hst hpl
  exact run_fn (us := .ref a :: us) (vs := .ref a :: vs) F hr hb hd hx I2 (.cons rfl r) q2
/-- o.m() -/
theorem pe_meth0 {pl : Sem Bool} (he : PE X o ta) (c : Cls X.K C) (hm : Meth X.K C m f) (F : FnOk X.prog X.w X.K X.mg X.base CX k f fd ps sp) (hr : Room k X.A) (hb : Binds X.K fd ps ds) (hd : Vals dvs ds) (hx : Passes CX X E)
    (ht : eval (.Call (.Attribute o m apos) [] [] pos) X.env = (do
      let ov ← eval o X.env
      standAt apos.atName
      let (f, first) ← holding [ov] (getMethod ov m pl)
      callWith pos f first (backTo pos (starEach [] X.env)) (backToKw pos (keywordEach [] X.env))) := by rfl) :
    PE X (.Call (.Attribute o m apos) [] [] pos) (tMeth C m sp dvs E ta tNil) := by
  intro pins s σ H Q I h
  refine PySem.W.methodCall_KW (pl := pl) (thn (he pins s σ H _ I h) fun u s1 ⟨x, H1, I1, rx, a, dx, fs, ex, ea, l, q⟩ => ?_) ht
  subst ex
  obtain rfl : u = Value.ref a := rx
  refine getmeth_ok I1 ea c hm l ?_
  exact PySem.W.callWith_K0 (first := [.ref a]) I1.kIn hm.kp (run_fn (us := [.ref a]) (vs := [.ref a]) F hr hb hd hx I1 (.cons rfl .nil) q)

/-- what a class must have to be made -/
structure Mk (K : PySem.W.Frag) (C f : Addr) : Prop where
  makes : PySem.W.makesIn K C = true
  init : PySem.W.findIn K (.ref C) "__init__" = some (some (.ref f))
  fn : PySem.W.isFn K (.ref f) = true
  kp : PySem.W.keepIn K (.ref C) = true

theorem run_make {pins : List (Addr × Obj)} {σ : St} {H : Hp} {s : Shared} {Q : VK} {us : List Value} {vs : List V} (M : Mk X.K C f) (F : FnOk X.prog X.w X.K X.mg X.base CX k f fd ps sp) (hr : Room (k + 1) X.A) (hb : Binds X.K fd ps ds) (hd : Vals dvs ds)
    (hx : Passes CX X E) (I : Inv X pins σ H s) (r : Vals vs us)
    (h : ∀ x dx, H x = none → H dx = none → dx ≠ x → sp (.ref x :: (vs ++ dvs)) (upd (upd H dx (.own x)) x (.ins C dx [])) (fun v H2 => v = .non ∧ Q (.ref x) H2) E) :
    wpAny (model X.prog X.w) X.A (call (.ref C) us) (EP X pins σ Q) X.xe s := by
  have hq := h (s.heap.objs.size + 1) s.heap.objs.size (I.hok.fresh (Nat.le_succ _)) (I.hok.fresh (Nat.le_refl _)) (Nat.ne_of_lt (Nat.lt_succ_self _))
  have I2 := Inv.made (C := C) I
  have r2 : Vals (V.ref (s.heap.objs.size + 1) :: (vs ++ dvs)) (Value.ref (s.heap.objs.size + 1) :: (us ++ ds)) := .cons rfl (r.append hd)
  have hl : (Value.ref (s.heap.objs.size + 1) :: us ++ ds).length = ps.length := by
    have e := r2.length
    rw [F.len _ _ _ _ hq] at e
    exact e.symm
  refine wpAny_call (make_map (f := f) I.kIn M.makes M.init (beq_iff_eq.mp M.fn) (codeAny_mono (F.run _ X.stack _ _ ⟨Value.ref (s.heap.objs.size + 1) :: us, []⟩ (Value.ref (s.heap.objs.size + 1) :: (us ++ ds)) _ _ E (hr.make C us [])
    (I2.env0.make C us []) (hb _ (Value.ref (s.heap.objs.size + 1) :: us) I2.kIn hl) r2 hq) fun r s' hq' => ?_))
  cases r with
  | error e => exact hx pins σ _ _ e s' I2 hq'
  | ok fl =>
    cases fl with
    | ret u =>
      obtain ⟨v, H', I3, rv, ev, q3⟩ := I2.after hq'
      subst ev
      exact ⟨rv, ⟨V.ref (s.heap.objs.size + 1), H', I3, rfl, q3⟩⟩
    | next => exact False.elim hq'
    | brk => exact False.elim hq'
    | cont => exact False.elim hq'
theorem pe_make (M : Mk X.K C f) (F : FnOk X.prog X.w X.K X.mg X.base CX k f fd ps sp) (hr : Room (k + 1) X.A) (hg : Gl X x) (hm : X.mg x = some (.ref C)) (hb : Binds X.K fd ps ds) (hd : Vals dvs ds) (hx : Passes CX X E)
    (ha : PA X (e :: es) t) (hdb : (x == ("__debug__" : Str)) = false := by decide) (he : starEach (e :: es) X.env = (false, eval e X.env) :: starEach es X.env := by rfl) (hpl : (backTo pos (starEach es X.env)).any (·.1) = false := by rfl) :
    PE X (.Call (.Name x p) (e :: es) [] pos) (tMake C sp dvs E t) := by
  intro pins s σ H Q I h
  refine wpAny_Call_Name_kw (ld_glob I hg hm ?_ hdb)
  refine PySem.W.callWith_K (h₀ := X.base) I.ok.mod.kin M.kp (thn (ha pos pins s σ H _ I h) fun us s1 ⟨vs, H1, I1, r, q⟩ => ⟨I1.kIn, ?_⟩) he hpl
  exact run_make M F hr hb hd hx I1 r q
end
/-! ### keywords -/
/-- the values of the keywords, from the left -/
def PK (X : Cx) (kws : List Keyword) (t : TA) : Prop :=
  ∀ (pos : Pos) (pins : List (Addr × Obj)) (s : Shared) (σ : St) (H : Hp) (Q : List V → Hp → Prop), Inv X pins σ H s → t σ H Q → wpAny (model X.prog X.w) X.A (evalAll ((backToKw pos (keywordEach kws X.env)).map (·.2))) (AP X pins σ Q) X.xe s
section
variable {X : Cx} {CX : CXT} {k : Nat} {f C : Addr} {fd : FuncData} {ps ks : List Str} {sp : Sp} {E : XK} {x m : Str} {p pos apos kpos : Pos} {e o : Expr} {es : List Expr} {kws : List Keyword} {te ta : TE} {t tk : TA} {nm : Option Str}
theorem pk_nil : PK X [] tNil := fun _ _ _ _ H Q I h => wpAny_evalAll_nil ⟨[], H, I, .nil, h⟩
theorem pk_cons (ha : PE X e te) (hr : PK X kws t) : PK X (⟨nm, e, kpos⟩ :: kws) (tCons te t) := by
  intro pos pins s σ H Q I h
  show wpAny _ _ (evalAll ((do let v ← eval e X.env; standAt pos; pure v) :: (backToKw pos (keywordEach kws X.env)).map (·.2))) _ _ s
  refine wpAny_evalAll_cons (wpAny_bind (thn (ha pins s σ H _ I h) fun u s1 ⟨x, H1, I1, r1, q1⟩ => wpAny_bind (wpAny_standAt (wpAny_pure ?_))))
  exact thn (hr pos pins s1 σ H1 _ I1 q1) fun us s2 ⟨xs, H2, I2, r2, q2⟩ => ⟨x :: xs, H2, I2, .cons r1 r2, q2⟩

/-- how a call with keywords binds: g puts the positional values us and the keywords' values ws (names ks) in the parameters' order, defaults among them -/
structure KBinds (K : PySem.W.Frag) (fd : FuncData) (ps ks : List Str) (g : List Value → List Value → List Value) (gV : List V → List V → List V) : Prop where
  to : ∀ (s : Shared) (us ws : List Value), K.In s.heap → (g us ws).length = ps.length → BindsTo s fd ⟨us, ks.zip ws⟩ (ps.zip (g us ws))
  rel : ∀ {vs : List V} {us : List Value} {zs : List V} {ws : List Value}, Vals vs us → Vals zs ws → Vals (gV vs zs) (g us ws)
variable {g : List Value → List Value → List Value} {gV : List V → List V → List V}
end
/-! ### a def's body keeps its promise -/
/-- names: the parameters first -/
structure FnScope (N P : List Str) (sc : Scope) : Prop where
  kind : sc.kind = .function
  co : sc.isCoroutine = false
  gen : sc.isGenerator = false
  nd : N.Nodup
  pre : N.take P.length = P
  par : ∀ x ∈ P, sc.names.lookup x = some .local ∨ sc.names.lookup x = some .cell
  nofree : ∀ y ∈ sc.names, y.2 ≠ .free

theorem bindL_out {kindOf : Str → Option NameKind} {x : Str} : ∀ {binds : List (Str × Value)} {m : Str → Option Value}, (∀ v, (x, v) ∉ binds) → bindL kindOf binds m x = m x
  | [], _, _ => rfl
  | (n, v) :: r, m, h => by
    unfold bindL
    rw [bindL_out fun w hw => h w (List.mem_cons_of_mem _ hw)]
    split
    · have : x ≠ n := by rintro rfl; exact h v List.mem_cons_self
      simp [this]
    · rfl
theorem bindC_out {kindOf : Str → Option NameKind} {x : Str} : ∀ {binds : List (Str × Value)} {m : Str → Option Value}, (∀ v, (x, v) ∉ binds) → bindC kindOf binds m x = m x
  | [], _, _ => rfl
  | (n, v) :: r, m, h => by
    unfold bindC
    rw [bindC_out fun w hw => h w (List.mem_cons_of_mem _ hw)]
    split
    · rfl
    · have : x ≠ n := by rintro rfl; exact h v List.mem_cons_self
      simp [this]
theorem bindL_get {kindOf : Str → Option NameKind} {x : Str} {v : Value} : ∀ {P : List Str} {vs : List Value} {i : Nat} {m : Str → Option Value}, P.Nodup → P[i]? = some x → vs[i]? = some v → kindOf x = some .local →
    bindL kindOf (P.zip vs) m x = some v
  | [], _, _, _, _, h, _, _ => by simp at h
  | _ :: _, [], _, _, _, _, h, _ => by simp at h
  | p :: P, w :: vs, 0, m, nd, h1, h2, hk => by
    simp at h1 h2; subst h1; subst h2
    show bindL kindOf ((p, w) :: P.zip vs) m p = _
    unfold bindL
    rw [bindL_out fun v hv => (List.nodup_cons.mp nd).1 (List.of_mem_zip hv).1, if_pos hk]
    simp
  | p :: P, w :: vs, i + 1, m, nd, h1, h2, hk => by
    show bindL kindOf ((p, w) :: P.zip vs) m x = _
    unfold bindL
    exact bindL_get (i := i) (List.nodup_cons.mp nd).2 (by simpa using h1) (by simpa using h2) hk
theorem bindC_get {kindOf : Str → Option NameKind} {x : Str} {v : Value} : ∀ {P : List Str} {vs : List Value} {i : Nat} {m : Str → Option Value}, P.Nodup → P[i]? = some x → vs[i]? = some v → kindOf x ≠ some .local →
    bindC kindOf (P.zip vs) m x = some v
  | [], _, _, _, _, h, _, _ => by simp at h
  | _ :: _, [], _, _, _, _, h, _ => by simp at h
  | p :: P, w :: vs, 0, m, nd, h1, h2, hk => by
    simp at h1 h2; subst h1; subst h2
    show bindC kindOf ((p, w) :: P.zip vs) m p = _
    unfold bindC
    rw [bindC_out fun v hv => (List.nodup_cons.mp nd).1 (List.of_mem_zip hv).1, if_neg hk]
    simp
  | p :: P, w :: vs, i + 1, m, nd, h1, h2, hk => by
    show bindC kindOf ((p, w) :: P.zip vs) m x = _
    unfold bindC
    exact bindC_get (i := i) (List.nodup_cons.mp nd).2 (by simpa using h1) (by simpa using h2) hk

/-- the names' values at the entry -/
def start (N : List Str) (vs : List V) : St := vs.map some ++ List.replicate (N.length - vs.length) none

/-- the context of a def's body, at its entry; an exception leaves the frame, then lies as CX says -/
def cxOf (CX : CXT) (P : Program) (w : World) (K : PySem.W.Frag) (mg : Str → Option Value) (base : Heap) (N : List Str) (qual : Str) (scope : Scope) (f : Addr) (cd : Value) (A : Around) (outer : List Env) (s : Shared) (H : Hp) (E : XK) : Cx where
  prog := P
  w := w
  K := K
  mg := mg
  base := base
  A := A.deeper (envOfC qual scope s.heap.objs.size f cd)
  N := N
  s_0 := s
  H_0 := H
  env := envOfC qual scope s.heap.objs.size f cd
  outer := outer
  stack := envOfC qual scope s.heap.objs.size f cd :: outer
  ex := []
  calm := true
  fn := fun _ => true
  pn := []
  xe := fun e s' => wpAny (model P w) (A.deeper (envOfC qual scope s.heap.objs.size f cd)) (leaving (envOfC qual scope s.heap.objs.size f cd) e) (fun _ s'' => CX outer H s E e s'') (fun e' s'' => CX outer H s E e' s'') s'

theorem cell_has {sc : Scope} {n : Nat} {x : Str} (h : sc.names.lookup x = some .cell) : ∃ c, (cellsFrom n sc.names []).lookup x = some c := by
  have q := PySem.W.cellsFrom_some sc.names n [] (.inl h)
  exact Option.isSome_iff_exists.mp q

theorem inv_start {CX : CXT} {P : Program} {w : World} {K : PySem.W.Frag} {mg : Str → Option Value} {base : Heap} {N ps : List Str} {qual : Str} {scope : Scope} {f : Addr} {cd : Value} {A : Around} {outer : List Env} {s s1 : Shared} {H : Hp} {E : XK} {us : List Value} {vs : List V}
    (S : FnScope N ps scope) (hd : A.handled = none) (e0 : Env0 P w K mg base A outer s H) (hl : vs.length = ps.length) (r : Vals vs us)
    (x : InCallC s s.heap.objs.size (bindL (envOfC qual scope s.heap.objs.size f cd).kindOf (ps.zip us) fun _ => none) (cellsFrom (s.heap.objs.size + 1) scope.names []) (bindC (envOfC qual scope s.heap.objs.size f cd).kindOf (ps.zip us) fun _ => none) s1) :
    Inv (cxOf CX P w K mg base N qual scope f cd A outer s H E) [] (start N vs) H s1 := by
  have hpl : ps.length ≤ N.length := by have := congrArg List.length S.pre; rw [List.length_take] at this; omega
  obtain ⟨h1, tk, rfl, hk⟩ := x.done
  have noA : ∀ b : Addr, b ∉ (cxOf CX P w K mg base N qual scope f cd A outer s H E).ex := fun b z => absurd (show b ∈ ([] : List Addr) from z) (by simp)
  refine ⟨⟨e0.mod, S.kind, rfl, rfl, Nat.le_refl _, fun y z c h1 h2 => ?_, fun y hy => ?_, fun y c _ h => ?_, fun _ => hd, Around.frames_deeper e0.frames, .inr ⟨rfl, rfl⟩, fun b z => absurd z (noA b), e0.bs, e0.bsz, fun b _ _ => noA b, fun b z => absurd z (noA b), e0.funs, e0.frf⟩,
    rfl, e0.bare, Un.kept hk, ⟨_, x.toInCall.ns, fun i y v h1 h2 h3 => ?_⟩, fun y c h => ⟨_, x.cell y c h⟩, e0.hok.fresh (Nat.le_refl _), fun y c h => ?_, fun p hp => absurd (show p ∈ ([] : List (Addr × Obj)) from hp) (by simp), e0.hok.kept hk, ?_⟩
  · exact name_of_addr x.apart (PySem.mem_of_lookup h1) (PySem.mem_of_lookup h2)
  · have hy : scope.names.lookup y = some .cell ∨ scope.names.lookup y = some .free := hy
    rcases hy with hy | hy
    · exact cell_has hy
    · exact absurd rfl (S.nofree _ (PySem.mem_of_lookup hy))
  · exact Nat.le_of_lt (x.above y c (PySem.mem_of_lookup h))
  · have hi : i < vs.length := by
      unfold start at h2
      by_cases hi : i < vs.length
      · exact hi
      · rw [List.getElem?_append_right (by simpa using hi)] at h2
        rw [List.getElem?_replicate] at h2
        split at h2 <;> cases h2
    have ha : vs[i]? = some v := by
      unfold start at h2
      rw [List.getElem?_append_left (by simpa using hi), List.getElem?_map] at h2
      cases e : vs[i]? with
      | none => rw [e] at h2; cases h2
      | some a => rw [e] at h2; cases h2; rfl
    obtain ⟨u, hu, rv⟩ := r.get ha
    have hp : ps[i]? = some y := by
      rw [← S.pre, List.getElem?_take_of_lt (by omega)]; exact h1
    have ndP : ps.Nodup := by rw [← S.pre]; exact S.nd.sublist (List.take_sublist _ _)
    refine ⟨u, rv, ?_⟩
    rcases S.par y (List.mem_of_getElem? hp) with k | k
    · exact .inl ⟨k, bindL_get ndP hp hu k⟩
    · obtain ⟨c, e⟩ := cell_has (n := s.heap.objs.size + 1) k
      refine .inr ⟨.inl k, c, e, ?_⟩
      have q := x.cell y c e
      rw [bindC_get ndP hp hu (by show scope.names.lookup y ≠ _; rw [k]; decide)] at q
      exact q
  · exact e0.hok.fresh (Nat.le_of_lt (x.above y c (PySem.mem_of_lookup h)))
  · unfold start
    show _ = N.length
    rw [List.length_append, List.length_map, List.length_replicate]
    omega

/-- THE RULE: a def (or a method) of the text, by its body. The body's reading t is chosen for each entry; it is run at the parameters' values -/
theorem fn_of {CX : CXT} {P : Program} {w : World} {K : PySem.W.Frag} {mg : Str → Option Value} {base : Heap} {k : Nat} {f : Addr} {name qual : Str} {params : Arguments} {body : List Stmt} {scope : Scope} {dV kV doc pm cdv ct oc : Value} {an od : Option Addr}
    {osl : Array (Option Value)} {N ps : List Str} {sp : Sp} (lk : K.lookup f = some ⟨oc, od, .func (PySem.W.fnOf name qual params body scope dV kV doc pm an cdv ct), osl⟩) (hcd : PySem.W.codeIn K cdv qual = true) (S : FnScope N ps scope)
    (len : ∀ vs H Q E, sp vs H Q E → vs.length = ps.length)
    (hbody : ∀ (A : Around) (outer : List Env) (s : Shared) (H : Hp) (vs : List V) (Q : VK) (E : XK), Room k (A.deeper (envOfC qual scope s.heap.objs.size f cdv)) → sp vs H Q E →
      ∃ t, PSs (cxOf CX P w K mg base N qual scope f cdv A outer s H E) body t ∧ t { nx := fun _ H' => Q .non H', rt := Q } (start N vs) H) :
    FnOk P w K mg base CX (k + 1) f (PySem.W.fnOf name qual params body scope dV kV doc pm an cdv ct) ps sp := by
  refine ⟨len, fun A outer s H args us vs Q E hr e0 hb r hsp => ?_⟩
  have hl := len _ _ _ _ hsp
  have KX : K.In s.heap := e0.mod.kin.keeps fun b o e => (e0.bs b o e).1
  have lim : s.heap.NoLimit := e0.mod.nolimit.keeps fun b o e => (e0.bs b o e).1
  have hkind : ∀ y ∈ ps.zip us, scope.names.lookup y.1 = some .local ∨ (scope.names.lookup y.1 = some .cell ∧ ((cellsFrom (s.heap.objs.size + 1) scope.names []).lookup y.1).isSome = true) := fun ⟨n, v⟩ hy => by
    rcases S.par n (List.of_mem_zip hy).1 with q | q
    · exact .inl q
    · exact .inr ⟨q, PySem.W.cellsFrom_some _ _ _ (.inl q)⟩
  refine codeAny_call_function hr.depth (KX _ _ lk) rfl S.co S.gen rfl (PySem.W.codeRec_of KX hcd) (hb _ _ _ _ ?_)
  refine wpAny_newFunctionEnv_cells S.kind hkind fun env he s1 x => ?_
  subst he
  refine ⟨lim.keeps x.toInCall.keep, codeAny_func ?_⟩
  obtain ⟨t, ht, hq⟩ := hbody A outer s H vs Q E (hr.deeper _) hsp
  have I : Inv (cxOf CX P w K mg base N qual scope f cdv A outer s H E) [] (start N vs) H s1 := inv_start S hr.hd e0 hl r x
  refine wpAny_mono (ht [] s1 (start N vs) H _ I hq) (fun fl s' hs => ?_) fun e s' hs => hs
  have fin : ∀ {σ' : St} {H' : Hp} {v : V} {u : Value}, Inv (cxOf CX P w K mg base N qual scope f cdv A outer s H E) [] σ' H' s' → RelV v u → Q v H' → CE outer P w H s Q u s' :=
    fun {σ' H' v u} J rv q => ⟨v, H', J.os, J.bare, J.base, J.hok, rv, q⟩
  cases fl with
  | ret u =>
    obtain ⟨v, σ', H', J, rv, q⟩ := hs
    exact fin J rv q
  | next =>
    obtain ⟨σ', H', J, q⟩ := hs
    exact fin (v := V.non) (u := Value.none) J rfl q
  | brk =>
    obtain ⟨_, _, _, q⟩ := hs
    exact False.elim q
  | cont =>
    obtain ⟨_, _, _, q⟩ := hs
    exact False.elim q
end L2
namespace L2
open PySem PySem.Spec PyProof.Rows
section
variable {X : Cx} {x : Str} {p pos : Pos} {e : Expr} {es : List Expr} {t : TA} {id T : String} {r : List V → Hp → VK → Prop}
def tCB (r : List V → Hp → VK → Prop) (t : TA) : TE := fun σ H Q => t σ H fun vs H1 => r vs H1 Q
/-- f(e, ..), f a built-in function -/
theorem pe_callB (hc : CallR X (.builtin id) r) (hg : Gl X x) (hm : X.mg x = none) (hv : bootBuiltins x = some (.builtin id)) (ha : PA X (e :: es) t) (hn : x ≠ "__name__" := by decide) (hdb : (x == ("__debug__" : Str)) = false := by decide)
    (he : starEach (e :: es) X.env = (false, eval e X.env) :: starEach es X.env := by rfl) (hpl : (backTo pos (starEach es X.env)).any (·.1) = false := by rfl) : PE X (.Call (.Name x p) (e :: es) [] pos) (tCB r t) := by
  intro pins s σ H Q I h
  refine wpAny_Call_Name_kw (ld_blt I hg hm hv ?_ hn hdb)
  exact PyProof.Rows.callWith_builtin1 (thn (ha pos pins s σ H _ I h) fun us s1 ⟨vs, H1, I1, r1, q1⟩ => hc pins s1 σ H1 vs us Q I1 r1 q1) he hpl
/-- T(e, ..), T a built-in type -/
theorem pe_callTy (hc : CallR X (.type T) r) (hg : Gl X x) (hm : X.mg x = none) (hv : bootBuiltins x = some (.type T)) (ha : PA X (e :: es) t) (hn : x ≠ "__name__" := by decide) (hdb : (x == ("__debug__" : Str)) = false := by decide)
    (he : starEach (e :: es) X.env = (false, eval e X.env) :: starEach es X.env := by rfl) (hpl : (backTo pos (starEach es X.env)).any (·.1) = false := by rfl) : PE X (.Call (.Name x p) (e :: es) [] pos) (tCB r t) := by
  intro pins s σ H Q I h
  refine wpAny_Call_Name_kw (ld_blt I hg hm hv ?_ hn hdb)
  exact PyProof.Rows.callWith_type1 (thn (ha pos pins s σ H _ I h) fun us s1 ⟨vs, H1, I1, r1, q1⟩ => hc pins s1 σ H1 vs us Q I1 r1 q1) he hpl
end
end L2
namespace HT
open PySem PyProof.Rows
section
open PySem.SeqAt
open PySem.AutoSeq1 (wpAny_loadPart')
open PySem.MeetsSeq PySem.MeetsSeq2 PySem.MeetsSeq3
end
section
variable {prog : Program} {w : World} {A : Around} {E : Value → Shared → Prop} {s : Shared}
/-- t + u, t not empty -/
theorem cat_tup {t b : Addr} {vs ws : List Value} {Q : Value → Shared → Prop} (ht : IsTup s.heap t vs.toArray) (hb : IsTup s.heap b ws.toArray) (hv : vs ≠ [])
    (h1 : ws = [] → Q (.ref t) s) (h2 : ws ≠ [] → Q (.ref s.heap.objs.size) { s with heap := s.heap.push { cls := .type "tuple", data := .seq (vs ++ ws).toArray } })
    (hsz : vs.length + ws.length ≤ sizeLine) : wpAny (model prog w) A (binaryOp .Add (.ref t) (.ref b)) Q E s := by
  obtain ⟨⟨cls, dd, data, sl⟩, ho, hc, n, hd⟩ := id ht
  obtain ⟨⟨cls2, dd2, data2, sl2⟩, ho2, hc2, n2, hd2⟩ := id hb
  simp only at hc hd hc2 hd2
  subst hc hd hc2 hd2
  have e : vs.toArray ++ ws.toArray = (vs ++ ws).toArray := by simp
  by_cases hw : ws = []
  · exact concat_meets ⟨_, ho, rfl⟩ ⟨_, ho2, rfl⟩ noFill_tuple_add seq_tuple_add PySem.F.slot_tuple_add PySem.F.entry_tuple_add (PySem.F.args_tuple_add_2 _ _)
      (tuple_addW1 t b vs.toArray ws.toArray n n2 dd dd2 sl sl2 (by simpa using hv) (by simp [hw])) ⟨ho, ho2, h1 hw⟩
  · refine concat_meets ⟨_, ho, rfl⟩ ⟨_, ho2, rfl⟩ noFill_tuple_add seq_tuple_add PySem.F.slot_tuple_add PySem.F.entry_tuple_add (PySem.F.args_tuple_add_2 _ _)
      (tuple_addW2 t b vs.toArray ws.toArray n n2 dd dd2 sl sl2 (by simpa using hv) (by simpa using hw) (by rw [List.size_toArray, List.size_toArray]; exact hsz)) ⟨ho, ho2, ?_⟩
    rw [e]
    exact h2 hw

/-! ### t[a:b], not the whole -/
/-- a slice's bound as a place among n (d where it is left out) -/
def sIx (n d : Nat) : Option Int → Nat
  | none => d
  | some v => if v < 0 then (v + (n : Int)).toNat else min v.toNat n
theorem sIx_none (n d : Nat) : sIx n d none = d := rfl
theorem sIx_nat (n d k : Nat) : sIx n d (some (k : Int)) = min k n := by
  show (if (k : Int) < 0 then ((k : Int) + (n : Int)).toNat else min (k : Int).toNat n) = min k n
  rw [if_neg (by omega), Int.toNat_natCast]
theorem sIx_le (n d : Nat) (hd : d ≤ n) (o : Option Int) : sIx n d o ≤ n := by
  cases o with
  | none => exact hd
  | some v =>
    show (if v < 0 then (v + (n : Int)).toNat else min v.toNat n) ≤ n
    by_cases hv : v < 0
    · rw [if_pos hv]; omega
    · rw [if_neg hv]; exact Nat.min_le_right _ _
theorem clip_eq (v : Int) (n d : Nat) : (if v < 0 then max (v + (n : Int)) 0 else min v (n : Int)) = ((sIx n d (some v) : Nat) : Int) := by
  show (if v < 0 then max (v + (n : Int)) 0 else min v (n : Int)) = (((if v < 0 then (v + (n : Int)).toNat else min v.toNat n) : Nat) : Int)
  by_cases hv : v < 0
  · simp only [if_pos hv]; omega
  · simp only [if_neg hv]; omega
theorem adjust_gen (lo hi : Option Int) (n : Nat) : Builtin.Slice.sliceAdjust lo hi 1 (n : Int) = (((sIx n 0 lo : Nat) : Int), ((sIx n n hi : Nat) : Int)) := by
  have h1 : ¬ ((1 : Int) < 0) := by omega
  unfold Builtin.Slice.sliceAdjust
  simp only [h1, if_false]
  refine Prod.ext ?_ ?_
  · cases lo with
    | none => rfl
    | some v => exact clip_eq v n 0
  · cases hi with
    | none => rfl
    | some v => exact clip_eq v n n
theorem places_gen (i j : Nat) : Builtin.Slice.slicePlaces (i : Int) (j : Int) 1 = j - i := by
  unfold Builtin.Slice.slicePlaces
  have h1 : (1 : Int) > 0 := by omega
  simp only [h1, if_true, Int.ediv_one]
  split <;> omega
theorem slicePart_ {v : Value} {o : Option Int} {Q : Option Int → Shared → Prop} (p : IsPart v o) (h : Q o s) : wpAny (model prog w) A (Builtin.Slice.slicePartIndex v) Q E s := by
  cases p with
  | none => exact slicePart_none h
  | int i t => exact slicePart_int h
theorem sliceApplied_gen {sl : Addr} {vl vu : Value} {lo hi : Option Int} {n : Nat} {Q : Int × Int × Nat → Shared → Prop} (hs : s.heap.IsSliceOf sl vl vu .none) (pl : IsPart vl lo) (pu : IsPart vu hi)
    (h : Q (((sIx n 0 lo : Nat) : Int), 1, sIx n n hi - sIx n 0 lo) s) : wpAny (model prog w) A (Builtin.Slice.sliceApplied (.ref sl) (pure (n : Int))) Q E s := by
  obtain ⟨os, hos, hcs, hds⟩ := id hs
  unfold Builtin.Slice.sliceApplied Builtin.Slice.sliceFields
  refine wpAny_bind (wpAny_bind (wpAny_field hos hds (x := vl) rfl (wpAny_bind (wpAny_field hos hds (x := vu) rfl (wpAny_bind (wpAny_field hos hds (x := .none) rfl (wpAny_pure ?_)))))))
  refine wpAny_bind (slicePart_none ?_)
  show wpAny _ _ (if ((1 : Int) == 0) = true then _ else _) _ _ s
  rw [if_neg (by decide)]
  refine wpAny_bind (slicePart_ pl (wpAny_bind (slicePart_ pu (wpAny_bind (wpAny_pure ?_)))))
  show wpAny _ _ (match Builtin.Slice.sliceAdjust lo hi 1 (n : Int) with | (lo, hi) => pure (lo, (1 : Int), Builtin.Slice.slicePlaces lo hi 1)) _ _ s
  rw [adjust_gen lo hi n]
  show wpAny _ _ (pure (((sIx n 0 lo : Nat) : Int), (1 : Int), Builtin.Slice.slicePlaces ((sIx n 0 lo : Nat) : Int) ((sIx n n hi : Nat) : Int) 1)) _ _ s
  rw [places_gen]
  exact wpAny_pure h
theorem pick_gen (xs : Array Value) (i k : Nat) : ((List.range k).filterMap fun (m : Nat) => xs[((i : Int) + (m : Int) * 1).toNat]?).toArray = ((xs.toList.drop i).take k).toArray := by
  have e : (fun (m : Nat) => xs[((i : Int) + (m : Int) * 1).toNat]?) = fun m => xs[i + m]? := by
    funext m
    have : ((i : Int) + (m : Int) * 1).toNat = i + m := by omega
    rw [this]
  rw [e]
  have := pick_run xs i k
  rw [List.filterMap_map] at this
  have e2 : ((fun x => xs[x]?) ∘ fun x => i + x) = fun m => xs[i + m]? := rfl
  rw [e2] at this
  rw [this]

theorem getItem_tuple_cut {t sl : Addr} {items : Array Value} {vl vu : Value} {lo hi : Option Int} {Q : Value → Shared → Prop} (ht : IsTup s.heap t items) (hs : s.heap.IsSliceOf sl vl vu .none) (pl : IsPart vl lo) (pu : IsPart vu hi)
    (hw : ¬ (sIx items.size 0 lo = 0 ∧ sIx items.size items.size hi = items.size))
    (h : Q (.ref s.heap.objs.size) { s with heap := s.heap.push { cls := .type "tuple", data := .seq ((items.toList.drop (sIx items.size 0 lo)).take (sIx items.size items.size hi - sIx items.size 0 lo)).toArray } })
    (hsz : items.size ≤ sizeLine) : wpAny (model prog w) A (getItem (.ref t) (.ref sl)) Q E s := by
  have htake : sizeOk (.seq ((items.toList.drop (sIx items.size 0 lo)).take (sIx items.size items.size hi - sIx items.size 0 lo)).toArray) := by
    show ((items.toList.drop (sIx items.size 0 lo)).take (sIx items.size items.size hi - sIx items.size 0 lo)).toArray.size ≤ sizeLine
    rw [List.size_toArray, List.length_take, List.length_drop, Array.length_toList]
    omega
  have hj : sIx items.size items.size hi ≤ items.size := sIx_le _ _ (Nat.le_refl _) hi
  obtain ⟨os, hos, hcs, hds⟩ := id hs
  have hTs : s.TypeIs (.ref sl) "slice" := ⟨os, hos, hcs⟩
  unfold getItem
  try with_reducible refine wpAny_holding ?_
  first | refine wpAny_bind (wpAny_pure ?_) | skip
  refine wpAny_bind (wpAny_sequenceKey ht.typeIs (by decide) ?_)
  refine wpAny_bind (wpAny_callSpecial?_slot (name := Str.ofString "__getitem__") ht.typeIs PyProof.Rows.slot_tuple_getitem
    (wpAny_call_entry PyProof.Rows.slot_tuple_getitem ht.typeIs entry_tuple_getitem ?_ (args_tuple_getitem _ _)))
  show wpAny _ _ (Builtin.Tuple.tupleItemsOf (.ref t) >>= _) _ _ s
  refine wpAny_bind (tupleItemsOf_ ht ?_)
  refine wpAny_bind (wpAny_typeOf hTs ?_)
  rw [if_pos (by decide)]
  refine wpAny_bind (sliceApplied_gen hs pl pu ?_)
  have hno : ¬ ((((sIx items.size 0 lo : Nat) : Int) == 0 && (1 : Int) == 1 && (sIx items.size items.size hi - sIx items.size 0 lo) == items.size) = true) := by
    intro q
    rw [Bool.and_eq_true, Bool.and_eq_true] at q
    have q1 : ((sIx items.size 0 lo : Nat) : Int) = 0 := eq_of_beq q.1.1
    have q2 : sIx items.size items.size hi - sIx items.size 0 lo = items.size := eq_of_beq q.2
    exact hw ⟨by omega, by omega⟩
  show wpAny _ _ (if (((sIx items.size 0 lo : Nat) : Int) == 0 && (1 : Int) == 1 && (sIx items.size items.size hi - sIx items.size 0 lo) == items.size) = true then _ else _) _ _ s
  rw [if_neg hno, pick_gen]
  first
    | exact wpAny_bind (m := Builtin.Tuple.tupleExact _) (wpAny_newObj_type (wpAny_pure ⟨_, rfl, wpAny_pure h⟩) htake)
    | exact wpAny_bind (m := Builtin.Tuple.tupleExact _) (wpAny_newObj_type (wpAny_bind (wpAny_pure (wpAny_pure ⟨_, rfl, wpAny_pure h⟩))) htake)
    | exact wpAny_bind (wpAny_bind (m := Builtin.Tuple.tupleExact _) (wpAny_newObj_type (wpAny_pure (wpAny_pure ⟨_, rfl, wpAny_pure h⟩)) htake))
    | exact wpAny_bind (wpAny_bind (m := Builtin.Tuple.tupleExact _) (wpAny_newObj_type (wpAny_pure ⟨_, rfl, wpAny_pure h⟩) htake))
end
end HT
namespace L2
open PySem PySem.Spec PyProof.Rows
/-! ### the parts of a slice -/
abbrev TO := St → Hp → (Option Int → Hp → Prop) → Prop
/-- a slice's part (left out, or an int) -/
def PO (X : Cx) (e : Option Expr) (t : TO) : Prop :=
  ∀ (pins : List (Addr × Obj)) (s : Shared) (σ : St) (H : Hp) (Q : Option Int → Hp → Prop), Inv X pins σ H s → t σ H Q →
    wpAny (model X.prog X.w) X.A (evalPart e X.env) (fun u s' => ∃ o H', Inv X pins σ H' s' ∧ IsPart u o ∧ Q o H') X.xe s
def tNoPart : TO := fun _ H Q => Q none H
def tPart (t : TE) : TO := fun σ H Q => t σ H fun x H1 => ∃ i, x = .int i ∧ Q (some i) H1

section
variable {X : Cx} {e : Expr} {te : TE} {lo hi : Option Expr} {tl th : TO} {pos p2 : Pos}
theorem po_none : PO X none tNoPart := by
  intro pins s σ H Q I h
  rw [evalPart_none]
  exact wpAny_pure ⟨none, H, I, .none, h⟩
theorem po_some (h : PE X e te) : PO X (some e) (tPart te) := by
  intro pins s σ H Q I hw
  rw [evalPart_some]
  refine thn (h pins s σ H _ I hw) fun u s1 ⟨x, H1, I1, r1, q1⟩ => ?_
  obtain ⟨i, rfl, q⟩ := q1
  obtain ⟨t, rfl⟩ := r1
  exact ⟨some i, H1, I1, .int i t, q⟩

/-- what a slice of a value is, by values: the slice object stands at sl -/
def SlR (X : Cx) (r : V → Option Int → Option Int → Hp → VK → Prop) : Prop :=
  ∀ (pins : List (Addr × Obj)) (s : Shared) (σ : St) (H : Hp) (x : V) (v vl vu : Value) (lo hi : Option Int) (sl : Addr) (Q : VK), Inv X pins σ H s → RelV x v → s.heap.IsSliceOf sl vl vu .none → IsPart vl lo → IsPart vu hi → r x lo hi H Q →
    ∃ T id, typeLookup (.type T) "__getitem__" = pure (some (.builtin id)) ∧ s.TypeIs v T ∧ wpAny (model X.prog X.w) X.A (getItem v (.ref sl)) (EP X pins σ Q) X.xe s
def tSl (r : V → Option Int → Option Int → Hp → VK → Prop) (te : TE) (tl th : TO) : TE := fun σ H Q => te σ H fun x H1 => tl σ H1 fun l H2 => th σ H2 fun u H3 => r x l u H3 Q
/-- a[lo:hi], any a -/
theorem pe_slice {r : V → Option Int → Option Int → Hp → VK → Prop} (hr : SlR X r) (he : PE X e te) (hl : PO X lo tl) (hu : PO X hi th) : PE X (.Subscript e (.Slice lo hi none p2) pos) (tSl r te tl th) := by
  intro pins s σ H Q I h
  refine Subscript_ (thn (he pins s σ H _ I h) fun v s1 ⟨x, H1, I1, r1, q1⟩ => ?_)
  refine wpAny_Slice (thn (hl pins s1 σ H1 _ I1 q1) fun vl s2 ⟨l, H2, I2, pl, q2⟩ => thn (hu pins s2 σ H2 _ I2 q2) fun vu s3 ⟨u, H3, I3, pu, q3⟩ => ?_)
  rw [evalPart_none]
  refine wpAny_pure ?_
  have I4 : Inv X pins σ H3 { s3 with heap := s3.heap.push { cls := .type "slice", data := .fields #[vl, vu, .none] } } := I3.kept (t' := s3.toks) fun b ob q => Heap.get?_push_of_some _ q
  obtain ⟨T, id, hT, ht, hg⟩ := hr pins { s3 with heap := s3.heap.push { cls := .type "slice", data := .fields #[vl, vu, .none] } } σ H3 x v vl vu l u s3.heap.objs.size Q I4 r1 (Heap.IsSliceOf.new ..) pl pu q3
  show wpAny (model X.prog X.w) X.A (subscriptTail e (.Slice lo hi none p2) v (.ref s3.heap.objs.size)) (EP X pins σ Q) X.xe { s3 with heap := s3.heap.push { cls := .type "slice", data := .fields #[vl, vu, .none] } }
  exact tail_any (ops := [.ref s3.heap.objs.size, v]) ht hT hg (by with_unfolding_all rfl)

/-- the items of xs[lo:hi] -/
def cutV (xs : List V) (lo hi : Option Int) : List V := (xs.drop (HT.sIx xs.length 0 lo)).take (HT.sIx xs.length xs.length hi - HT.sIx xs.length 0 lo)
theorem cutV_length (xs : List V) (lo hi : Option Int) : (cutV xs lo hi).length ≤ xs.length := by
  unfold cutV
  rw [List.length_take, List.length_drop]
  omega
/-- t[lo:hi], not the whole of it (the whole would be t itself) -/
def rSlT (K : PySem.W.Frag) : V → Option Int → Option Int → Hp → VK → Prop := fun x lo hi H Q => ∃ a xs, x = .ref a ∧ SqT K H a xs ∧
  ¬ (HT.sIx xs.length 0 lo = 0 ∧ HT.sIx xs.length xs.length hi = xs.length) ∧ ∀ p, H p = none → Q (.ref p) (upd H p (.tup (cutV xs lo hi)))
theorem sl_tup : SlR X (rSlT X.K) := by
  intro pins s σ H x v vl vu lo hi sl Q I rx hs pl pu h
  obtain ⟨a, xs, rfl, hx, hw, q⟩ := h
  cases rx
  obtain ⟨its, r, ht, hz⟩ := I.tuple hx
  have hlen : its.toArray.size = xs.length := by rw [List.size_toArray]; exact r.length.symm
  refine ⟨"tuple", _, PyProof.Rows.slot_tuple_getitem.lookup, ht.typeIs, ?_⟩
  refine HT.getItem_tuple_cut ht hs pl pu (by rw [hlen]; exact hw) ?_ (by rw [hlen]; exact hz)
  rw [hlen]
  refine ⟨.ref s.heap.objs.size, _, I.laid (t' := s.toks) (o := .tup (cutV xs lo hi)) (fun b ob q => Heap.get?_push_of_some _ q) (Nat.le_refl _) ?_, rfl, q _ (I.hok.fresh (Nat.le_refl _))⟩
  exact ⟨Nat.le_trans (cutV_length xs lo hi) hz, _, (r.drop (HT.sIx xs.length 0 lo)).take (HT.sIx xs.length xs.length hi - HT.sIx xs.length 0 lo), IsTup.new _ _⟩

/-! ### t < u, t + u -/
/-- t + u, t not empty: u empty gives t itself -/
def rCatT (K : PySem.W.Frag) : R2 := fun x y H Q => ∃ a b xs ys, x = .ref a ∧ y = .ref b ∧ SqT K H a xs ∧ SqT K H b ys ∧ xs ≠ [] ∧ xs.length + ys.length ≤ sizeLine ∧
  (ys = [] → Q (.ref a) H) ∧ (ys ≠ [] → ∀ p, H p = none → Q (.ref p) (upd H p (.tup (xs ++ ys))))
theorem Vals.nil_iff {xs : List V} {us : List Value} (r : Vals xs us) : us = [] ↔ xs = [] := by
  cases r with
  | nil => simp
  | cons _ _ => simp
theorem op_catT : OpR X (binaryOp .Add) (rCatT X.K) := by
  intro pins s σ H x y v u Q I rx ry h
  obtain ⟨a, b, xs, ys, rfl, rfl, ha, hb, hx, hz, q1, q2⟩ := h
  cases rx
  cases ry
  obtain ⟨its, r1, p1, _⟩ := I.tuple ha
  obtain ⟨its2, r2, p2, _⟩ := I.tuple hb
  refine HT.cat_tup p1 p2 (fun z => hx (r1.nil_iff.mp z)) (fun z => ⟨.ref a, H, I, rfl, q1 (r2.nil_iff.mp z)⟩) (fun z => ?_) (by rw [← r1.length, ← r2.length]; exact hz)
  refine ⟨.ref s.heap.objs.size, _, I.laid (t' := s.toks) (o := .tup (xs ++ ys)) (fun b ob q => Heap.get?_push_of_some _ q) (Nat.le_refl _) ?_, rfl, q2 (fun w => z (r2.nil_iff.mpr w)) _ (I.hok.fresh (Nat.le_refl _))⟩
  exact ⟨by rw [List.length_append]; exact hz, _, r1.append r2, IsTup.new _ _⟩
end
end L2
namespace L2
open PySem PySem.Spec PyProof.Rows
/-! ### places -/
/-- the place that an index of any sign means -/
def ixN (n : Nat) (i : Int) : Option Nat := if 0 ≤ i then (if i < n then some i.toNat else none) else if -(n : Int) ≤ i then some (i + n).toNat else none
def atI {α : Type} (xs : List α) (i : Int) : Option α := (ixN xs.length i).bind fun j => xs[j]?
theorem ixN_seq {n : Nat} {i : Int} {j : Nat} (h : ixN n i = some j) : seqIndex? i n = some j ∧ j < n ∧ -(n : Int) ≤ i ∧ i < n := by
  unfold ixN at h
  by_cases h0 : 0 ≤ i
  · rw [if_pos h0] at h
    by_cases h1 : i < n
    · rw [if_pos h1] at h
      have e : i.toNat = j := Option.some.inj h
      exact ⟨by rw [seqIndex_of h0 h1, e], by omega, by omega, h1⟩
    · rw [if_neg h1] at h; cases h
  · rw [if_neg h0] at h
    by_cases h1 : -(n : Int) ≤ i
    · rw [if_pos h1] at h
      have e : (i + n).toNat = j := Option.some.inj h
      exact ⟨by rw [seqIndex_neg (by omega) h1, e], by omega, h1, by omega⟩
    · rw [if_neg h1] at h; cases h
theorem atI_get {α : Type} {xs : List α} {i : Int} {v : α} (h : atI xs i = some v) : ∃ j, seqIndex? i xs.length = some j ∧ xs[j]? = some v ∧ j < xs.length ∧ -(xs.length : Int) ≤ i ∧ i < xs.length := by
  unfold atI at h
  cases e : ixN xs.length i with
  | none => rw [e] at h; cases h
  | some j =>
    rw [e] at h
    obtain ⟨h1, h2, h3, h4⟩ := ixN_seq e
    exact ⟨j, h1, h, h2, h3, h4⟩
theorem atI_nat {α : Type} {xs : List α} {j : Nat} {v : α} (h : xs[j]? = some v) : atI xs (j : Int) = some v := by
  have hj : j < xs.length := (List.getElem?_eq_some_iff.mp h).1
  have e : ixN xs.length (j : Int) = some j := by
    unfold ixN
    rw [if_pos (by omega), if_pos (by omega)]; simp
  unfold atI; rw [e]; exact h
/-! ### what may be subscripted -/
/-- what stands as an index of a plain subscript -/
def PlainIx (b : Expr) : Prop := ∀ o i, subscripted b false o i = operate [o, i] (getItem o i)
/-- a subscript by values -/
def IxR (X : Cx) (r : R2) : Prop :=
  ∀ (value slice : Expr) (pins : List (Addr × Obj)) (s : Shared) (σ : St) (H : Hp) (x y : V) (v u : Value) (Q : VK), Inv X pins σ H s → RelV x v → RelV y u → r x y H Q →
    subscripted slice false v u = operate [v, u] (getItem v u) → wpAny (model X.prog X.w) X.A (subscriptTail value slice v u) (EP X pins σ Q) X.xe s
/-- a call of a builtin's method by values: the receiver, the arguments -/
def MtR (X : Cx) (id : String) (r : V → List V → Hp → VK → Prop) : Prop :=
  ∀ (pins : List (Addr × Obj)) (s : Shared) (σ : St) (H : Hp) (x : V) (xs : List V) (v : Value) (us : List Value) (Q : VK), Inv X pins σ H s → RelV x v → Vals xs us → r x xs H Q →
    wpAny (model X.prog X.w) X.A (call (.builtin id) (v :: us)) (EP X pins σ Q) X.xe s
section
variable {X : Cx} {a b : Expr} {ta tb : TE} {pos : Pos}
/-- a[b] -/
theorem pe_ix {r : R2} (hr : IxR X r) (ha : PE X a ta) (hb : PE X b tb) (hs : PlainIx b) : PE X (.Subscript a b pos) (tOp r ta tb) := by
  intro pins s σ H Q I h
  exact Subscript_ (binT ha hb I h fun v u s2 x y H2 I2 rx ry q => hr a b pins s2 σ H2 x y v u Q I2 rx ry q (hs _ _))

def rIxL (K : PySem.W.Frag) : R2 := fun x y H Q => ∃ p xs i v, x = .ref p ∧ y = .int i ∧ SqL K H p xs ∧ atI xs i = some v ∧ Q v H
def rIxT (K : PySem.W.Frag) : R2 := fun x y H Q => ∃ p xs i v, x = .ref p ∧ y = .int i ∧ SqT K H p xs ∧ atI xs i = some v ∧ Q v H
def rIxS : R2 := fun x y H Q => ∃ z i c, x = .str z ∧ y = .int i ∧ z.length ≤ sizeLine ∧ atI z.cps.toList i = some c ∧ Q (.str ⟨#[c]⟩) H
theorem ix_list : IxR X (rIxL X.K) := by
  intro value slice pins s σ H x y v u Q I rx ry h hs
  obtain ⟨p, xs, i, z, rfl, rfl, hq, he, q⟩ := h
  cases rx
  obtain ⟨t, rfl⟩ := ry
  obtain ⟨its, r, pl, hz⟩ := I.list hq
  obtain ⟨j, h1, h2, h3, h4, h5⟩ := atI_get he
  obtain ⟨w, ew, rw'⟩ := r.get h2
  have hl := r.length
  have hn := line63
  have fin : EP X pins σ Q w s := ⟨z, H, I, rw', q⟩
  by_cases h0 : 0 ≤ i
  · have hj : i.toNat = j := by
      rw [seqIndex_of h0 h5] at h1
      exact Option.some.inj h1
    exact item_listR pl.isList h0 (by omega) (by rw [hj]; simpa using ew) fin hs
  · have hj : (i + (its.toArray.size : Int)).toNat = j := by
      rw [seqIndex_neg (by omega) h4] at h1
      rw [List.size_toArray, ← hl]
      exact Option.some.inj h1
    exact subscriptTail_builtinR (x := w) pl.isList.typeIs slot_list_getitem.lookup
      (wpAny_getItem_list_neg (Q := fun r s' => r = w ∧ EP X pins σ Q r s') pl.isList (by omega) (by rw [List.size_toArray] <;> omega) (by omega) (by rw [hj]; simpa using ew) ⟨rfl, fin⟩) hs
theorem ix_tup : IxR X (rIxT X.K) := by
  intro value slice pins s σ H x y v u Q I rx ry h hs
  obtain ⟨p, xs, i, z, rfl, rfl, hq, he, q⟩ := h
  cases rx
  obtain ⟨t, rfl⟩ := ry
  obtain ⟨its, r, pl, hz⟩ := I.tuple hq
  obtain ⟨j, h1, h2, h3, h4, h5⟩ := atI_get he
  obtain ⟨w, ew, rw'⟩ := r.get h2
  have hl := r.length
  have hn := line63
  have fin : EP X pins σ Q w s := ⟨z, H, I, rw', q⟩
  exact subscriptTail_builtinR (x := w) pl.typeIs slot_tuple_getitem.lookup
    (getItem_tuple (j := j) (Q := fun r s' => r = w ∧ EP X pins σ Q r s') pl (by omega) (by omega) (by rw [List.size_toArray, ← hl]; exact h1) (by simpa using ew) ⟨rfl, fin⟩) hs
theorem ix_str : IxR X rIxS := by
  intro value slice pins s σ H x y v u Q I rx ry h hs
  obtain ⟨z, i, c, rfl, rfl, hz, he, q⟩ := h
  obtain ⟨t, rfl⟩ := rx
  obtain ⟨t', rfl⟩ := ry
  obtain ⟨j, h1, h2, h3, h4, h5⟩ := atI_get he
  have hl : z.cps.toList.length = z.length := by simp [Str.length]
  rw [hl] at h1 h4 h5
  have hn := line63
  exact tail_any (typeIs_str s z t) slot_str_getitem.lookup (getItem_str (c := c) (by
    have e1 : decide (i < -(2 ^ 63 : Int)) = false := decide_eq_false (by omega)
    have e2 : decide (i ≥ 2 ^ 63) = false := decide_eq_false (by omega)
    rw [e1, e2, Bool.or_false]) (by rw [h1]; simpa using h2) ⟨.str ⟨#[c]⟩, H, I.tok _, ⟨_, rfl⟩, q⟩) hs
/-! ### xs[i] = v, any sign -/
/-- the list's object behind a store -/
theorem mapSeq_set (its : List Value) (n j : Nat) (u : Value) : Obj.mapSeq (·.setIfInBounds j u) { cls := .type "list", data := .seq its.toArray n } = { cls := .type "list", data := .seq (its.set j u).toArray n } := by
  simp [Obj.mapSeq]
theorem Inv.lst {pins : List (Addr × Obj)} {σ : St} {H : Hp} {s : Shared} {p : Addr} {xs : List V} (I : Inv X pins σ H s) (h : H p = some (.lst xs)) :
    ∃ (its : List Value) (n : Nat), Vals xs its ∧ s.heap.get? p = some { cls := .type "list", data := .seq its.toArray n } ∧ xs.length ≤ sizeLine := by
  obtain ⟨z, its, n, r, e⟩ := I.hok p _ h
  exact ⟨its, n, r, e, z⟩
/-- the list at p is written by an update of its object -/
theorem Inv.lstUpd {pins : List (Addr × Obj)} {σ : St} {H : Hp} {s : Shared} {p : Addr} {xs ys : List V} {its its' : List Value} {n n' : Nat} {f : Obj → Obj} (I : Inv X pins σ H s) (h : H p = some (.lst xs))
    (ho : s.heap.get? p = some { cls := .type "list", data := .seq its.toArray n }) (hf : f { cls := .type "list", data := .seq its.toArray n } = { cls := .type "list", data := .seq its'.toArray n' }) (r : Vals ys its') (hz : ys.length ≤ sizeLine) (t : Nat) :
    Inv X pins σ (upd H p (.lst ys)) { s with heap := s.heap.update p f, toks := t } := by
  have e : (s.heap.update p f).get? p = some { cls := .type "list", data := .seq its'.toArray n' } := by
    rw [Heap.get?_update_self f ho (by rw [hf] <;> rfl), hf]
  refine I.write (x := p) (e := p) (by rw [h]; trivial) (.inl rfl) (fun b u hb q => (Heap.get?_update_other _ _ (Ne.symm hb)).trans q) ⟨_, e⟩ ?_
  exact ⟨hz, its', n', r, e⟩
def rSetL : V → V → V → Hp → (Hp → Prop) → Prop := fun o i v H Q => ∃ p xs k j, o = .ref p ∧ i = .int k ∧ H p = some (.lst xs) ∧ ixN xs.length k = some j ∧ Q (upd H p (.lst (xs.set j v)))
theorem set_list : PSet X rSetL := by
  intro pins s σ H o i v ov iv u Q I ro ri rv h
  obtain ⟨p, xs, k, j, rfl, rfl, hp, hj, q⟩ := h
  cases ro
  obtain ⟨t, rfl⟩ := ri
  obtain ⟨its, n, r, ho, hz⟩ := I.lst hp
  obtain ⟨h1, h2, h3, h4⟩ := ixN_seq hj
  have hl := r.length
  have hn := line63
  have I' : Inv X pins σ (upd H p (.lst (xs.set j v))) { s with heap := s.heap.update p (Obj.mapSeq (·.setIfInBounds j u)) } :=
    I.lstUpd hp ho (mapSeq_set its n j u) (r.set rv j) (by rw [List.length_set]; exact hz) s.toks
  by_cases h0 : 0 ≤ k
  · have hk : k.toNat = j := by
      rw [seqIndex_of h0 h4] at h1
      exact Option.some.inj h1
    exact PySem.W.ki_setAt ho h0 (by omega) (by rw [List.size_toArray, ← hl]; exact h4) (by rw [hk]; exact ⟨_, I', q⟩)
  · have hk : (k + (its.toArray.size : Int)).toNat = j := by
      rw [seqIndex_neg (by omega) h3] at h1
      rw [List.size_toArray, ← hl]
      exact Option.some.inj h1
    exact PySem.W.ki_setBack ho (by omega) (by rw [List.size_toArray, ← hl]; exact h3) (by omega) (by rw [hk]; exact ⟨_, I', q⟩)

/-! ### slices -/
theorem slice_bounds (lo hi : Option Int) (n : Nat) : (sliceBounds lo hi none n).1 = ((HT.sIx n 0 lo : Nat) : Int) ∧ (sliceBounds lo hi none n).2.1 = ((HT.sIx n n hi : Nat) : Int) ∧ (sliceBounds lo hi none n).2.2 = 1 := by
  refine ⟨?_, ?_, rfl⟩
  · cases lo with
    | none => simp [sliceBounds, HT.sIx]
    | some i =>
      simp only [sliceBounds, HT.sIx, Option.getD_none, show (1 : Int) > 0 by decide, if_true]
      by_cases h : i < 0
      · simp only [h, if_true] <;> omega
      · simp only [h, if_false] <;> omega
  · cases hi with
    | none => simp [sliceBounds, HT.sIx]
    | some i =>
      simp only [sliceBounds, HT.sIx, Option.getD_none, show (1 : Int) > 0 by decide, if_true]
      by_cases h : i < 0
      · simp only [h, if_true] <;> omega
      · simp only [h, if_false] <;> omega
theorem slicePick_cut (its : List Value) (lo hi : Option Int) : slicePick its.toArray lo hi none = ((its.drop (HT.sIx its.length 0 lo)).take (HT.sIx its.length its.length hi - HT.sIx its.length 0 lo)).toArray := by
  obtain ⟨h1, h2, h3⟩ := slice_bounds lo hi its.toArray.size
  unfold slicePick
  rw [h1, h2, h3]
  simp only [sliceRange_one, pick_run, List.size_toArray] <;> rfl
/-- xs[lo:hi] of a list: a new list -/
def rSlL (K : PySem.W.Frag) : V → Option Int → Option Int → Hp → VK → Prop := fun x lo hi H Q => ∃ a xs, x = .ref a ∧ SqL K H a xs ∧ ∀ p, H p = none → Q (.ref p) (upd H p (.lst (cutV xs lo hi)))
theorem sl_list : SlR X (rSlL X.K) := by
  intro pins s σ H x v vl vu lo hi sl Q I rx hs pl pu h
  obtain ⟨a, xs, rfl, hx, q⟩ := h
  cases rx
  obtain ⟨its, r, ht, hz⟩ := I.list hx
  have hlen := r.length
  refine ⟨"list", _, slot_list_getitem.lookup, ht.isList.typeIs, ?_⟩
  refine wpAny_getItem_list_slice ht.isList hs pl pu .none (by simp) ?_ (by rw [List.size_toArray] <;> omega)
  rw [slicePick_cut, ← hlen]
  refine ⟨.ref s.heap.objs.size, _, I.laid (t' := s.toks) (o := .lst (cutV xs lo hi)) (fun b ob q => Heap.get?_push_of_some _ q) (Nat.le_refl _) ?_, rfl, q _ (I.hok.fresh (Nat.le_refl _))⟩
  exact ⟨Nat.le_trans (cutV_length xs lo hi) hz, _, 0, (r.drop (HT.sIx xs.length 0 lo)).take (HT.sIx xs.length xs.length hi - HT.sIx xs.length 0 lo), Heap.get?_push_size _ rfl⟩

/-! ### in, not in: flat items -/
def flatV : V → Bool
  | .non => true
  | .bl _ => true
  | .int _ => true
  | .str _ => true
  | _ => false
/-- == of flat values -/
def eqV : V → V → Bool
  | .non, .non => true
  | .bl a, .bl b => a == b
  | .bl a, .int b => (if a then 1 else 0) == b
  | .int a, .bl b => a == (if b then 1 else 0)
  | .int a, .int b => a == b
  | .str a, .str b => a == b
  | _, _ => false
theorem eqAt_V {A : Around} {s : Shared} {y x : V} {u v : Value} (ry : RelV y u) (rx : RelV x v) (fy : flatV y = true) (fx : flatV x = true) : SeqAt.EqAt A s u v (eqV y x) := by
  cases y with
  | non =>
    cases ry
    cases x with
    | non => cases rx; exact SeqAt.EqAt.same _
    | bl b => cases rx; exact SeqAt.EqAt.none_bool b
    | int b => obtain ⟨t, rfl⟩ := rx; exact SeqAt.EqAt.none_int b t
    | str b => obtain ⟨t, rfl⟩ := rx; exact SeqAt.EqAt.none_str b t
    | _ => exact absurd (show false = true from fx) Bool.false_ne_true
  | bl a =>
    cases ry
    cases x with
    | non => cases rx; exact SeqAt.EqAt.bool_none a
    | bl b => cases rx; exact SeqAt.EqAt.bool_bool a b
    | int b => obtain ⟨t, rfl⟩ := rx; exact SeqAt.EqAt.bool_int a b t
    | str b => obtain ⟨t, rfl⟩ := rx; exact SeqAt.EqAt.bool_str a b t
    | _ => exact absurd (show false = true from fx) Bool.false_ne_true
  | int a =>
    obtain ⟨t', rfl⟩ := ry
    cases x with
    | non => cases rx; exact SeqAt.EqAt.int_none a t'
    | bl b => cases rx; exact SeqAt.EqAt.int_bool a t' b
    | int b => obtain ⟨t, rfl⟩ := rx; exact SeqAt.EqAt.int_int a t' b t
    | str b => obtain ⟨t, rfl⟩ := rx; exact SeqAt.EqAt.int_str a t' b t
    | _ => exact absurd (show false = true from fx) Bool.false_ne_true
  | str a =>
    obtain ⟨t', rfl⟩ := ry
    cases x with
    | non => cases rx; exact SeqAt.EqAt.str_none a t'
    | bl b => cases rx; exact SeqAt.EqAt.str_bool a t' b
    | int b => obtain ⟨t, rfl⟩ := rx; exact SeqAt.EqAt.str_int a t' b t
    | str b => obtain ⟨t, rfl⟩ := rx; exact SeqAt.EqAt.str_str a t' b t
    | _ => exact absurd (show false = true from fx) Bool.false_ne_true
  | _ => exact absurd (show false = true from fy) Bool.false_ne_true
/-- the items' answers, read off the values (a value's own answer does not lean on its token) -/
def eqU (x : V) (u : Value) : Bool := match u with
  | .none => eqV .non x
  | .bool b => eqV (.bl b) x
  | .int i _ => eqV (.int i) x
  | .str z _ => eqV (.str z) x
  | _ => false
theorem eqU_of {x y : V} {u : Value} (r : RelV y u) (f : flatV y = true) : eqU x u = eqV y x := by
  cases y with
  | non => cases r; rfl
  | bl b => cases r; rfl
  | int i => obtain ⟨t, rfl⟩ := r; rfl
  | str z => obtain ⟨t, rfl⟩ := r; rfl
  | _ => exact absurd (show false = true from f) Bool.false_ne_true
theorem any_eqU {x : V} : ∀ {xs : List V} {us : List Value}, Vals xs us → xs.all flatV = true → us.any (eqU x) = xs.any fun y => eqV y x
  | _, _, .nil, _ => rfl
  | y :: xs, u :: us, .cons r t, f => by
    rw [List.all_cons, Bool.and_eq_true] at f
    rw [List.any_cons, List.any_cons, eqU_of r f.1, any_eqU t f.2]
theorem mem_eqAt {A : Around} {s : Shared} {x : V} {v : Value} (rx : RelV x v) (fx : flatV x = true) : ∀ {xs : List V} {us : List Value}, Vals xs us → xs.all flatV = true → ∀ u ∈ us, SeqAt.EqAt A s u v (eqU x u)
  | _, _, .nil, _ => fun u hu => by cases hu
  | y :: xs, u :: us, .cons r t, f => fun u' hu => by
    rw [List.all_cons, Bool.and_eq_true] at f
    rcases List.mem_cons.mp hu with rfl | hu
    · rw [eqU_of r f.1]; exact eqAt_V r rx f.1 fx
    · exact mem_eqAt rx fx t f.2 u' hu
def inV (x : V) (xs : List V) : Bool := xs.any fun y => eqV y x
/-- x in a list or tuple of flat items -/
def rIn (K : PySem.W.Frag) (neg : Bool) : R2 := fun x y H Q => ∃ p xs, y = .ref p ∧ (SqL K H p xs ∨ SqT K H p xs) ∧ flatV x = true ∧ xs.all flatV = true ∧ Q (.bl (if neg then !inV x xs else inV x xs)) H
theorem op_in_seq : OpR X (compareOp .In) (rIn X.K false) := by
  intro pins s σ H x y v u Q I rx ry h
  obtain ⟨p, xs, rfl, hq, fx, fs, q⟩ := h
  cases ry
  rcases hq with hq | hq
  · obtain ⟨its, r, pl, hz⟩ := I.list hq
    refine SeqAt.in_listAt (eqU x) pl.isList (fun w hw => mem_eqAt rx fx r fs w (by simpa using hw)) ⟨.bl _, H, I, rfl, ?_⟩
    rw [show its.toArray.any (eqU x) = its.any (eqU x) by simp, any_eqU r fs]
    exact q
  · obtain ⟨its, r, pl, hz⟩ := I.tuple hq
    refine SeqAt.in_tupleAt (eqU x) pl (fun w hw => mem_eqAt rx fx r fs w (by simpa using hw)) ⟨.bl _, H, I, rfl, ?_⟩
    rw [show its.toArray.any (eqU x) = its.any (eqU x) by simp, any_eqU r fs]
    exact q
theorem op_notIn_seq : OpR X (compareOp .NotIn) (rIn X.K true) := by
  intro pins s σ H x y v u Q I rx ry h
  obtain ⟨p, xs, rfl, hq, fx, fs, q⟩ := h
  cases ry
  rcases hq with hq | hq
  · obtain ⟨its, r, pl, hz⟩ := I.list hq
    refine SeqAt.notIn_listAt (eqU x) pl.isList (fun w hw => mem_eqAt rx fx r fs w (by simpa using hw)) ⟨.bl _, H, I, rfl, ?_⟩
    rw [show its.toArray.any (eqU x) = its.any (eqU x) by simp, any_eqU r fs]
    exact q
  · obtain ⟨its, r, pl, hz⟩ := I.tuple hq
    refine SeqAt.notIn_tupleAt (eqU x) pl (fun w hw => mem_eqAt rx fx r fs w (by simpa using hw)) ⟨.bl _, H, I, rfl, ?_⟩
    rw [show its.toArray.any (eqU x) = its.any (eqU x) by simp, any_eqU r fs]
    exact q
/-! ### len, list(x), tuple(x) of any list or tuple that is read -/
theorem call_len_seq : CallR X (.builtin "len") (fun xs H Q => ∃ p ys, xs = [.ref p] ∧ (SqL X.K H p ys ∨ SqT X.K H p ys) ∧ Q (.int ys.length) H) := by
  intro pins s σ H xs us Q I r h
  obtain ⟨p, ys, rfl, hq, q⟩ := h
  obtain ⟨u, rfl, rx⟩ := vals1 r
  cases rx
  have hn := line63
  rcases hq with hq | hq
  · obtain ⟨its, r', pl, hz⟩ := I.list hq
    have hlen := r'.length
    exact Calls.call_len_list pl.isList (by simp only [List.size_toArray] <;> omega) ⟨.int ys.length, H, I.tok _, ⟨s.toks + 1, by rw [List.size_toArray, hlen]⟩, q⟩
  · obtain ⟨its, r', pl, hz⟩ := I.tuple hq
    have hlen := r'.length
    exact len_tuple pl (by simp only [List.size_toArray] <;> omega) ⟨.int ys.length, H, I.tok _, ⟨s.toks + 1, by rw [List.size_toArray, hlen]⟩, q⟩
theorem call_len_str : CallR X (.builtin "len") (fun xs H Q => ∃ z, xs = [.str z] ∧ z.length ≤ sizeLine ∧ Q (.int z.length) H) := by
  intro pins s σ H xs us Q I r h
  obtain ⟨z, rfl, hz, q⟩ := h
  obtain ⟨u, rfl, t, rfl⟩ := vals1 r
  have hn := line63
  exact len_str (by omega) ⟨.int z.length, H, I.tok _, ⟨_, rfl⟩, q⟩
theorem call_list_of : CallR X (.type "list") (fun xs H Q => ∃ p ys, xs = [.ref p] ∧ (SqL X.K H p ys ∨ SqT X.K H p ys) ∧ ∀ l, H l = none → Q (.ref l) (upd H l (.lst ys))) := by
  intro pins s σ H xs us Q I r h
  obtain ⟨p, ys, rfl, hq, q⟩ := h
  obtain ⟨u, rfl, rx⟩ := vals1 r
  cases rx
  have fin : ∀ (its : List Value), Vals ys its → ys.length ≤ sizeLine → ∀ (h' : Heap) (c' : Nat), (∀ b o', s.heap.get? b = some o' → h'.get? b = some o') →
      h'.get? s.heap.objs.size = some { cls := .type "list", dict := none, data := .seq its.toArray c', slots := #[] } → EP X pins σ Q (.ref s.heap.objs.size) { s with heap := h' } := fun its r' hz h' c' kp e =>
    ⟨.ref s.heap.objs.size, _, I.laid (t' := s.toks) kp (Nat.le_refl _) (show ObjOk X.prog X.w _ h' _ (.lst ys) from ⟨hz, its, c', r', e⟩), rfl, q _ (I.hok.fresh (Nat.le_refl _))⟩
  rcases hq with hq | hq
  · obtain ⟨its, r', pl, hz⟩ := I.list hq
    have hlen := r'.length
    obtain ⟨o, ho, hc, n, hd⟩ := pl.isList
    exact call_list_seq p (.inl rfl) ho hc hd (fun h' c' kp e => fin its r' hz h' c' kp e) (by simp only [List.size_toArray] <;> omega)
  · obtain ⟨its, r', pl, hz⟩ := I.tuple hq
    have hlen := r'.length
    obtain ⟨o, ho, hc, n, hd⟩ := pl
    exact call_list_seq p (.inr rfl) ho hc hd (fun h' c' kp e => fin its r' hz h' c' kp e) (by simp only [List.size_toArray] <;> omega)
theorem call_tuple_of : CallR X (.type "tuple") (fun xs H Q => ∃ p ys, xs = [.ref p] ∧ ((SqL X.K H p ys ∧ ∀ l, H l = none → Q (.ref l) (upd H l (.tup ys))) ∨ (SqT X.K H p ys ∧ Q (.ref p) H))) := by
  intro pins s σ H xs us Q I r h
  obtain ⟨p, ys, rfl, h⟩ := h
  obtain ⟨u, rfl, rx⟩ := vals1 r
  cases rx
  rcases h with ⟨hq, q⟩ | ⟨hq, q⟩
  · obtain ⟨its, r', pl, hz⟩ := I.list hq
    have hlen := r'.length
    refine call_tuple_list pl.isList (fun h' kp => ?_) (by simp only [List.size_toArray] <;> omega)
    have I1 : Inv X pins σ H { s with heap := h' } := I.kept (t' := s.toks) kp
    have I2 : Inv X pins σ (upd H h'.objs.size (.tup ys)) { s with heap := h'.push { cls := .type "tuple", data := .seq its.toArray } } :=
      I1.laid (t' := s.toks) (fun b o e => Heap.get?_push_of_some _ e) (Nat.le_refl _) (show ObjOk X.prog X.w _ _ _ (.tup ys) from ⟨hz, its, r', IsTup.new _ _⟩)
    exact ⟨.ref h'.objs.size, _, I2, rfl, q _ (I1.hok.fresh (Nat.le_refl _))⟩
  · obtain ⟨its, r', pl, hz⟩ := I.tuple hq
    exact call_tuple_same pl ⟨.ref p, H, I, rfl, q⟩

/-! ### the call of a builtin's method: o.m(..) -/
/-- the value is of that builtin type -/
def tyV (K : PySem.W.Frag) (T : String) (x : V) (H : Hp) : Prop := match x with
  | .str _ => T = "str"
  | .int _ => T = "int"
  | .ref p => (T = "list" ∧ ∃ xs, SqL K H p xs) ∨ (T = "tuple" ∧ ∃ o, K.lookup p = some o ∧ o.cls = .type "tuple" ∧ o.dict = none) ∨
      (T = "dict" ∧ ((∃ kvs, H p = some (.dK kvs)) ∨ ∃ kvs, H p = some (.dT kvs))) ∨ (T = "set" ∧ ∃ S n, H p = some (.set S n))
  | _ => False
theorem tyV_is {pins : List (Addr × Obj)} {σ : St} {H : Hp} {s : Shared} {T : String} {x : V} {v : Value} (I : Inv X pins σ H s) (r : RelV x v) (ty : tyV X.K T x H) :
    s.TypeIs v T ∧ ∀ a, v = .ref a → ∃ ob, s.heap.get? a = some ob ∧ ob.dict = none := by
  cases x with
  | str z =>
    obtain ⟨t, rfl⟩ := r
    cases (show T = "str" from ty)
    exact ⟨typeIs_str s z t, fun _ e => nomatch e⟩
  | int i =>
    obtain ⟨t, rfl⟩ := r
    cases (show T = "int" from ty)
    exact ⟨typeIs_int s i t, fun _ e => nomatch e⟩
  | ref p =>
    cases r
    rcases ty with ⟨rfl, xs, hq⟩ | ⟨rfl, o, hk, hc, hd⟩ | ⟨rfl, hk⟩ | ⟨rfl, S, n, hk⟩
    · obtain ⟨its, _, pl, _⟩ := I.list hq
      refine ⟨pl.isList.typeIs, fun a e => ?_⟩
      cases e
      obtain ⟨o, n, e, c, hd, _⟩ := pl
      exact ⟨o, e, hd⟩
    · refine ⟨⟨o, I.kIn p o hk, hc⟩, fun a e => ?_⟩
      cases e
      exact ⟨o, I.kIn _ o hk, hd⟩
    · have z : ∃ o, s.heap.get? p = some o ∧ o.ExactDict := by
        rcases hk with ⟨kvs, hk⟩ | ⟨kvs, hk⟩
        · obtain ⟨_, _, _, _, o, _, _, e, ex, _⟩ := I.hok p _ hk
          exact ⟨o, e, ex⟩
        · obtain ⟨_, _, _, _, o, _, _, e, ex, _⟩ := I.hok p _ hk
          exact ⟨o, e, ex⟩
      obtain ⟨o, e, ex⟩ := z
      refine ⟨⟨o, e, ex.1⟩, fun a e2 => ?_⟩
      cases e2
      exact ⟨o, e, ex.2.1⟩
    · obtain ⟨o, _, _, _, e, ex, _⟩ := I.hok p _ hk
      refine ⟨⟨o, e, ex.1⟩, fun a e2 => ?_⟩
      cases e2
      exact ⟨o, e, ex.2.1⟩
  | _ => exact False.elim ty
def tBM (K : PySem.W.Frag) (T : String) (r : V → List V → Hp → VK → Prop) (to : TE) (t : TA) : TE := fun σ H Q => to σ H fun x H1 => tyV K T x H1 ∧ t σ H1 fun xs H2 => r x xs H2 Q
variable {o e : Expr} {es : List Expr} {to : TE} {t : TA} {name : Str} {apos cpos : Pos} {T id : String} {r : V → List V → Hp → VK → Prop}
theorem pe_bm (pa : PlainAttrs T) (slot : Slot T name id) (hty : typeOf (.builtin id) = pure (.type "method_descriptor")) (hm : MtR X id r) (ho : PE X o to) (ha : PA X (e :: es) t)
    (hbase : attributeBase o name X.env (eval o X.env) = eval o X.env := by rfl)
    (hfew : ((backTo cpos (starEach (e :: es) X.env)).all (fun x => !x.1) && (backToKw cpos (keywordEach [] X.env)).all (fun x => x.1.isSome)
      && decide ((e :: es).length + ([] : List Keyword).length + (if ([] : List Keyword).isEmpty then 0 else 1) < 30)) = true := by rfl)
    (hline : (apos.endLine == cpos.line) = true := by rfl) (hs : starEach (e :: es) X.env = (false, eval e X.env) :: starEach es X.env := by rfl) (hplain : (backTo cpos (starEach es X.env)).any (·.1) = false := by rfl) :
    PE X (.Call (.Attribute o name apos) (e :: es) [] cpos) (tBM X.K T r to t) := by
  intro pins s σ H Q I h
  refine wpAny_Call_method_late hbase hfew hline rfl (thn (ho pins s σ H _ I h) fun v s1 ⟨x, H1, I1, r1, ty, q1⟩ => ?_)
  obtain ⟨h1, h2⟩ := tyV_is I1 r1 ty
  refine ⟨T, id, pa, slot, hty, h1, h2, ?_⟩
  have hA := ha cpos pins s1 σ H1 _ I1 q1
  rw [hs] at hA ⊢
  refine Calls.callWith_builtin (by show (false || (backTo cpos (starEach es X.env)).any (·.1)) = false; rw [hplain] <;> rfl) (Calls.evalArgs_plain ?_)
  exact thn hA fun us s2 ⟨vs, H2, I2, r2, q2⟩ => hm pins s2 σ H2 x vs v us Q I2 r1 r2 q2
/- xs.append(e), list.index on a module's tuple .. are MtR facts of 06m -/
end
end L2
namespace L2
open PySem PySem.Spec PyProof.Rows
def MtM (X : Cx) (id : String) (r : V → List V → Hp → VK → Prop) : Prop :=
  ∀ (pins : List (Addr × Obj)) (s : Shared) (σ : St) (H : Hp) (x : V) (xs : List V) (v : Value) (us : List Value) (Q : VK), Inv X pins σ H s → RelV x v → Vals xs us → r x xs H Q →
    wpAny (model X.prog X.w) X.A (call (.builtin id) (v :: us)) (EP X pins σ Q) X.xe s

/-! ### lists of values -/
theorem Vals.one : ∀ {x : V} {us : List Value}, Vals [x] us → ∃ u, us = [u] ∧ RelV x u
  | _, _, .cons r .nil => ⟨_, rfl, r⟩
theorem Vals.eraseIdx : ∀ {xs : List V} {us : List Value} (i : Nat), Vals xs us → Vals (xs.eraseIdx i) (us.eraseIdx i)
  | _, _, _, .nil => .nil
  | _, _, 0, .cons _ t => t
  | _, _, i + 1, .cons r t => .cons r (Vals.eraseIdx i t)
theorem Vals.rep {xs : List V} {us : List Value} (h : Vals xs us) : ∀ k : Nat, Vals (List.replicate k xs).flatten (List.replicate k us).flatten
  | 0 => .nil
  | k + 1 => by
    rw [List.replicate_succ, List.replicate_succ, List.flatten_cons, List.flatten_cons]
    exact Vals.append h (Vals.rep h k)
theorem len_erase {α : Type} : ∀ (l : List α) (i : Nat), (l.eraseIdx i).length ≤ l.length
  | [], _ => Nat.le_refl _
  | _ :: _, 0 => Nat.le_succ _
  | _ :: r, i + 1 => Nat.succ_le_succ (len_erase r i)
theorem foldl_rep (its : List Value) : ∀ (k : Nat) (acc : List Value),
    List.foldl (fun x1 x2 => x1 ++ x2) acc.toArray (List.replicate k its.toArray) = (acc ++ (List.replicate k its).flatten).toArray
  | 0, acc => by simp
  | k + 1, acc => by
    have e : acc.toArray ++ its.toArray = (acc ++ its).toArray := by simp
    have e2 : (acc ++ its) ++ (List.replicate k its).flatten = acc ++ (List.replicate (k + 1) its).flatten := by
      rw [List.replicate_succ, List.flatten_cons, List.append_assoc]
    rw [← e2, ← foldl_rep its k (acc ++ its), ← e, List.replicate_succ, List.foldl_cons]

section
variable {X : Cx} {pins : List (Addr × Obj)} {σ : St} {H : Hp} {s : Shared} {l b : Addr} {xs ys zs : List V}
/-! ### the two steps: a tracked list is rewritten, a new list is laid -/
theorem Inv.lset {its its' : List Value} {n : Nat} {f : Array Value → Array Value} {t' : Nat} (I : Inv X pins σ H s) (hH : H l = some (.lst xs))
    (e : s.heap.get? l = some { cls := .type "list", data := .seq its.toArray n }) (hf : f its.toArray = its'.toArray) (hv : Vals ys its') (hz : ys.length ≤ sizeLine) :
    Inv X pins σ (upd H l (.lst ys)) { s with heap := s.heap.update l (Obj.mapSeq f), toks := t' } := by
  have q := PySem.IsL.update e f
  rw [hf] at q
  refine I.write (x := l) (e := l) (by rw [hH]; exact trivial) (.inl rfl) (fun b' u hb hu => (Heap.get?_update_other s.heap (Obj.mapSeq f) (Ne.symm hb)).trans hu) ⟨_, q⟩ ?_
  exact ⟨hz, its', _, hv, q⟩
theorem Inv.lnew {its : List Value} {t' : Nat} (I : Inv X pins σ H s) (hv : Vals ys its) (hz : ys.length ≤ sizeLine) :
    Inv X pins σ (upd H s.heap.objs.size (.lst ys)) { s with heap := s.heap.push { cls := .type "list", data := .seq its.toArray }, toks := t' } :=
  I.laid (fun _ _ q => Heap.get?_push_of_some _ q) (Nat.le_refl _) ⟨hz, its, 0, hv, Heap.get?_push_size _ rfl⟩
theorem Inv.fresh (I : Inv X pins σ H s) : H s.heap.objs.size = none := I.hok.fresh (Nat.le_refl _)
theorem Inv.lstM (I : Inv X pins σ H s) (hH : H l = some (.lst xs)) : xs.length ≤ sizeLine ∧ ∃ (its : List Value) (n : Nat), Vals xs its ∧ xs.length = its.length ∧ s.heap.get? l = some { cls := .type "list", data := .seq its.toArray n } := by
  obtain ⟨z, its, n, r, e⟩ := I.hok l _ hH
  exact ⟨z, its, n, r, r.length, e⟩

theorem notLongL {n : Nat} (h : n ≤ sizeLine) : Builtin.List.listTooLong n = false := by
  unfold Builtin.List.listTooLong
  exact decide_eq_false (by omega)
end
section
variable {X : Cx}
/-! ### methods -/
def rAppend : V → List V → Hp → VK → Prop := fun x vs H Q => ∃ l xs y, x = .ref l ∧ vs = [y] ∧ H l = some (.lst xs) ∧ xs.length < sizeLine ∧ Q .non (upd H l (.lst (xs ++ [y])))
theorem mt_append : MtM X "list.append" rAppend := by
  intro pins s σ H x vs v us Q I rx rv h
  obtain ⟨l, xs, y, rfl, rfl, hH, hz, q⟩ := h
  cases rx
  obtain ⟨u, rfl, ru⟩ := rv.one
  obtain ⟨z, its, n, r, hl, e⟩ := I.lstM hH
  refine call_meets F.slot_list_append ⟨_, e, rfl⟩ F.entry_list_append (F.args_list_append_2 _ _) (PySem.list_append l its.toArray n u (by rw [List.size_toArray]; omega)) ⟨e, ?_⟩
  refine ⟨.non, _, I.lset (its' := its ++ [u]) hH e (by simp) (r.append (.cons ru .nil)) ?_, rfl, q⟩
  rw [List.length_append, List.length_singleton]
  omega

def rExtend : V → List V → Hp → VK → Prop := fun x vs H Q => ∃ l b xs zs, x = .ref l ∧ vs = [.ref b] ∧ H l = some (.lst xs) ∧ H b = some (.lst zs) ∧ xs.length + zs.length ≤ sizeLine ∧ Q .non (upd H l (.lst (xs ++ zs)))
theorem mt_extend : MtM X "list.extend" rExtend := by
  intro pins s σ H x vs v us Q I rx rv h
  obtain ⟨l, b, xs, zs, rfl, rfl, hH, hB, hz, q⟩ := h
  cases rx
  obtain ⟨u, rfl, ru⟩ := rv.one
  cases ru
  obtain ⟨z, its, n, r, hl, e⟩ := I.lstM hH
  obtain ⟨z2, its2, n2, r2, hl2, e2⟩ := I.lstM hB
  have hsz : its.toArray.size + its2.toArray.size ≤ sizeLine := by rw [List.size_toArray, List.size_toArray]; omega
  have hlong : ¬ (!its.toArray.isEmpty && Builtin.List.listTooLong (its.toArray.size + its2.toArray.size)) = true := by
    rw [notLongL hsz, Bool.and_false]
    exact Bool.false_ne_true
  refine call_meets F.slot_list_extend ⟨_, e, rfl⟩ F.entry_list_extend (F.args_list_extend_2 _ _)
    (AutoSeq1.list_extend_list_list_0 l its.toArray n b its2.toArray n2 hlong (by rw [List.size_toArray]; omega) (by omega)) ⟨e, e2, ?_⟩
  refine ⟨.non, _, I.lset (its' := its ++ its2) hH e (by simp) (r.append r2) ?_, rfl, q⟩
  rw [List.length_append]
  omega

def rPopAt : V → List V → Hp → VK → Prop := fun x vs H Q => ∃ l xs i k y, x = .ref l ∧ vs = [.int i] ∧ H l = some (.lst xs) ∧ -(2 ^ 63) ≤ i ∧ i < 2 ^ 63 ∧ seqIndex? i xs.length = some k ∧ xs[k]? = some y ∧ Q y (upd H l (.lst (xs.eraseIdx k)))
theorem mt_popAt : MtM X "list.pop" rPopAt := by
  intro pins s σ H x vs v us Q I rx rv h
  obtain ⟨l, xs, i, k, y, rfl, rfl, hH, h1, h2, hk, hy, q⟩ := h
  cases rx
  obtain ⟨u, rfl, ru⟩ := rv.one
  obtain ⟨t, rfl⟩ := ru
  obtain ⟨z, its, n, r, hl, e⟩ := I.lstM hH
  obtain ⟨w, hw, rw'⟩ := r.get hy
  refine call_meets F.slot_list_pop ⟨_, e, rfl⟩ F.entry_list_pop (F.args_list_pop_2 _ _)
    (MeetsSeq.list_pop_at l its.toArray n i t k w (fitsIndex_both h1 h2) (by rw [List.size_toArray, ← hl]; exact hk) (by rw [← Array.getElem?_toList]; exact hw) (by rw [List.size_toArray]; omega)) ⟨e, ?_⟩
  refine ⟨y, _, I.lset (its' := its.eraseIdx k) hH e ?_ (r.eraseIdx k) ?_, rw', q⟩
  · show its.toArray.eraseIdxIfInBounds k = (its.eraseIdx k).toArray
    rw [List.eraseIdxIfInBounds_toArray]
  · have := len_erase xs k
    omega

/-! ### list + list, list += list, list * int -/
def rCat : R2 := fun x y H Q => ∃ l b xs zs, x = .ref l ∧ y = .ref b ∧ H l = some (.lst xs) ∧ H b = some (.lst zs) ∧ xs.length + zs.length ≤ sizeLine ∧ ∀ p, H p = none → Q (.ref p) (upd H p (.lst (xs ++ zs)))
theorem op_cat : OpR X (binaryOp .Add) rCat := by
  intro pins s σ H x y v u Q I rx ry h
  obtain ⟨l, b, xs, zs, rfl, rfl, hH, hB, hz, q⟩ := h
  cases rx
  cases ry
  obtain ⟨z, its, n, r, hl, e⟩ := I.lstM hH
  obtain ⟨z2, its2, n2, r2, hl2, e2⟩ := I.lstM hB
  refine PySem.P.add_list e e2 ?_ (by rw [List.size_toArray, List.size_toArray]; omega)
  have ea : its.toArray ++ its2.toArray = (its ++ its2).toArray := by simp
  rw [ea]
  exact ⟨.ref _, _, I.lnew (t' := s.toks) (r.append r2) (by rw [List.length_append]; omega), rfl, q _ I.fresh⟩
/-- a list times an int (a negative one is nothing) -/
def rRep : R2 := fun x y H Q => ∃ l k xs, x = .ref l ∧ y = .int k ∧ H l = some (.lst xs) ∧ -(2 ^ 63) ≤ k ∧ k < 2 ^ 63 ∧ xs.length * k.toNat ≤ sizeLine ∧
  ∀ p, H p = none → Q (.ref p) (upd H p (.lst (List.replicate k.toNat xs).flatten))
theorem len_rep {α : Type} (xs : List α) (k : Nat) : (List.replicate k xs).flatten.length = k * xs.length := by
  induction k with
  | zero => simp
  | succ k ih => rw [List.replicate_succ, List.flatten_cons, List.length_append, ih, Nat.succ_mul, Nat.add_comm]
theorem op_rep : OpR X (binaryOp .Mult) rRep := by
  intro pins s σ H x y v u Q I rx ry h
  obtain ⟨l, k, xs, rfl, rfl, hH, h1, h2, hz, q⟩ := h
  cases rx
  obtain ⟨t, rfl⟩ := ry
  obtain ⟨z, its, n, r, hl, e⟩ := I.lstM hH
  have hlen : its.toArray.size * k.toNat ≤ sizeLine := by rw [List.size_toArray, ← hl]; exact hz
  have hcap : ¬ its.toArray.size * k.toNat > (2 ^ 63 - 1) / 8 := by
    have : (sizeLine : Nat) ≤ (2 ^ 63 - 1) / 8 := by decide
    omega
  have hfit : ¬ (!Builtin.List.listFitsIndex k) = true := by
    rw [fitsIndex_both h1 h2]
    exact Bool.false_ne_true
  have hlong : ¬ Builtin.List.listTooLong (its.toArray.size * k.toNat) = true := by
    rw [notLongL hlen]
    exact Bool.false_ne_true
  have hnew : List.foldl (fun x1 x2 => x1 ++ x2) #[] (List.replicate (if its.toArray.isEmpty = true then 0 else k.toNat) its.toArray) = (List.replicate k.toNat its).flatten.toArray := by
    have f0 : ∀ m : Nat, List.foldl (fun x1 x2 => x1 ++ x2) #[] (List.replicate m its.toArray) = (List.replicate m its).flatten.toArray := fun m => by
      have := foldl_rep its m []
      rw [List.nil_append] at this
      exact this
    rw [f0]
    cases its with
    | nil => simp
    | cons a r' => rw [if_neg (by simp)]
  refine wpAny_binaryOp_repeat_ref (T := "list") (U := "int") (by decide) ⟨_, e, rfl⟩ (fun s' => typeIs_int s' k t) noFill_list_mul F.fills_int_mul F.slot_int_rmul repeat_list F.slot_int_index.lookup
    (call_meets F.slot_int_rmul (typeIs_int s k t) F.entry_int_rmul (F.args_int_rmul_2 _ _) (int___rmul___int_list k t l its.toArray n)
      ⟨e, rfl, ⟨_, e, rfl⟩, call_meets F.slot_list_mul ⟨_, e, rfl⟩ F.entry_list_mul (F.args_list_mul_2 _ _) (AutoListH.list___mul___list_int_3 l its.toArray n k t hfit hcap hlong) ⟨e, ?_⟩⟩)
  rw [hnew]
  exact ⟨.ref _, _, I.lnew (t' := s.toks) (r.rep k.toNat) (by rw [len_rep, Nat.mul_comm]; exact hz), rfl, q _ I.fresh⟩

/-! ### del xs[i] -/
end
/-! ### xs[a:b] = ys -/
section
variable {prog : Program} {w : World} {A : Around} {E : Value → Shared → Prop} {s : Shared}
end
section
variable {X : Cx}
end
end L2
namespace L2
open PySem PySem.Spec PyProof.Rows
theorem Vals.ints : ∀ {ns : List Int} {us : List Value}, Vals (ns.map V.int) us → IntsAre us ns
  | [], us, h => by
    rw [List.map_nil] at h
    cases h
    exact IntsAre.nil
  | n :: ns, us, h => by
    rw [List.map_cons] at h
    cases h with
    | cons r t =>
      obtain ⟨k, rfl⟩ := r
      exact IntsAre.cons n k (Vals.ints t)
theorem vals_of_ints : ∀ {us : List Value} {ns : List Int}, IntsAre us ns → Vals (ns.map V.int) us
  | _, _, .nil => by rw [List.map_nil]; exact Paired.nil
  | _, _, .cons n t h => by rw [List.map_cons]; exact Paired.cons (show RelV (V.int n) (Value.int n t) from ⟨t, rfl⟩) (vals_of_ints h)
theorem Vals.strs : ∀ {xs : List Str} {us : List Value}, Vals (xs.map V.str) us → StrsAre us xs
  | [], us, h => by
    rw [List.map_nil] at h
    cases h
    exact StrsAre.nil
  | x :: xs, us, h => by
    rw [List.map_cons] at h
    cases h with
    | cons r t =>
      obtain ⟨k, rfl⟩ := r
      exact StrsAre.cons x k (Vals.strs t)
theorem vals_of_strs : ∀ {us : List Value} {xs : List Str}, StrsAre us xs → Vals (xs.map V.str) us
  | _, _, .nil => by rw [List.map_nil]; exact Paired.nil
  | _, _, .cons x t h => by rw [List.map_cons]; exact Paired.cons (show RelV (V.str x) (Value.str x t) from ⟨t, rfl⟩) (vals_of_strs h)
theorem Vals.bls : ∀ {bs : List Bool} {us : List Value}, Vals (bs.map V.bl) us → us = bs.map Value.bool
  | [], us, h => by
    rw [List.map_nil] at h
    cases h
    rfl
  | b :: bs, us, h => by
    rw [List.map_cons] at h
    cases h with
    | cons r t =>
      cases r
      rw [Vals.bls t, List.map_cons]
theorem Vals.ref1 {a : Addr} {us : List Value} (r : Vals [V.ref a] us) : us = [Value.ref a] := by
  cases r with
  | cons r t =>
    cases t
    cases r
    rfl
/-! ### the library's walks over a list of ints, kept objects alone -/
section
variable {prog : Program} {w : World} {A : Around} {E : Value → Shared → Prop} {s : Shared} {l : Addr} {its : List Value} {ns : List Int} {Q : Value → Shared → Prop}
end
/-! ### the calls, by values (CallR of 03t; MtR of 06l) -/
section
variable {X : Cx}
/-! sorted, sort (fewer than 64 items: the library's own bound) -/
def rSorted (K : PySem.W.Frag) : List V → Hp → VK → Prop := fun vs H Q => ∃ (a : Addr) (ns : List Int), vs = [V.ref a] ∧ SqL K H a (ns.map V.int) ∧ ns.length < 64 ∧
  ∀ (ns' : List Int) (p : Addr), ns'.Perm ns → ns'.Pairwise (· ≤ ·) → H p = none → Q (.ref p) (upd H p (.lst (ns'.map V.int)))
def rSortedS (K : PySem.W.Frag) : List V → Hp → VK → Prop := fun vs H Q => ∃ (a : Addr) (xs : List Str), vs = [V.ref a] ∧ SqL K H a (xs.map V.str) ∧ xs.length < 64 ∧
  ∀ (ys : List Str) (p : Addr), ys.Perm xs → sortedS ys = true → H p = none → Q (.ref p) (upd H p (.lst (ys.map V.str)))
theorem small64 {n : Nat} (h : n < 64) : n ≤ sizeLine := by rw [sizeLine_eq]; omega
theorem cr_sorted : CallR X (.builtin "sorted") (rSorted X.K) := by
  intro pins s σ H vs us Q I r h
  obtain ⟨a, ns, rfl, hs, h64, q⟩ := h
  obtain ⟨its, rv, hl, _⟩ := I.list hs
  rw [Vals.ref1 r]
  have hi := rv.ints
  refine PyProof.Rows.sorted_ints hl.isList hi (by rw [hi.length]; exact h64) fun out ns' h1 h2 h3 => ?_
  obtain ⟨ep, he'⟩ := PyProof.Rows.sortedAll_at s.heap its out
  have hlen : (ns'.map V.int).length ≤ sizeLine := by rw [List.length_map, h2.length_eq]; exact small64 h64
  exact ⟨.ref _, upd H (s.heap.objs.size + 1) (.lst (ns'.map V.int)), I.laid (t' := s.toks) (fun _ _ => PyProof.Rows.sortedAll_old) (Nat.le_succ _) ⟨hlen, out.toList, ep, vals_of_ints h1, he'⟩, rfl, q ns' _ h2 h3 (I.hok.fresh (Nat.le_succ _))⟩
theorem cr_sortedS : CallR X (.builtin "sorted") (rSortedS X.K) := by
  intro pins s σ H vs us Q I r h
  obtain ⟨a, xs, rfl, hs, h64, q⟩ := h
  obtain ⟨its, rv, hl, _⟩ := I.list hs
  rw [Vals.ref1 r]
  have hlen0 := rv.length
  rw [List.length_map] at hlen0
  refine PyProof.Rows.sorted_strs hl.isList rv.strs (by rw [← hlen0]; exact h64) fun out ys h1 h2 h3 => ?_
  obtain ⟨ep, he'⟩ := PyProof.Rows.sortedAll_at s.heap its out
  have hlen : (ys.map V.str).length ≤ sizeLine := by rw [List.length_map, h2.length_eq]; exact small64 h64
  exact ⟨.ref _, upd H (s.heap.objs.size + 1) (.lst (ys.map V.str)), I.laid (t' := s.toks) (fun _ _ => PyProof.Rows.sortedAll_old) (Nat.le_succ _) ⟨hlen, out.toList, ep, vals_of_strs h1, he'⟩, rfl, q ys _ h2 h3 (I.hok.fresh (Nat.le_succ _))⟩
end
/-! ### list.index, flat items -/
section
variable {X : Cx}
end
/-! ### type(x) of an own instance; is, is not of a module's class -/
section
variable {X : Cx}
end
/-! ### any(xs), all(xs) of a list of bools -/
theorem iter_any {prog : Program} {w : World} {A : Around} {E : Value → Shared → Prop} {s : Shared} {l : Addr} {items : Array Value} {Q : Value → Shared → Prop} (hl : s.heap.IsList l items)
    (h : ∀ s₂ : Shared, s₂ = { s with heap := s.heap.push { cls := .type "list_iterator", data := .fields #[.ref l, .int 0 0] } } →
      (s₂.heap.IsListIter s.heap.objs.size l 0 ∧ s₂.heap.IsList l items) → l ≠ s.heap.objs.size → Q (.ref s.heap.objs.size) s₂) : wpAny (model prog w) A (pyIter (.ref l)) Q E s := by
  have hlt : l < s.heap.objs.size := by obtain ⟨_, e, _⟩ := hl; exact Heap.lt_size e
  exact wpAny_pyIter_list hl (h _ rfl ⟨⟨_, Heap.get?_push_size _ rfl, rfl, rfl⟩, hl.push _⟩ (Nat.ne_of_lt hlt))
theorem truth_bools {prog : Program} {w : World} {A : Around} {bs : List Bool} {its : List Value} (e : its = bs.map Value.bool) :
    TruthOf prog w A (fun i v => its.toArray[i]? = some v) (fun i => bs.getD i false) := fun i v s Q E hv hq => by
  have hv' : its[i]? = some v := by simpa using hv
  rw [e, List.getElem?_map] at hv'
  obtain ⟨b, hb, rfl⟩ := Option.map_eq_some_iff.mp hv'
  have hg : bs.getD i false = b := by rw [List.getD_eq_getElem?_getD, hb] <;> rfl
  have hq' : Q (bs.getD i false) s := hq
  rw [hg] at hq'
  exact wpAny_truthy_bool hq'
theorem any_range : ∀ bs : List Bool, (List.range bs.length).any (fun i => bs.getD i false) = bs.any id
  | [] => rfl
  | b :: bs => by
    rw [List.length_cons, List.range_succ_eq_map, List.any_cons, List.any_map, List.any_cons, ← any_range bs]
    all_goals rfl
section
variable {X : Cx}
def rAny (K : PySem.W.Frag) : List V → Hp → VK → Prop := fun vs H Q => ∃ (a : Addr) (bs : List Bool), vs = [V.ref a] ∧ SqL K H a (bs.map V.bl) ∧ Q (.bl (bs.any id)) H
theorem cr_any (hc : X.calm = true) : CallR X (.builtin "any") (rAny X.K) := by
  intro pins s σ H vs us Q I r h
  obtain ⟨a, bs, rfl, hs, q⟩ := h
  obtain ⟨its, rv, hl, _⟩ := I.list hs
  rw [Vals.ref1 r]
  have hb := rv.bls
  refine call_any_walk (iter_any hl.isList fun s₂ e2 st hne => ?_)
  subst e2
  refine ⟨_, _, _, _, _, _, _, rfl, Walks.list (A := X.A.in1) (I.ok.hd hc) _ a hne its.toArray, st, truth_bools hb, fun h' tk hk => ?_⟩
  refine ⟨.bl _, H, I.kept fun b o eo => hk b o (fun hmem => ?_) (Heap.get?_push_of_some _ eo), ?_, q⟩
  · rcases List.mem_cons.mp hmem with e1 | hmem
    · exact absurd (e1 ▸ Heap.lt_size eo) (Nat.lt_irrefl _)
    · cases hmem
  · show Value.bool _ = Value.bool _
    rw [← any_range, hb, List.size_toArray, List.length_map]
end
/-! ### == and != of data at any depth: none, bools, ints, texts, lists, tuples -/
mutual
inductive Dp (K : PySem.W.Frag) (H : Hp) : V → PyData → Prop
  | non : Dp K H .non .none
  | bl (b : Bool) : Dp K H (.bl b) (.bool b)
  | int (i : Int) : Dp K H (.int i) (.int i)
  | str (x : Str) : Dp K H (.str x) (.str x)
  | lst {a : Addr} {xs : List V} {ds : List PyData} : SqL K H a xs → DpAll K H xs ds → Dp K H (.ref a) (.list ds)
  | tup {a : Addr} {xs : List V} {ds : List PyData} : SqT K H a xs → DpAll K H xs ds → Dp K H (.ref a) (.tuple ds)
inductive DpAll (K : PySem.W.Frag) (H : Hp) : List V → List PyData → Prop
  | nil : DpAll K H [] []
  | cons {v : V} {vs : List V} {d : PyData} {ds : List PyData} : Dp K H v d → DpAll K H vs ds → DpAll K H (v :: vs) (d :: ds)
end
section
variable {X : Cx} {pins : List (Addr × Obj)} {σ : St} {H : Hp} {s : Shared}
mutual
theorem Dp.reads (I : Inv X pins σ H s) : ∀ (d : PyData) (v : V) (u : Value), Dp X.K H v d → RelV v u → ∃ as, Reads s.heap u d as
  | .none, _, _, h, r => by
    cases h
    cases r
    exact ⟨_, Reads.none⟩
  | .bool b, _, _, h, r => by
    cases h
    cases r
    exact ⟨_, Reads.bool b⟩
  | .int i, _, _, h, r => by
    cases h
    obtain ⟨t, rfl⟩ := r
    exact ⟨_, Reads.int i t⟩
  | .str x, _, _, h, r => by
    cases h
    obtain ⟨t, rfl⟩ := r
    exact ⟨_, Reads.str x t⟩
  | .list ds, _, _, h, r => by
    cases h with
    | lst hs ha =>
      cases r
      obtain ⟨its, rv, ⟨o, n, ho, hc, _, hd⟩, _⟩ := I.list hs
      obtain ⟨as, hr⟩ := Dp.readsAll I ds _ its ha rv
      exact ⟨_, Reads.list ho hc hd hr⟩
  | .tuple ds, _, _, h, r => by
    cases h with
    | tup hs ha =>
      cases r
      obtain ⟨its, rv, ⟨o, ho, hc, n, hd⟩, _⟩ := I.tuple hs
      obtain ⟨as, hr⟩ := Dp.readsAll I ds _ its ha rv
      exact ⟨_, Reads.tuple ho hc hd hr⟩
  | .dict _, _, _, h, _ => by cases h
theorem Dp.readsAll (I : Inv X pins σ H s) : ∀ (ds : List PyData) (vs : List V) (us : List Value), DpAll X.K H vs ds → Vals vs us → ∃ as, ReadsAll s.heap us ds as
  | [], _, _, h, r => by
    cases h
    cases r
    exact ⟨_, ReadsAll.nil⟩
  | d :: ds, _, _, h, r => by
    cases h with
    | cons h1 h2 =>
      cases r with
      | cons r1 r2 =>
        obtain ⟨as, q1⟩ := Dp.reads I d _ _ h1 r1
        obtain ⟨bs, q2⟩ := Dp.readsAll I ds _ _ h2 r2
        exact ⟨_, ReadsAll.cons q1 q2⟩
end
end
section
variable {X : Cx}
def rEqD (K : PySem.W.Frag) : R2 := fun x y H Q => ∃ d e, Dp K H x d ∧ Dp K H y e ∧ SeqAt.shaped d = true ∧ SeqAt.shaped e = true ∧ Q (.bl (PyData.eqv d e)) H
def rNeD (K : PySem.W.Frag) : R2 := fun x y H Q => ∃ d e, Dp K H x d ∧ Dp K H y e ∧ SeqAt.shaped d = true ∧ SeqAt.shaped e = true ∧ Q (.bl (!PyData.eqv d e)) H
theorem op_eqD (hu : X.A.units + 64 < cLine) : OpR X (compareOp .Eq) (rEqD X.K) := by
  intro pins s σ H x y v u Q I rx ry h
  obtain ⟨d, e, hd, he, sd, se, q⟩ := h
  obtain ⟨as, r1⟩ := Dp.reads I d x v hd rx
  obtain ⟨bs, r2⟩ := Dp.reads I e y u he ry
  exact SeqAt.compareEq_shaped r1 r2 sd se hu ⟨.bl _, H, I, rfl, q⟩
theorem op_neD (hu : X.A.units + 64 < cLine) : OpR X (compareOp .NotEq) (rNeD X.K) := by
  intro pins s σ H x y v u Q I rx ry h
  obtain ⟨d, e, hd, he, sd, se, q⟩ := h
  obtain ⟨as, r1⟩ := Dp.reads I d x v hd rx
  obtain ⟨bs, r2⟩ := Dp.reads I e y u he ry
  exact SeqAt.compareNe_shaped r1 r2 sd se hu ⟨.bl _, H, I, rfl, q⟩
end
end L2
namespace L2
open PySem PySem.Spec PyProof.Rows
abbrev CellAt (h : Heap) (c : Addr) (v : Option Value) : Prop := h.IsCell c v
def relS (scope sc : Scope) : Scope :=
  { scope with names := scope.names.map fun (n, k) => if (k == .free && sc.kind == .function && sc.names.lookup n == some .cell) then (n, .cell) else (n, k) }

def cloFrom (cells : List (Str × Addr)) : List (Str × NameKind) → List (Str × Addr) → List (Str × Addr)
  | [], acc => acc
  | (n, k) :: r, acc => if k == .free then cloFrom cells r ((n, (cells.lookup n).getD 0) :: acc) else cloFrom cells r acc

theorem closure_loop (env : Env) (f : Str × NameKind → List (Str × Addr) → Sem (ForInStep (List (Str × Addr))))
    (hf : ∀ n k c, f (n, k) c = if k == .free then (do let a ← cellOf env n; pure (.yield ((n, a) :: c))) else pure (.yield c)) :
    ∀ (names : List (Str × NameKind)) (acc : List (Str × Addr)), (∀ y ∈ names, y.2 = .free → ∃ c, env.cells.lookup y.1 = some c) → forIn names acc f = pure (cloFrom env.cells names acc)
  | [], acc, _ => by rw [List.forIn_nil]; rfl
  | (n, k) :: r, acc, h => by
    rw [List.forIn_cons, hf]
    have ih := fun acc => closure_loop env f hf r acc fun y hy => h y (List.mem_cons_of_mem _ hy)
    unfold cloFrom
    by_cases hk : (k == NameKind.free) = true
    · rw [if_pos hk, if_pos hk]
      obtain ⟨c, hc⟩ := h (n, k) List.mem_cons_self (by simpa using hk)
      have e : cellOf env n = pure c := by unfold cellOf; rw [hc]
      rw [e]
      have e2 : (env.cells.lookup n).getD 0 = c := by rw [hc]; rfl
      rw [e2]
      exact ih _
    · rw [if_neg hk, if_neg hk]
      exact ih _
theorem closure_ok {scope : Scope} {env : Env} (h : ∀ y ∈ scope.names, y.2 = .free → ∃ c, env.cells.lookup y.1 = some c) : closureFor scope env = pure (cloFrom env.cells scope.names []) := by
  simp only [closureFor]
  rw [closure_loop env _ (fun n k c => rfl) scope.names [] h]
  rfl

theorem mem_lookup {α : Type} : ∀ {l : List (Str × α)} {n : Str} {c : α}, (n, c) ∈ l → ∃ c', l.lookup n = some c'
  | (k, v) :: r, n, c, h => by
    rw [List.lookup_cons]
    cases hb : n == k with
    | true => exact ⟨_, rfl⟩
    | false =>
      rcases List.mem_cons.mp h with e | h
      · cases e; simp at hb
      · exact mem_lookup h

theorem cloFrom_mem {cells : List (Str × Addr)} : ∀ {names : List (Str × NameKind)} {acc : List (Str × Addr)} {n : Str} {c : Addr}, (n, c) ∈ cloFrom cells names acc → (n, c) ∈ acc ∨ ((n, .free) ∈ names ∧ c = (cells.lookup n).getD 0)
  | [], _, _, _, h => .inl h
  | (m, k) :: r, acc, n, c, h => by
    unfold cloFrom at h
    split at h
    · rename_i hk
      have hk : k = .free := by simpa using hk
      rcases cloFrom_mem h with h | ⟨h1, h2⟩
      · rcases List.mem_cons.mp h with e | h
        · cases e; exact .inr ⟨hk ▸ List.mem_cons_self, rfl⟩
        · exact .inl h
      · exact .inr ⟨List.mem_cons_of_mem _ h1, h2⟩
    · rcases cloFrom_mem h with h | ⟨h1, h2⟩
      · exact .inl h
      · exact .inr ⟨List.mem_cons_of_mem _ h1, h2⟩
theorem cloFrom_acc {cells : List (Str × Addr)} : ∀ {names : List (Str × NameKind)} {acc : List (Str × Addr)} {p : Str × Addr}, p ∈ acc → p ∈ cloFrom cells names acc
  | [], _, _, h => h
  | (m, k) :: r, acc, p, h => by
    unfold cloFrom
    split
    · exact cloFrom_acc (List.mem_cons_of_mem _ h)
    · exact cloFrom_acc h
theorem cloFrom_has {cells : List (Str × Addr)} : ∀ {names : List (Str × NameKind)} {acc : List (Str × Addr)} {n : Str}, (n, .free) ∈ names → (n, (cells.lookup n).getD 0) ∈ cloFrom cells names acc
  | (m, k) :: r, acc, n, h => by
    unfold cloFrom
    rcases List.mem_cons.mp h with e | h
    · cases e
      exact cloFrom_acc List.mem_cons_self
    · split
      · exact cloFrom_has h
      · exact cloFrom_has h

theorem cells_mem : ∀ {names : List (Str × NameKind)} {h : Heap} {acc : List (Str × Addr)} {x : Str} {c : Addr}, (x, c) ∈ cellsFrom h.objs.size names acc →
    (x, c) ∈ acc ∨ ((x, .cell) ∈ names ∧ h.objs.size ≤ c ∧ CellAt (pushCells h names) c none)
  | [], _, _, _, _, h => .inl h
  | (n, k) :: r, h, acc, x, c, hm => by
    unfold cellsFrom at hm
    unfold pushCells
    split at hm
    · rename_i hk
      rw [if_pos hk]
      have hk : k = .cell := by simpa using hk
      rw [← Heap.size_push h { cls := .type "cell", data := .cell none }] at hm
      rcases cells_mem hm with hm | ⟨h1, h2, h3⟩
      · rcases List.mem_cons.mp hm with e | hm
        · cases e
          exact .inr ⟨hk ▸ List.mem_cons_self, Nat.le_refl _, _, pushCells_keeps r _ _ _ (Heap.get?_push_size _ rfl), rfl⟩
        · exact .inl hm
      · rw [Heap.size_push] at h2
        exact .inr ⟨List.mem_cons_of_mem _ h1, Nat.le_of_succ_le h2, h3⟩
    · rename_i hk
      rw [if_neg hk]
      rcases cells_mem hm with hm | ⟨h1, h2, h3⟩
      · exact .inl hm
      · exact .inr ⟨List.mem_cons_of_mem _ h1, h2, h3⟩
theorem cells_acc : ∀ {names : List (Str × NameKind)} {n : Nat} {acc : List (Str × Addr)} {p : Str × Addr}, p ∈ acc → p ∈ cellsFrom n names acc
  | [], _, _, _, h => h
  | (m, k) :: r, n, acc, p, h => by
    unfold cellsFrom
    split
    · exact cells_acc (List.mem_cons_of_mem _ h)
    · exact cells_acc h
theorem cells_has : ∀ {names : List (Str × NameKind)} {n : Nat} {acc : List (Str × Addr)} {x : Str}, (x, .cell) ∈ names → ∃ c, (x, c) ∈ cellsFrom n names acc
  | (m, k) :: r, n, acc, x, h => by
    unfold cellsFrom
    rcases List.mem_cons.mp h with e | h
    · cases e
      exact ⟨n, cells_acc List.mem_cons_self⟩
    · split
      · exact cells_has h
      · exact cells_has h
theorem cells_inj : ∀ {names : List (Str × NameKind)} {h : Heap} {acc : List (Str × Addr)} {x y : Str} {c : Addr}, (∀ p ∈ acc, p.2 < h.objs.size) → (∀ x y c, (x, c) ∈ acc → (y, c) ∈ acc → x = y) →
    (x, c) ∈ cellsFrom h.objs.size names acc → (y, c) ∈ cellsFrom h.objs.size names acc → x = y
  | [], _, _, _, _, _, _, hi, h1, h2 => hi _ _ _ h1 h2
  | (n, k) :: r, h, acc, x, y, c, hl, hi, h1, h2 => by
    unfold cellsFrom at h1 h2
    split at h1
    · rename_i hk
      rw [if_pos hk] at h2
      rw [← Heap.size_push h { cls := .type "cell", data := .cell none }] at h1 h2
      refine cells_inj (h := h.push _) (fun p hp => ?_) (fun x y c a b => ?_) h1 h2
      · rw [Heap.size_push]
        rcases List.mem_cons.mp hp with rfl | hp
        · exact Nat.lt_succ_self _
        · exact Nat.lt_succ_of_lt (hl p hp)
      · rcases List.mem_cons.mp a with e | a <;> rcases List.mem_cons.mp b with e' | b
        · cases e; cases e'; rfl
        · cases e; exact absurd (hl _ b) (Nat.lt_irrefl _)
        · cases e'; exact absurd (hl _ a) (Nat.lt_irrefl _)
        · exact hi _ _ _ a b
    · rename_i hk
      rw [if_neg hk] at h2
      exact cells_inj hl hi h1 h2

theorem newEnv_comp {M : Model} {A : Around} {E : Value → Shared → Prop} {s : Shared} {scope : Scope} {globals : Addr} {closure : List (Str × Addr)} {qual : Str} {func : Option Addr} {code : Value} {around : Env} {builtins : Addr} {Q : Env → Shared → Prop}
    (h : Q (newEnv scope s.heap.objs.size globals (cellsFrom (s.heap.objs.size + 1) scope.names closure) qual func code (some around) builtins)
      { s with heap := pushCells (s.heap.push { cls := .type "dict", data := .dict #[] }) scope.names }) :
    wpAny M A (newFunctionEnv scope globals closure [] qual func code (some around) builtins) Q E s := by
  simp only [newFunctionEnv, Option.isSome_some, if_true]
  refine wpAny_bind (wpAny_alloc ?_)
  refine wpAny_bind (wpAny_layCells _ (fun n k c => rfl) scope.names closure _ _ ?_)
  rw [show ({ s with heap := s.heap.push { cls := .type "dict", data := .dict #[] } } : Shared).heap.objs.size = s.heap.objs.size + 1 from Heap.size_push ..]
  rw [List.forIn_nil]
  exact wpAny_bind (wpAny_pure (wpAny_pure h))

/-- every name of the written scope, in the scope that runs -/
theorem lookup_relS {sc : Scope} : ∀ {names : List (Str × NameKind)} {x : Str} {k : NameKind},
    (names.map fun (n, k) => if (k == NameKind.free && sc.kind == .function && sc.names.lookup n == some .cell) then (n, NameKind.cell) else (n, k)).lookup x = some k →
    ∃ k', names.lookup x = some k' ∧ (k = k' ∨ (k' = .free ∧ k = .cell))
  | [], _, _, h => by simp at h
  | (n, k₀) :: r, x, k, h => by
    have ih := @lookup_relS sc r x k
    have h' : List.lookup x ((if (k₀ == NameKind.free && sc.kind == .function && sc.names.lookup n == some .cell) = true then (n, NameKind.cell) else (n, k₀)) :: (r.map _)) = some k := h
    cases hx : x == n with
    | true =>
      simp only [List.lookup_cons, hx]
      by_cases hc : (k₀ == NameKind.free && sc.kind == .function && sc.names.lookup n == some .cell) = true
      · rw [if_pos hc] at h'
        simp only [List.lookup_cons, hx] at h'
        cases h'
        simp only [Bool.and_eq_true, beq_iff_eq] at hc
        exact ⟨k₀, rfl, .inr ⟨hc.1.1, rfl⟩⟩
      · rw [if_neg hc] at h'
        simp only [List.lookup_cons, hx] at h'
        cases h'
        exact ⟨_, rfl, .inl rfl⟩
    | false =>
      simp only [List.lookup_cons, hx]
      by_cases hc : (k₀ == NameKind.free && sc.kind == .function && sc.names.lookup n == some .cell) = true
      · rw [if_pos hc] at h'
        simp only [List.lookup_cons, hx] at h'
        exact ih h'
      · rw [if_neg hc] at h'
        simp only [List.lookup_cons, hx] at h'
        exact ih h'
/-- the names of a comprehension's block: its own (with their places in N), or captured -/
structure BlkOk (N : List Str) (sc scope : Scope) (own : List (Str × Nat)) : Prop where
  kind : scope.kind = .function
  uniq : ∀ y ∈ scope.names, scope.names.lookup y.1 = some y.2
  ix : ∀ p ∈ own, N[p.2]? = some p.1
  free : ∀ y ∈ scope.names, y.2 = .free → sc.names.lookup y.1 = some .cell ∨ sc.names.lookup y.1 = some .free
  own : ∀ y ∈ scope.names, y.2 = .local ∨ y.2 = .cell → y.1 ∈ own.map (·.1) ∨ y.1 ∉ N
/-- the slots of the block's own names forgotten -/
def wipe (σ : St) : List Nat → St
  | [] => σ
  | v :: vs => (wipe σ vs).set v none
theorem wipe_length (σ : St) : ∀ vs : List Nat, (wipe σ vs).length = σ.length
  | [] => rfl
  | v :: vs => by unfold wipe; rw [List.length_set, wipe_length σ vs]
theorem wipe_some {σ : St} {i : Nat} {x : V} : ∀ {vs : List Nat}, (wipe σ vs)[i]? = some (some x) → σ[i]? = some (some x) ∧ i ∉ vs
  | [], h => ⟨h, by simp⟩
  | v :: vs, h => by
    unfold wipe at h
    by_cases hi : v = i
    · subst hi
      by_cases hv : v < (wipe σ vs).length
      · rw [List.getElem?_set_self hv] at h; cases h
      · rw [List.getElem?_eq_none (by simpa using hv)] at h; cases h
    · rw [List.getElem?_set_ne hi] at h
      obtain ⟨h1, h2⟩ := wipe_some h
      exact ⟨h1, by simp only [List.mem_cons, not_or]; exact ⟨fun e => hi e.symm, h2⟩⟩

/-- the context of a block that starts at s, its iterator's objects at fp -/
abbrev Cx.blk (X : Cx) (s : Shared) (H : Hp) (scope : Scope) (cenv : Env) (fp : List Addr) : Cx := { X with s_0 := s, H_0 := H, env := cenv, outer := X.stack, ex := fp, fn := fun x => scope.names.lookup x == some .cell, pn := [], xe := fun _ _ => False }
section
variable {X : Cx} {pins : List (Addr × Obj)} {σ : St} {H : Hp} {s : Shared}
theorem block_start {scope : Scope} {own : List (Str × Nat)} {fp : List Addr} (I : Inv X pins σ H s) (ok : BlkOk X.N X.env.scope scope own) (hN : X.N.Nodup) (hfp : ∀ b ∈ fp, FpOk X pins H b ∧ b < s.heap.objs.size) :
    Inv (X.blk s H scope (compEnvC scope (cellsFrom (s.heap.objs.size + 1) scope.names (cloFrom X.env.cells scope.names [])) s.heap.objs.size X.env) fp) [] (wipe σ (own.map (·.2))) H { s with heap := pushCells (s.heap.push { cls := .type "dict", data := .dict #[] }) scope.names } := by
  have hfree : ∀ y ∈ scope.names, y.2 = .free → ∃ c, X.env.cells.lookup y.1 = some c := fun y hy e => by
    rcases ok.free y hy e with k | k
    · exact I.ok.has _ (.inl k)
    · exact I.ok.has _ (.inr k)
  generalize hcenv : compEnvC scope (cellsFrom (s.heap.objs.size + 1) scope.names (cloFrom X.env.cells scope.names [])) s.heap.objs.size X.env = cenv
  have kp : ∀ b o, s.heap.get? b = some o → (pushCells (s.heap.push { cls := .type "dict", data := .dict #[] }) scope.names).get? b = some o := fun b o e => pushCells_keeps _ _ _ _ (Heap.get?_push_of_some _ e)
  have hL : cenv.locals = s.heap.objs.size := by rw [← hcenv]; rfl
  have hcl : cenv.cells = cellsFrom (s.heap.objs.size + 1) scope.names (cloFrom X.env.cells scope.names []) := by rw [← hcenv]; rfl
  have hsc : cenv.scope = relS scope X.env.scope := by rw [← hcenv]; rfl
  rw [← Heap.size_push s.heap { cls := .type "dict", data := .dict #[] }] at hcl
  have cm : ∀ {y c}, (y, c) ∈ cloFrom X.env.cells scope.names [] → X.env.cells.lookup y = some c ∧ c < s.heap.objs.size := fun {y c} hm => by
    rcases cloFrom_mem hm with hm | ⟨h1, rfl⟩
    · cases hm
    · obtain ⟨c, hc⟩ := hfree _ h1 rfl
      rw [hc]
      obtain ⟨w, z⟩ := I.cell _ _ hc
      exact ⟨rfl, z.lt⟩
  have mem : ∀ {y c}, cenv.cells.lookup y = some c → (X.env.cells.lookup y = some c ∧ c < s.heap.objs.size) ∨ (s.heap.objs.size + 1 ≤ c ∧ CellAt (pushCells (s.heap.push { cls := .type "dict", data := .dict #[] }) scope.names) c none) := fun {y c} e => by
    rw [hcl] at e
    rcases cells_mem (PySem.mem_of_lookup e) with hm | ⟨_, h2, h3⟩
    · exact .inl (cm hm)
    · rw [Heap.size_push] at h2; exact .inr ⟨h2, h3⟩
  have look : ∀ {y}, scope.names.lookup y = some .free → ∃ c, cenv.cells.lookup y = some c ∧ X.env.cells.lookup y = some c := fun {y} hl => by
    have hy : (y, NameKind.free) ∈ scope.names := PySem.mem_of_lookup hl
    obtain ⟨c', e'⟩ := mem_lookup (cells_acc (names := scope.names) (n := (s.heap.push { cls := .type "dict", data := .dict #[] }).objs.size) (cloFrom_has (cells := X.env.cells) (acc := []) hy))
    rw [← hcl] at e'
    refine ⟨c', e', ?_⟩
    rw [hcl] at e'
    rcases cells_mem (PySem.mem_of_lookup e') with hm | ⟨h1, _, _⟩
    · exact (cm hm).1
    · have := ok.uniq _ h1
      rw [hl] at this; cases this
  have okB : (X.blk s H scope cenv fp).Ok := by
    refine ⟨I.ok.mod, by show cenv.scope.kind = _; rw [hsc]; exact ok.kind, by show cenv.globals = _; rw [← hcenv]; exact I.ok.glob, by show cenv.builtins = _; rw [← hcenv]; exact I.ok.blt, by show s.heap.objs.size ≤ cenv.locals; rw [hL]; exact Nat.le_refl _,
      fun y z c e1 e2 => ?_, fun y hy => ?_, fun y c z e => ?_, I.ok.hd, I.ok.frames, .inl rfl, fun b hb => ⟨?_, fun y c e z => ?_⟩, I.bs, Nat.le_trans I.ok.bsz I.sz, fun b o e hb => ?_, fun b hb z => ?_, I.stack, I.stkFree⟩
    · have e1 : cenv.cells.lookup y = some c := e1
      have e2 : cenv.cells.lookup z = some c := e2
      rw [hcl] at e1 e2
      refine cells_inj (fun p hp => ?_) (fun y z c a b => I.ok.inj y z c (cm a).1 (cm b).1) (PySem.mem_of_lookup e1) (PySem.mem_of_lookup e2)
      rw [Heap.size_push]
      exact Nat.lt_succ_of_lt (cm (y := p.1) (c := p.2) hp).2
    · show ∃ c, cenv.cells.lookup y = some c
      have key : ∀ k, cenv.kindOf y = some k → (k = .cell ∨ k = .free) → ∃ c, cenv.cells.lookup y = some c := fun k hk hk' => by
        unfold Env.kindOf at hk
        rw [hsc] at hk
        obtain ⟨k', e, r⟩ := lookup_relS hk
        have : k' = .cell ∨ k' = .free := by
          rcases r with rfl | ⟨rfl, _⟩
          · exact hk'
          · exact .inr rfl
        rcases this with rfl | rfl
        · obtain ⟨c, hm⟩ := cells_has (n := (s.heap.push { cls := .type "dict", data := .dict #[] }).objs.size) (acc := cloFrom X.env.cells scope.names []) (PySem.mem_of_lookup e)
          obtain ⟨c', e'⟩ := mem_lookup hm
          exact ⟨c', by rw [hcl]; exact e'⟩
        · obtain ⟨c, h1, _⟩ := look e
          exact ⟨c, h1⟩
      rcases hy with hy | hy
      · exact key _ hy (.inl rfl)
      · exact key _ hy (.inr rfl)
    · have z : (scope.names.lookup y == some NameKind.cell) = true := z
      have z : scope.names.lookup y = some .cell := by simpa using z
      have e : cenv.cells.lookup y = some c := e
      rw [hcl] at e
      rcases cells_mem (PySem.mem_of_lookup e) with hm | ⟨_, h2, _⟩
      · rcases cloFrom_mem hm with hm | ⟨h1, _⟩
        · cases hm
        · have q := ok.uniq _ h1
          rw [z] at q; cases q
      · rw [Heap.size_push] at h2
        exact Nat.le_of_succ_le h2
    · show b ≠ cenv.locals
      rw [hL]; exact Nat.ne_of_lt (hfp b hb).2
    · have e : cenv.cells.lookup y = some c := e
      rcases mem e with ⟨h1, _⟩ | ⟨h1, _⟩
      · exact (hfp b hb).1.2.2.2.2.1 y c h1 z
      · have h2 : s.heap.objs.size + 1 ≤ b := by rw [← z]; exact h1
        exact absurd (Nat.lt_of_lt_of_le (hfp b hb).2 (Nat.le_of_succ_le h2)) (Nat.lt_irrefl _)
    · rcases (hfp b hb).1.2.2.2.1 with z | z
      · exact I.ok.noex b o e z
      · exact absurd (Nat.lt_of_lt_of_le (Heap.lt_size e) (Nat.le_trans I.ok.bsz z)) (Nat.lt_irrefl _)
    · rcases List.mem_cons.mp (I.stkSub b z) with z | z
      · exact (hfp b hb).1.2.1 z
      · exact (hfp b hb).1.2.2.1 z
  refine ⟨okB, rfl, I.bare, Un.kept kp, ⟨fun _ => none, ?_, fun i y av e1 e2 e3 => ?_⟩, fun y c e => ?_, ?_, fun y c e => ?_, fun p hp => ?_, I.hok.kept kp, by rw [wipe_length]; exact I.len⟩
  · show Heap.Ns _ cenv.locals _
    rw [hL]
    exact Heap.Ns.keeps (Heap.Ns.new ..) fun b o e => pushCells_keeps _ _ _ _ e
  · obtain ⟨e2, hne⟩ := wipe_some e2
    have hfr : scope.names.lookup y = some .free ∧ (cenv.kindOf y = some .cell ∨ cenv.kindOf y = some .free) := by
      have key : ∀ k, cenv.scope.names.lookup y = some k → k = .local ∨ k = .cell ∨ k = .free → scope.names.lookup y = some .free ∧ (cenv.kindOf y = some .cell ∨ cenv.kindOf y = some .free) := fun k hk hk' => by
        have hk0 := hk
        rw [hsc] at hk
        obtain ⟨k', e, r⟩ := lookup_relS hk
        have no : ¬ (k' = .local ∨ k' = .cell) := fun hh => by
          rcases ok.own _ (PySem.mem_of_lookup e) hh with e' | e'
          · obtain ⟨p, hp, hpy⟩ := List.mem_map.mp e'
            have e3 := ok.ix p hp
            have : p.1 = y := hpy
            rw [this] at e3
            exact hne (List.mem_map.mpr ⟨p, hp, nodup_ix hN e3 e1⟩)
          · exact e' (List.mem_of_getElem? e1)
        rcases r with rfl | ⟨rfl, rfl⟩
        · rcases hk' with rfl | rfl | rfl
          · exact absurd (.inl rfl) no
          · exact absurd (.inr rfl) no
          · exact ⟨e, .inr hk0⟩
        · exact ⟨e, .inl hk0⟩
      have e3 : Vis cenv.scope y := e3
      rcases e3 with e3 | e3 | e3
      · exact key _ e3 (.inl rfl)
      · exact key _ e3 (.inr (.inl rfl))
      · exact key _ e3 (.inr (.inr rfl))
    obtain ⟨m, hn, hl⟩ := I.loc
    have hvis : Vis X.env.scope y := (ok.free _ (PySem.mem_of_lookup hfr.1) rfl).elim (fun k => .inr (.inl k)) (fun k => .inr (.inr k))
    obtain ⟨w, r, q⟩ := hl i y av e1 e2 hvis
    refine ⟨w, r, .inr ⟨hfr.2, ?_⟩⟩
    obtain ⟨c, h1, h2⟩ := look hfr.1
    rcases q with ⟨k, _⟩ | ⟨_, c', e', z⟩
    · have k : X.env.scope.names.lookup y = some .local := k
      rcases ok.free _ (PySem.mem_of_lookup hfr.1) rfl with k' | k' <;> rw [show X.env.scope.names.lookup y = _ from k'] at k <;> cases k
    · rw [h2] at e'; cases e'
      exact ⟨c, h1, z.keeps kp⟩
  · have e : cenv.cells.lookup y = some c := e
    rcases mem e with ⟨h1, _⟩ | ⟨_, z⟩
    · obtain ⟨w, z⟩ := I.cell y c h1
      exact ⟨w, z.keeps kp⟩
    · exact ⟨_, z⟩
  · show H cenv.locals = none
    rw [hL]; exact I.hok.fresh (Nat.le_refl _)
  · have e : cenv.cells.lookup y = some c := e
    rcases mem e with ⟨h1, _⟩ | ⟨h1, _⟩
    · exact I.freeC y c h1
    · exact I.hok.fresh (Nat.le_of_succ_le h1)
  · exact absurd (show p ∈ ([] : List (Addr × Obj)) ++ [] from hp) (by simp)

/-- an item appended to a tracked list -/
theorem app_ok {E : Value → Shared → Prop} {D : Addr} {xs : List V} {y : V} {v : Value} {Q : Value → Shared → Prop} (I : Inv X pins σ H s) (hD : H D = some (.lst xs)) (hz : xs.length < sizeLine) (r : RelV y v)
    (h : ∀ s', Inv X pins σ (upd H D (.lst (xs ++ [y]))) s' → Q .none s') : wpAny (model X.prog X.w) X.A (call (.builtin "list.append") [.ref D, v]) Q E s := by
  obtain ⟨hz', its, n, ri, e⟩ := I.hok D _ hD
  have hl := ri.length
  refine append_at (hsz := by rw [List.size_toArray]; omega) e fun h' sb ho' => ?_
  refine h { s with heap := h' } (I.write (t' := s.toks) (by rw [hD]; trivial) (.inl rfl) (fun b u hb q => (sb.2 b hb).trans q) ⟨_, ho'⟩ ⟨by rw [List.length_append]; exact hz, its ++ [v], n + 1, ri.append (.cons r .nil), ?_⟩)
  rw [ho']
  simp

/-- a clause's tests -/
def PTs (X : Cx) (ifs : List Expr) (t : TT) : Prop :=
  ∀ (pins : List (Addr × Obj)) (s : Shared) (σ : St) (H : Hp) (Q : Bool → Hp → Prop), Inv X pins σ H s → t σ H Q →
    wpAny (model X.prog X.w) X.A (forIn ifs true fun c r => if r = true then do let ok ← isTrue c X.env (eval c X.env); pure (ForInStep.yield ok) else pure (ForInStep.yield r)) (TP X pins σ Q) X.xe s
def tYes : TT := fun _ H Q => Q true H
theorem pts_nil : PTs X [] tYes := fun _ _ _ H _ I h => wpAny_tests_nil ⟨H, I, h⟩
theorem pts_one {c : Expr} {t : TT} (h : PT X c t) : PTs X [c] t := fun pins s σ H Q I hw => wpAny_tests_one (h pins s σ H Q I hw)
end
theorem thnF {α : Type} {t : Sem α} {Q Q' : α → Shared → Prop} {M : Model} {A : Around} {E : Value → Shared → Prop} {s : Shared} (h : wpAny M A t Q (fun _ _ => False) s) (hQ : ∀ a s, Q a s → Q' a s) : wpAny M A t Q' E s := wpAny_mono h hQ fun _ _ z => False.elim z

/-- the loop of a list comprehension's block, the target of any form (codeAny_compLoop_tests asks a target that no tuple goes to; statement and proof follow it, PyProof/CompMap.lean:41-61, with the step letOwnedTupleGo kept) -/
theorem compLoop_any {prog : Program} {w : World} {A : Around} {R : Result → Shared → Prop} {s : Shared} {elt target iter : Expr} {ifs : List Expr} {scope : Scope} {pos : Pos} {it acc : Value} {env : Env} (I : Nat → Shared → Prop)
    (turn : ∀ n s, I n s → wpAny (model prog w) A (pyNext it) (fun r s₁ => match r with
      | none => R (.ok .next) s₁
      | some v => wpAny (model prog w) A (letOwnedTupleGo target it v) (fun _ s₁' => wpAny (model prog w) A (assign target env v) (fun _ s₂ =>
          wpAny (model prog w) A (forIn ifs true fun c r => if r = true then do let ok ← isTrue c env (eval c env); pure (ForInStep.yield ok) else pure (ForInStep.yield r)) (fun ok s₃ =>
            if ok = true then wpAny (model prog w) A (eval elt env) (fun x s₄ =>
              wpAny (model prog w) A (call (.builtin "list.append") [acc, x]) (fun _ s₅ => ∃ m, m < n ∧ I m s₅) (notedBy (model prog w) A env fun e s' => R (.error e) s') s₄) (notedBy (model prog w) A env fun e s' => R (.error e) s') s₃
            else ∃ m, m < n ∧ I m s₃) (notedBy (model prog w) A env fun e s' => R (.error e) s') s₂) (notedBy (model prog w) A env fun e s' => R (.error e) s') s₁') (notedBy (model prog w) A env fun e s' => R (.error e) s') s₁) (notedBy (model prog w) A env fun e s' => R (.error e) s') s)
    (n : Nat) (h : I n s) :
    codeAny (model prog w) A (.compLoop (.ListComp elt [⟨target, iter, ifs, 0⟩] scope pos) 0 it acc env) R s := by
  refine codeAny_loop rfl I (fun n s hI => ?_) n h
  show wpAny _ A ((compTurn (.ListComp elt [⟨target, iter, ifs, 0⟩] scope pos) 0 it acc env).onRaise (fun x => do noteFrame x env; theTreesLotGoes x)) _ _ s
  refine wpAny_noted ?_
  rw [compTurn_list]
  refine wpAny_bind (wpAny_standAt (wpAny_bind (wpAny_mono (turn n s hI) (fun r s₁ h₁ => ?_) fun _ _ h' => h')))
  cases r with
  | none => exact wpAny_pure h₁
  | some v =>
    refine wpAny_bind (wpAny_mono h₁ (fun _ s₁' h₁' => ?_) fun _ _ h' => h')
    refine wpAny_bind (wpAny_mono h₁' (fun _ s₂ h₂ => wpAny_bind (wpAny_mono h₂ (fun ok s₃ h₃ => ?_) fun _ _ h' => h')) fun _ _ h' => h')
    cases ok with
    | false => exact wpAny_pure ⟨rfl, h₃⟩
    | true =>
      exact wpAny_bind (wpAny_bind (wpAny_mono h₃ (fun x s₄ h₄ => wpAny_bind (wpAny_mono h₄ (fun _ s₅ h₅ => wpAny_pure (wpAny_pure ⟨rfl, h₅⟩)) fun _ _ h' => h')) fun _ _ h' => h'))

section
variable {X : Cx}
/-- [elt for target in iter if ..]: D the new list; W by the turn and a measure, Nx what a turn is to reach -/
def tLc (wi : TI) (g : TG) (tt : TT) (te : TE) (vs : List Nat) : TE := fun σ H Q => wi σ H fun J H1 => ∀ D, H1 D = none → ∃ W : Nat → Nat → Hp → Prop, (∃ m, W 0 m (upd H1 D (.lst []))) ∧ ∀ i m H, W i m H →
  (J.stop i H ∧ Q (.ref D) H) ∨ (J.go i H ∧ ∃ Nx : Hp → Prop, (∀ H', Nx H' → ∃ m', m' < m ∧ W (i + 1) m' H') ∧ ∀ x H', J.yld i H x H' → g x (wipe σ vs) H' fun σ2 H2 => wipe σ2 vs = wipe σ vs ∧ tt σ2 H2 fun b H3 =>
    if b = true then te σ2 H3 fun y H4 => ∃ acc, H4 D = some (.lst acc) ∧ acc.length < sizeLine ∧ Nx (upd H4 D (.lst (acc ++ [y]))) else Nx H3)
theorem lc_core {pins : List (Addr × Obj)} {s : Shared} {σ : St} {H : Hp} {Q : VK} {elt tg iter : Expr} {ifs : List Expr} {scope : Scope} {own : List (Str × Nat)} {pos pos' : Pos} {wi : TI} {g : TG} {tt : TT} {te : TE} {use : Option (Value → Sem Unit)} {Qf : Value → Shared → Prop}
    (hc : X.calm = true) (hN : X.N.Nodup) (I : Inv X pins σ H s) (hi : PI X tg iter wi) (ok : BlkOk X.N X.env.scope scope own)
    (hg : ∀ (s : Shared) (H : Hp) (C : Addr) (cl : List (Str × Addr)) (fp : List Addr), PG (X.blk s H scope (compEnvC scope cl C X.env) fp) tg g) (ht : ∀ (s : Shared) (H : Hp) (C : Addr) (cl : List (Str × Addr)) (fp : List Addr), PTs (X.blk s H scope (compEnvC scope cl C X.env) fp) ifs tt)
    (he : ∀ (s : Shared) (H : Hp) (C : Addr) (cl : List (Str × Addr)) (fp : List Addr), PE (X.blk s H scope (compEnvC scope cl C X.env) fp) elt te) (hs : ∀ x, foldedSetIterable iter X.env x = pure x)
    (h : tLc wi g tt te (own.map (·.2)) σ H Q)
    (hRR : ∀ D C s' m H', Inv X pins σ H' s' → Q (.ref D) H' → s'.heap.Ns C m → FpOk X pins H' C → compPost (model X.prog X.w) X.A X.xe use Qf (.ref D) C (.ok .next) s') :
    wpAny (model X.prog X.w) X.A (comprehension (.ListComp elt [⟨tg, iter, ifs, 0⟩] scope pos) scope X.env pos' (newList []) false (eval iter X.env) use) Qf X.xe s := by
  have hfree : ∀ y ∈ scope.names, y.2 = .free → ∃ c, X.env.cells.lookup y.1 = some c := fun y hy e => by
    rcases ok.free y hy e with k | k
    · exact I.ok.has _ (.inl k)
    · exact I.ok.has _ (.inr k)
  refine wpAny_comprehension_free (use := use) rfl hs (closure_ok hfree) ok.kind (fun y hy e => by rw [ok.uniq y hy, e])
    (thn (hi pins s σ H _ I h) fun xv s1 hx => thn hx fun itv s2 h2 => ?_)
  obtain ⟨it, fp, tn, J, H2, e, I2, T, st2, f2, q⟩ := h2
  subst e
  refine wpAny_newObj_type (newEnv_comp ?_) (by show 0 ≤ sizeLine; decide)
  generalize hD : s2.heap.objs.size = D
  have hDn : H2 D = none := I2.hok.fresh (Nat.le_of_eq hD)
  obtain ⟨W, ⟨m0, w0⟩, turn⟩ := q D hDn
  -- the new list
  generalize hs3 : ({ s2 with heap := s2.heap.push { cls := .type "list", data := .seq ([] : List Value).toArray } } : Shared) = s3
  have I3 : Inv X pins σ (upd H2 D (.lst [])) s3 := by
    rw [← hs3]
    refine I2.laid (t' := s2.toks) (fun b o e => Heap.get?_push_of_some _ e) (Nat.le_of_eq hD) ⟨Nat.zero_le _, [], 0, .nil, ?_⟩
    rw [← hD]
    exact Heap.get?_push_size _ rfl
  have h3 : s3.heap = s2.heap.push { cls := .type "list", data := .seq ([] : List Value).toArray } := by rw [← hs3]
  have sz : ∀ b ∈ fp, b < s2.heap.objs.size := fun b hb => by
    obtain ⟨o, e, _⟩ := T.obj _ _ st2 b hb
    exact Heap.lt_size e
  have f3 : ∀ b ∈ fp, FpOk X pins (upd H2 D (.lst [])) b ∧ b < s3.heap.objs.size := fun b hb => by
    have hlt := sz b hb
    refine ⟨⟨?_, (f2 b hb).2⟩, by rw [h3, Heap.size_push]; exact Nat.lt_succ_of_lt hlt⟩
    rw [upd_ne (by rw [← hD]; exact Nat.ne_of_lt hlt)]
    exact (f2 b hb).1
  have st3 : tn 0 s3.heap := T.keep _ _ _ st2 fun b _ o e => by rw [h3]; exact Heap.get?_push_of_some _ e
  have I4 := block_start I3 ok hN f3
  have pg := hg s3 (upd H2 D (.lst [])) s3.heap.objs.size (cellsFrom (s3.heap.objs.size + 1) scope.names (cloFrom X.env.cells scope.names [])) fp
  have pt := ht s3 (upd H2 D (.lst [])) s3.heap.objs.size (cellsFrom (s3.heap.objs.size + 1) scope.names (cloFrom X.env.cells scope.names [])) fp
  have pe := he s3 (upd H2 D (.lst [])) s3.heap.objs.size (cellsFrom (s3.heap.objs.size + 1) scope.names (cloFrom X.env.cells scope.names [])) fp
  show codeAny _ _ (.compStart (.ListComp elt [⟨tg, iter, ifs, 0⟩] scope pos) 0 (.ref it) (.ref D) (compEnvC scope (cellsFrom (s3.heap.objs.size + 1) scope.names (cloFrom X.env.cells scope.names [])) s3.heap.objs.size X.env)) (compPost (model X.prog X.w) X.A X.xe use Qf (.ref D) s3.heap.objs.size) { s3 with heap := pushCells (s3.heap.push { cls := .type "dict", data := .dict #[] }) scope.names }
  have nfp : ∀ b ∈ fp, (upd H2 D (.lst [])) b = none := fun b hb => (f3 b hb).1.1
  generalize hce : compEnvC scope (cellsFrom (s3.heap.objs.size + 1) scope.names (cloFrom X.env.cells scope.names [])) s3.heap.objs.size X.env = ce at I4 pg pt pe ⊢
  have cL : ce.locals = s3.heap.objs.size := by subst hce; rfl
  generalize hH3 : upd H2 D (.lst []) = H3 at I3 I4 pg pt pe w0 nfp f3
  generalize hs4 : ({ s3 with heap := pushCells (s3.heap.push { cls := .type "dict", data := .dict #[] }) scope.names } : Shared) = s4 at I4 ⊢
  have st4 : tn 0 s4.heap := T.keep _ _ _ st3 fun b _ o e => by rw [← hs4]; exact pushCells_keeps _ _ _ _ (Heap.get?_push_of_some _ e)
  have stat : ∀ {σ' : St} {H' : Hp} {s' : Shared}, Inv (X.blk s3 H3 scope ce fp) [] σ' H' s' → (∀ b ∈ fp, H' b = none) → ∀ b ∈ fp, FpOk (X.blk s3 H3 scope ce fp) [] H' b := fun {σ' H' s'} I' hn b hb =>
    ⟨hn b hb, (I'.ok.exf b hb).1, I'.ok.exfs b hb, .inl hb, fun x c e => (I'.ok.exf b hb).2 x c e, fun p hp => absurd (show p ∈ ([] : List (Addr × Obj)) ++ [] from hp) (by simp)⟩
  have loop : codeAny (model X.prog X.w) X.A (.compLoop (.ListComp elt [⟨tg, iter, ifs, 0⟩] scope pos) 0 (.ref it) (.ref D) ce) (compPost (model X.prog X.w) X.A X.xe use Qf (.ref D) s3.heap.objs.size) s4 := by
    refine compLoop_any (fun n s' => ∃ i H', Inv (X.blk s3 H3 scope ce fp) [] (wipe σ (own.map (·.2))) H' s' ∧ tn i s'.heap ∧ (∀ b ∈ fp, H' b = none) ∧ W i n H') ?_ m0 ⟨0, H3, I4, st4, nfp, w0⟩
    rintro n s5 ⟨i, H5, I5, st5, n5, w5⟩
    rcases turn i n H5 w5 with ⟨stop, qq⟩ | ⟨go, Nx, hNx, step⟩
    · have td := T.done (X.blk s3 H3 scope ce fp) rfl rfl rfl hc i [] s5 _ H5 (fun _ _ => False) I5 (stat I5 n5) st5 stop
      refine thnF td fun r s6 ⟨hr, I6⟩ => ?_
      subst hr
      -- back in the def's context
      have I7 : Inv X pins σ H5 s6 := I3.call' (ch := fp) I6.os I6.base I6.hok I6.bare fun b hb => ⟨(f3 b hb).1.2.2.2.1, (f3 b hb).1.2.1, (f3 b hb).1.2.2.2.2.1, (f3 b hb).1.2.2.2.2.2⟩
      have nC : H5 s3.heap.objs.size = none := by
        have z : H5 ce.locals = none := I6.free
        rw [cL] at z
        exact z
      obtain ⟨m, hn, _⟩ := I6.loc
      have hn : s6.heap.Ns ce.locals m := hn
      rw [cL] at hn
      exact hRR D s3.heap.objs.size s6 m H5 I7 qq hn (I3.fpOk (Nat.le_refl _) nC)
    · have ti := T.item (X.blk s3 H3 scope ce fp) rfl rfl rfl hc i [] s5 _ H5 (fun _ _ => False) I5 (stat I5 n5) st5 go
      refine thnF ti fun r s6 ⟨u, hr, h6⟩ => ?_
      subst hr
      refine thnF h6 fun _ s7 ⟨x, H7, I7, r7, y7, st7, n7⟩ => ?_
      have I7' := I7.pinned (stat I7 n7) (T.obj _ _ st7)
      refine thnF (pg _ s7 _ H7 x u _ I7' r7 (step x H7 y7)) fun _ s8 ⟨σ8, H8, I8, hw8, q8⟩ => ?_
      refine thnF (pt _ s8 σ8 H8 _ I8 q8) fun b s9 ⟨H9, I9, q9⟩ => ?_
      -- the turn's end
      have fin : ∀ {s' : Shared} {H' : Hp}, Inv (X.blk s3 H3 scope ce fp) ([] ++ pinsAt fp s7.heap) σ8 H' s' → Nx H' → ∃ m, m < n ∧ ∃ i H', Inv (X.blk s3 H3 scope ce fp) [] (wipe σ (own.map (·.2))) H' s' ∧ tn i s'.heap ∧ (∀ b ∈ fp, H' b = none) ∧ W i m H' := fun {s' H'} I' nx => by
        obtain ⟨m', hm, w'⟩ := hNx H' nx
        have pin' : ∀ b ∈ fp, ∀ o, s7.heap.get? b = some o → s'.heap.get? b = some o ∧ H' b = none := fun b hb o e =>
          let z := I'.pin (b, o) (List.mem_append_right _ (List.mem_append_right _ (mem_pinsAt hb e)))
          ⟨z.1, z.2.1⟩
        have hl : (wipe σ (own.map (·.2))).length = σ8.length := by rw [← hw8, wipe_length]
        refine ⟨m', hm, i + 1, H', (I'.unpinned (pins := [])).weak hl (fun j v e => ?_), T.keep _ _ _ st7 fun b hb o e => (pin' b hb o e).1, fun b hb => ?_, w'⟩
        · rw [← hw8] at e
          exact (wipe_some e).1
        · obtain ⟨o, e, _⟩ := T.obj _ _ st7 b hb
          exact (pin' b hb o e).2
      cases b with
      | false =>
        simp only [Bool.false_eq_true, if_false] at q9 ⊢
        exact fin I9 q9
      | true =>
        simp only [if_true] at q9 ⊢
        refine thnF (pe _ s9 σ8 H9 _ I9 q9) fun z s10 ⟨yv, H10, I10, r10, acc, hD10, hz10, nx⟩ => ?_
        exact app_ok (X := X.blk s3 H3 scope ce fp) I10 hD10 hz10 r10 fun s11 I11 => fin I11 nx
  exact codeAny_compStart_list loop (T.self X.A 0 _ _ _ st4 loop)
/-- as a value -/
theorem pe_lc {elt tg iter : Expr} {ifs : List Expr} {scope : Scope} {own : List (Str × Nat)} {pos : Pos} {wi : TI} {g : TG} {tt : TT} {te : TE} (hc : X.calm = true) (hN : X.N.Nodup) (hi : PI X tg iter wi) (ok : BlkOk X.N X.env.scope scope own)
    (hg : ∀ (s : Shared) (H : Hp) (C : Addr) (cl : List (Str × Addr)) (fp : List Addr), PG (X.blk s H scope (compEnvC scope cl C X.env) fp) tg g) (ht : ∀ (s : Shared) (H : Hp) (C : Addr) (cl : List (Str × Addr)) (fp : List Addr), PTs (X.blk s H scope (compEnvC scope cl C X.env) fp) ifs tt)
    (he : ∀ (s : Shared) (H : Hp) (C : Addr) (cl : List (Str × Addr)) (fp : List Addr), PE (X.blk s H scope (compEnvC scope cl C X.env) fp) elt te) (hs : ∀ x, foldedSetIterable iter X.env x = pure x := by intro _; rfl) :
    PE X (.ListComp elt [⟨tg, iter, ifs, 0⟩] scope pos) (tLc wi g tt te (own.map (·.2))) := by
  intro pins s σ H Q I h
  rw [eval_ListComp]
  refine lc_core hc hN I hi ok hg ht he hs h fun D C s' m H' I' q hn f => ⟨m, hn, fun h'' sb => ?_⟩
  obtain ⟨f0, f1, f2, f3, f4, f5⟩ := f
  exact ⟨.ref D, H', I'.turned (t' := s'.toks) (fun b o hb e => (sb.2 b hb).trans e) f0 f1 f3 f4 f5, rfl, q⟩
/-- name = [..] on one line, the name a local -/
theorem ps_setLc {i : Nat} {y : Str} {py : Pos} {elt tg iter : Expr} {ifs : List Expr} {scope : Scope} {own : List (Str × Nat)} {pos spos : Pos} {wi : TI} {g : TG} {tt : TT} {te : TE} (hc : X.calm = true) (hN : X.N.Nodup) (hy : X.N[i]? = some y) (hyl : X.env.scope.names.lookup y = some .local)
    (hsw : swapsWith (.ListComp elt [⟨tg, iter, ifs, 0⟩] scope pos) (some (.Name y py)) spos.line X.env = pure true) (hi : PI X tg iter wi) (ok : BlkOk X.N X.env.scope scope own)
    (hg : ∀ (s : Shared) (H : Hp) (C : Addr) (cl : List (Str × Addr)) (fp : List Addr), PG (X.blk s H scope (compEnvC scope cl C X.env) fp) tg g) (ht : ∀ (s : Shared) (H : Hp) (C : Addr) (cl : List (Str × Addr)) (fp : List Addr), PTs (X.blk s H scope (compEnvC scope cl C X.env) fp) ifs tt)
    (he : ∀ (s : Shared) (H : Hp) (C : Addr) (cl : List (Str × Addr)) (fp : List Addr), PE (X.blk s H scope (compEnvC scope cl C X.env) fp) elt te) (hs : ∀ x, foldedSetIterable iter X.env x = pure x := by intro _; rfl) :
    PS X (.Assign [.Name y py] (.ListComp elt [⟨tg, iter, ifs, 0⟩] scope pos) spos) (tAsg (tLc wi g tt te (own.map (·.2))) (gName i)) := by
  intro pins s σ H D I h
  rw [exec_Assign_Name_used _ _ _ _ hsw]
  refine wpAny_bind (wpAny_standAt (wpAny_bind ?_))
  show wpAny _ X.A (do let _ ← comprehension (.ListComp elt [⟨tg, iter, ifs, 0⟩] scope pos) scope X.env (firstIterPos [⟨tg, iter, ifs, 0⟩] pos) (newList []) false (eval iter X.env) (some (assign (.Name y py) X.env))) _ _ s
  have h : tLc wi g tt te (own.map (·.2)) σ H (fun x H1 => gName i x σ H1 D.nx) := h
  refine wpAny_bind (thn (lc_core (Qf := fun _ s' => SP X pins D .next s') hc hN I hi ok hg ht he hs h fun L C s' m H' I' q hn f => ?_) fun _ s' hq => wpAny_pure (wpAny_pure hq))
  show wpAny _ _ (assign (.Name y py) X.env (.ref L)) _ _ _
  refine wpAny_assign_Name (store_ok2 (v := V.ref L) I' hN hy (.inl hyl) rfl (fun s2 I2 ⟨a, sb, ha⟩ => ?_) (.inr hyl))
  obtain ⟨f0, f1, f2, f3, f4, f5⟩ := f
  have haC : C ≠ a := by
    rcases ha with z | z
    · rw [z]; exact f1
    · exact fun e => f4 y a z e.symm
  refine ⟨m, hn.sameBut sb haC, fun h3 sb3 => ?_⟩
  exact ⟨_, H', I2.turned (t' := s2.toks) (fun b o hb e => (sb3.2 b hb).trans e) f0 f1 f3 f4 f5, q⟩
theorem sw_true {elt : Expr} {gs : List Comprehension} {scope : Scope} {pos py : Pos} {y : Str} {l : Nat} {env : Env} (hk : env.scope.kind = .function) (hy : env.scope.names.lookup y = some .local) (hl : (py.line == pos.line) = true)
    (ha : (scope.names.any fun (n, k) => n == y && (k == .local || k == .cell)) = false) : swapsWith (.ListComp elt gs scope pos) (some (.Name y py)) l env = pure true := by
  have ky : env.kindOf y = some .local := hy
  have hb : env.blockKind = .function := by unfold Env.blockKind; rw [hk]; rfl
  unfold swapsWith
  simp only [hb, ky, ha, Expr.pos, hl]
  rfl
end
/-! ### the forms one uses -/
/-- over a range: Pv by the turn and the heap (the new list at D within) -/
theorem lc_range {lo : Int} {n : Nat} {g : TG} {tt : TT} {te : TE} {vs : List Nat} {σ : St} {H1 : Hp} {D : Addr} {Qd : Hp → Prop} (Pv : Nat → Hp → Prop) (h0 : Pv 0 (upd H1 D (.lst [])))
    (hs : ∀ i H, i < n → Pv i H → g (.int (lo + i)) (wipe σ vs) H fun σ2 H2 => wipe σ2 vs = wipe σ vs ∧ tt σ2 H2 fun b H3 =>
      if b = true then te σ2 H3 fun y H4 => ∃ acc, H4 D = some (.lst acc) ∧ acc.length < sizeLine ∧ Pv (i + 1) (upd H4 D (.lst (acc ++ [y]))) else Pv (i + 1) H3) (hd : ∀ H, Pv n H → Qd H) :
    ∃ W : Nat → Nat → Hp → Prop, (∃ m, W 0 m (upd H1 D (.lst []))) ∧ ∀ i m H, W i m H →
      ((Itr lo n).stop i H ∧ Qd H) ∨ ((Itr lo n).go i H ∧ ∃ Nx : Hp → Prop, (∀ H', Nx H' → ∃ m', m' < m ∧ W (i + 1) m' H') ∧ ∀ x H', (Itr lo n).yld i H x H' → g x (wipe σ vs) H' fun σ2 H2 => wipe σ2 vs = wipe σ vs ∧ tt σ2 H2 fun b H3 =>
        if b = true then te σ2 H3 fun y H4 => ∃ acc, H4 D = some (.lst acc) ∧ acc.length < sizeLine ∧ Nx (upd H4 D (.lst (acc ++ [y]))) else Nx H3) := by
  refine ⟨fun i m H => m = n - i ∧ i ≤ n ∧ Pv i H, ⟨n, by simp, Nat.zero_le _, h0⟩, ?_⟩
  rintro i m H ⟨rfl, hi, p⟩
  by_cases hlt : i < n
  · refine .inr ⟨hlt, Pv (i + 1), fun H' p' => ⟨n - (i + 1), by omega, rfl, hlt, p'⟩, fun x H' y => ?_⟩
    obtain ⟨e, y⟩ := y
    subst e y
    exact hs i _ hlt p
  · have e : i = n := by omega
    subst e
    exact .inl ⟨Nat.le_refl _, hd H p⟩
/-- over a list that the block leaves as it is -/
theorem lc_list {K : PySem.W.Frag} {a : Addr} {xs : List V} {g : TG} {tt : TT} {te : TE} {vs : List Nat} {σ : St} {H1 : Hp} {D : Addr} {Qd : Hp → Prop} (Pv : Nat → Hp → Prop) (h0 : Pv 0 (upd H1 D (.lst []))) (hl : ∀ i H, i ≤ xs.length → Pv i H → SqL K H a xs)
    (hs : ∀ i x H, xs[i]? = some x → Pv i H → g x (wipe σ vs) H fun σ2 H2 => wipe σ2 vs = wipe σ vs ∧ tt σ2 H2 fun b H3 =>
      if b = true then te σ2 H3 fun y H4 => ∃ acc, H4 D = some (.lst acc) ∧ acc.length < sizeLine ∧ Pv (i + 1) (upd H4 D (.lst (acc ++ [y]))) else Pv (i + 1) H3) (hd : ∀ H, Pv xs.length H → Qd H) :
    ∃ W : Nat → Nat → Hp → Prop, (∃ m, W 0 m (upd H1 D (.lst []))) ∧ ∀ i m H, W i m H →
      ((Itl K a).stop i H ∧ Qd H) ∨ ((Itl K a).go i H ∧ ∃ Nx : Hp → Prop, (∀ H', Nx H' → ∃ m', m' < m ∧ W (i + 1) m' H') ∧ ∀ x H', (Itl K a).yld i H x H' → g x (wipe σ vs) H' fun σ2 H2 => wipe σ2 vs = wipe σ vs ∧ tt σ2 H2 fun b H3 =>
        if b = true then te σ2 H3 fun y H4 => ∃ acc, H4 D = some (.lst acc) ∧ acc.length < sizeLine ∧ Nx (upd H4 D (.lst (acc ++ [y]))) else Nx H3) := by
  refine ⟨fun i m H => m = xs.length - i ∧ i ≤ xs.length ∧ Pv i H, ⟨xs.length, by simp, Nat.zero_le _, h0⟩, ?_⟩
  rintro i m H ⟨rfl, hi, p⟩
  have q := hl i H hi p
  by_cases hlt : i < xs.length
  · refine .inr ⟨⟨xs, xs[i], q, by simp [hlt]⟩, Pv (i + 1), fun H' p' => ⟨xs.length - (i + 1), by omega, rfl, hlt, p'⟩, fun x H' y => ?_⟩
    obtain ⟨e, y⟩ := y
    subst e
    exact hs i x _ (y xs q) p
  · have e : i = xs.length := by omega
    subst e
    exact .inl ⟨⟨xs, q, Nat.le_refl _⟩, hd H p⟩
/-- over a tuple -/
theorem lc_tup {K : PySem.W.Frag} {a : Addr} {xs : List V} {g : TG} {tt : TT} {te : TE} {vs : List Nat} {σ : St} {H1 : Hp} {D : Addr} {Qd : Hp → Prop} (Pv : Nat → Hp → Prop) (h0 : Pv 0 (upd H1 D (.lst []))) (hl : ∀ i H, i ≤ xs.length → Pv i H → SqT K H a xs)
    (hs : ∀ i x H, xs[i]? = some x → Pv i H → g x (wipe σ vs) H fun σ2 H2 => wipe σ2 vs = wipe σ vs ∧ tt σ2 H2 fun b H3 =>
      if b = true then te σ2 H3 fun y H4 => ∃ acc, H4 D = some (.lst acc) ∧ acc.length < sizeLine ∧ Pv (i + 1) (upd H4 D (.lst (acc ++ [y]))) else Pv (i + 1) H3) (hd : ∀ H, Pv xs.length H → Qd H) :
    ∃ W : Nat → Nat → Hp → Prop, (∃ m, W 0 m (upd H1 D (.lst []))) ∧ ∀ i m H, W i m H →
      ((Itt K a).stop i H ∧ Qd H) ∨ ((Itt K a).go i H ∧ ∃ Nx : Hp → Prop, (∀ H', Nx H' → ∃ m', m' < m ∧ W (i + 1) m' H') ∧ ∀ x H', (Itt K a).yld i H x H' → g x (wipe σ vs) H' fun σ2 H2 => wipe σ2 vs = wipe σ vs ∧ tt σ2 H2 fun b H3 =>
        if b = true then te σ2 H3 fun y H4 => ∃ acc, H4 D = some (.lst acc) ∧ acc.length < sizeLine ∧ Nx (upd H4 D (.lst (acc ++ [y]))) else Nx H3) := by
  refine ⟨fun i m H => m = xs.length - i ∧ i ≤ xs.length ∧ Pv i H, ⟨xs.length, by simp, Nat.zero_le _, h0⟩, ?_⟩
  rintro i m H ⟨rfl, hi, p⟩
  have q := hl i H hi p
  by_cases hlt : i < xs.length
  · refine .inr ⟨⟨xs, xs[i], q, by simp [hlt]⟩, Pv (i + 1), fun H' p' => ⟨xs.length - (i + 1), by omega, rfl, hlt, p'⟩, fun x H' y => ?_⟩
    obtain ⟨e, y⟩ := y
    subst e
    exact hs i x _ (y xs q) p
  · have e : i = xs.length := by omega
    subst e
    exact .inl ⟨⟨xs, q, Nat.le_refl _⟩, hd H p⟩
def blkC (N : List Str) (sc scope : Scope) (own : List (Str × Nat)) : Bool :=
  (match scope.kind with | .function => true | _ => false) && (scope.names.all fun y => decide (scope.names.lookup y.1 = some y.2)) && (own.all fun p => decide (N[p.2]? = some p.1)) &&
    (scope.names.all fun y => match y.2 with
      | .free => (match sc.names.lookup y.1 with | some .cell => true | some .free => true | _ => false)
      | .local => decide (y.1 ∈ own.map (·.1)) || decide (y.1 ∉ N)
      | .cell => decide (y.1 ∈ own.map (·.1)) || decide (y.1 ∉ N)
      | _ => true)
theorem blkOk_by {N : List Str} {sc scope : Scope} {own : List (Str × Nat)} (h : blkC N sc scope own = true) : BlkOk N sc scope own := by
  unfold blkC at h
  simp only [Bool.and_eq_true, List.all_eq_true, decide_eq_true_eq] at h
  obtain ⟨⟨⟨h1, h2⟩, h3⟩, h4⟩ := h
  refine ⟨?_, h2, h3, fun y hy e => ?_, fun y hy e => ?_⟩
  · split at h1
    · assumption
    · cases h1
  · have q := h4 y hy
    simp only [e] at q
    split at q <;> first | exact .inl (by assumption) | exact .inr (by assumption) | cases q
  · have q := h4 y hy
    rcases e with e | e <;> (simp only [e, Bool.or_eq_true, decide_eq_true_eq] at q; exact q)
end L2
namespace L2
open PySem PySem.Spec PyProof.Rows
theorem compTurn2_out (elt t0 i0 t1 i1 : Expr) (ifs0 ifs1 : List Expr) (scope : Scope) (pos : Pos) (it acc : Value) (env : Env) :
    compTurn (.ListComp elt [⟨t0, i0, ifs0, 0⟩, ⟨t1, i1, ifs1, 0⟩] scope pos) 0 it acc env = (do
      standAt i0.pos
      match ← pyNext it with
      | none => pure (.done .next)
      | some v =>
        letOwnedTupleGo t0 it v
        assign t0 env v
        let mut ok := true
        for c in ifs0 do
          if ok then ok ← isTrue c env (eval c env)
        if ok then
          let x ← eval i1 env
          standAt i1.pos
          let x ← foldedSetIterable i1 env x
          let _ ← runOwn (.compStart (.ListComp elt [⟨t0, i0, ifs0, 0⟩, ⟨t1, i1, ifs1, 0⟩] scope pos) 1 (← holding [x] (pyIter x)) acc env) env
        again (.compLoop (.ListComp elt [⟨t0, i0, ifs0, 0⟩, ⟨t1, i1, ifs1, 0⟩] scope pos) 0 it acc env)) := by rfl
theorem compTurn2_in (elt t0 i0 t1 i1 : Expr) (ifs0 ifs1 : List Expr) (scope : Scope) (pos : Pos) (it acc : Value) (env : Env) :
    compTurn (.ListComp elt [⟨t0, i0, ifs0, 0⟩, ⟨t1, i1, ifs1, 0⟩] scope pos) 1 it acc env = (do
      standAt i1.pos
      match ← pyNext it with
      | none => pure (.done .next)
      | some v =>
        letOwnedTupleGo t1 it v
        assign t1 env v
        let mut ok := true
        for c in ifs1 do
          if ok then ok ← isTrue c env (eval c env)
        if ok then
          (do let _ ← call (.builtin "list.append") [acc, ← eval elt env])
        again (.compLoop (.ListComp elt [⟨t0, i0, ifs0, 0⟩, ⟨t1, i1, ifs1, 0⟩] scope pos) 1 it acc env)) := by rfl

section
variable {prog : Program} {w : World} {A : Around} {R : Result → Shared → Prop} {s : Shared} {elt t0 i0 t1 i1 : Expr} {ifs0 ifs1 : List Expr} {scope : Scope} {pos : Pos} {it acc : Value} {env : Env}
/-- the loop of the first clause -/
theorem compLoop2_out (hs : ∀ x, foldedSetIterable i1 env x = pure x) (I : Nat → Shared → Prop)
    (turn : ∀ n s, I n s → wpAny (model prog w) A (pyNext it) (fun r s₁ => match r with
      | none => R (.ok .next) s₁
      | some v => wpAny (model prog w) A (letOwnedTupleGo t0 it v) (fun _ s₁' => wpAny (model prog w) A (assign t0 env v) (fun _ s₂ =>
          wpAny (model prog w) A (forIn ifs0 true fun c r => if r = true then do let ok ← isTrue c env (eval c env); pure (ForInStep.yield ok) else pure (ForInStep.yield r)) (fun ok s₃ =>
            if ok = true then wpAny (model prog w) A (eval i1 env) (fun x s₄ => wpAny (model prog w) A (pyIter x) (fun it1 s₅ =>
              codeAny (model prog w) A (.compStart (.ListComp elt [⟨t0, i0, ifs0, 0⟩, ⟨t1, i1, ifs1, 0⟩] scope pos) 1 it1 acc env) (fun r s' => match r with
                | .ok _ => ∃ m, m < n ∧ I m s'
                | .error _ => False) s₅) (notedBy (model prog w) A env fun e s' => R (.error e) s') s₄) (notedBy (model prog w) A env fun e s' => R (.error e) s') s₃
            else ∃ m, m < n ∧ I m s₃) (notedBy (model prog w) A env fun e s' => R (.error e) s') s₂) (notedBy (model prog w) A env fun e s' => R (.error e) s') s₁') (notedBy (model prog w) A env fun e s' => R (.error e) s') s₁) (notedBy (model prog w) A env fun e s' => R (.error e) s') s)
    (n : Nat) (h : I n s) :
    codeAny (model prog w) A (.compLoop (.ListComp elt [⟨t0, i0, ifs0, 0⟩, ⟨t1, i1, ifs1, 0⟩] scope pos) 0 it acc env) R s := by
  refine codeAny_loop rfl I (fun n s hI => ?_) n h
  show wpAny _ A ((compTurn (.ListComp elt [⟨t0, i0, ifs0, 0⟩, ⟨t1, i1, ifs1, 0⟩] scope pos) 0 it acc env).onRaise (fun x => do noteFrame x env; theTreesLotGoes x)) _ _ s
  refine wpAny_noted ?_
  rw [compTurn2_out]
  refine wpAny_bind (wpAny_standAt (wpAny_bind (wpAny_mono (turn n s hI) (fun r s₁ h₁ => ?_) fun _ _ h' => h')))
  cases r with
  | none => exact wpAny_pure h₁
  | some v =>
    refine wpAny_bind (wpAny_mono h₁ (fun _ s₁' h₁' => ?_) fun _ _ h' => h')
    refine wpAny_bind (wpAny_mono h₁' (fun _ s₂ h₂ => wpAny_bind (wpAny_mono h₂ (fun ok s₃ h₃ => ?_) fun _ _ h' => h')) fun _ _ h' => h')
    cases ok with
    | false => exact wpAny_pure ⟨rfl, h₃⟩
    | true =>
      refine wpAny_bind (wpAny_mono h₃ (fun x s₄ h₄ => ?_) fun _ _ h' => h')
      refine wpAny_bind (wpAny_standAt (wpAny_bind (wpAny_of_eq (hs x) (wpAny_bind (wpAny_holding (wpAny_mono h₄ (fun it1 s₅ h₅ => ?_) fun _ _ h' => h'))))))
      refine wpAny_bind (wpAny_runOwn ?_)
      rw [Around.mark_none]
      refine codeAny_mono h₅ fun r s' hr => ?_
      cases r with
      | ok f =>
        first
          | exact wpAny_pure ⟨rfl, hr⟩
          | exact wpAny_bind (wpAny_pure (wpAny_pure ⟨rfl, hr⟩))
      | error e => exact hr.elim
/-- the loop of the second -/
theorem compLoop2_in (I : Nat → Shared → Prop)
    (turn : ∀ n s, I n s → wpAny (model prog w) A (pyNext it) (fun r s₁ => match r with
      | none => R (.ok .next) s₁
      | some v => wpAny (model prog w) A (letOwnedTupleGo t1 it v) (fun _ s₁' => wpAny (model prog w) A (assign t1 env v) (fun _ s₂ =>
          wpAny (model prog w) A (forIn ifs1 true fun c r => if r = true then do let ok ← isTrue c env (eval c env); pure (ForInStep.yield ok) else pure (ForInStep.yield r)) (fun ok s₃ =>
            if ok = true then wpAny (model prog w) A (eval elt env) (fun x s₄ =>
              wpAny (model prog w) A (call (.builtin "list.append") [acc, x]) (fun _ s₅ => ∃ m, m < n ∧ I m s₅) (notedBy (model prog w) A env fun e s' => R (.error e) s') s₄) (notedBy (model prog w) A env fun e s' => R (.error e) s') s₃
            else ∃ m, m < n ∧ I m s₃) (notedBy (model prog w) A env fun e s' => R (.error e) s') s₂) (notedBy (model prog w) A env fun e s' => R (.error e) s') s₁') (notedBy (model prog w) A env fun e s' => R (.error e) s') s₁) (notedBy (model prog w) A env fun e s' => R (.error e) s') s)
    (n : Nat) (h : I n s) :
    codeAny (model prog w) A (.compLoop (.ListComp elt [⟨t0, i0, ifs0, 0⟩, ⟨t1, i1, ifs1, 0⟩] scope pos) 1 it acc env) R s := by
  refine codeAny_loop rfl I (fun n s hI => ?_) n h
  show wpAny _ A ((compTurn (.ListComp elt [⟨t0, i0, ifs0, 0⟩, ⟨t1, i1, ifs1, 0⟩] scope pos) 1 it acc env).onRaise (fun x => do noteFrame x env; theTreesLotGoes x)) _ _ s
  refine wpAny_noted ?_
  rw [compTurn2_in]
  refine wpAny_bind (wpAny_standAt (wpAny_bind (wpAny_mono (turn n s hI) (fun r s₁ h₁ => ?_) fun _ _ h' => h')))
  cases r with
  | none => exact wpAny_pure h₁
  | some v =>
    refine wpAny_bind (wpAny_mono h₁ (fun _ s₁' h₁' => ?_) fun _ _ h' => h')
    refine wpAny_bind (wpAny_mono h₁' (fun _ s₂ h₂ => wpAny_bind (wpAny_mono h₂ (fun ok s₃ h₃ => ?_) fun _ _ h' => h')) fun _ _ h' => h')
    cases ok with
    | false => exact wpAny_pure ⟨rfl, h₃⟩
    | true =>
      exact wpAny_bind (wpAny_bind (wpAny_mono h₃ (fun x s₄ h₄ => wpAny_bind (wpAny_mono h₄ (fun _ s₅ h₅ => wpAny_pure (wpAny_pure ⟨rfl, h₅⟩)) fun _ _ h' => h')) fun _ _ h' => h'))
/-- the second clause's start -/
theorem compStart1_ok (h0 : codeAny (model prog w) A (.compLoop (.ListComp elt [⟨t0, i0, ifs0, 0⟩, ⟨t1, i1, ifs1, 0⟩] scope pos) 1 it acc env) R s)
    (h : wpAny (model prog w) A (pyIter it) (fun it' s' => codeAny (model prog w) A (.compLoop (.ListComp elt [⟨t0, i0, ifs0, 0⟩, ⟨t1, i1, ifs1, 0⟩] scope pos) 1 it' acc env) R s')
      (notedBy (model prog w) A env fun x s' => R (.error x) s') s) :
    codeAny (model prog w) A (.compStart (.ListComp elt [⟨t0, i0, ifs0, 0⟩, ⟨t1, i1, ifs1, 0⟩] scope pos) 1 it acc env) R s := by
  refine codeAny_of_tree ?_
  show wpAny _ _ ((compStart (.ListComp elt [⟨t0, i0, ifs0, 0⟩, ⟨t1, i1, ifs1, 0⟩] scope pos) 1 it acc env).onRaise (fun x => do noteFrame x env; standAt theWindowsPlace)) _ _ s
  refine wpAny_notedAt ?_
  unfold compStart
  show wpAny _ _ (ask >>= _) _ _ s
  refine wpAny_bind (wpAny_askSetting (wpAny_ite ?_))
  split
  · first
      | exact wpAny_bind (wpAny_pure (wpAny_pure (And.intro rfl h0)))
      | exact wpAny_pure (And.intro rfl h0)
  · first
      | exact wpAny_bind (wpAny_rule (wpAny_bind (wpAny_standAt (wpAny_bind (wpAny_mono h (fun it' s' h' => wpAny_pure (And.intro rfl h')) fun _ _ x => x)))))
      | (refine wpAny_bind (wpAny_rule ?_); show wpAny _ _ (standAt i1.pos >>= _) _ _ s; exact wpAny_bind (wpAny_standAt (wpAny_bind (wpAny_mono h (fun it' s' h' => wpAny_pure (And.intro rfl h')) fun _ _ x => x))))
end
theorem wipe_out {σ : St} {i : Nat} : ∀ {vs : List Nat}, i ∉ vs → (wipe σ vs)[i]? = σ[i]?
  | [], _ => rfl
  | v :: vs, h => by
    have h1 : v ≠ i := fun e => h (by rw [e]; exact List.mem_cons_self)
    have h2 : i ∉ vs := fun m => h (List.mem_cons_of_mem _ m)
    unfold wipe
    rw [List.getElem?_set_ne h1]
    exact wipe_out h2
section
variable {X : Cx}
/-- [elt for tg in iter if .. for tg1 in iter1 if ..]: behind the first clause's store and tests the second source's own loop, from which Nx is reached. vs: the block's names; vs1: those of the second target -/
def tLc2 (wi : TI) (g : TG) (tt : TT) (wi1 : TI) (g1 : TG) (tt1 : TT) (te : TE) (vs vs1 : List Nat) : TE := fun σ H Q => wi σ H fun J H1 => ∀ D, H1 D = none → ∃ W : Nat → Nat → Hp → Prop, (∃ m, W 0 m (upd H1 D (.lst []))) ∧ ∀ i m H, W i m H →
  (J.stop i H ∧ Q (.ref D) H) ∨ (J.go i H ∧ ∃ Nx : Hp → Prop, (∀ H', Nx H' → ∃ m', m' < m ∧ W (i + 1) m' H') ∧ ∀ x H', J.yld i H x H' → g x (wipe σ vs) H' fun σ2 H2 => wipe σ2 vs = wipe σ vs ∧ tt σ2 H2 fun b H3 =>
    if b = true then wi1 σ2 H3 fun J1 H4 => ∃ W1 : Nat → Nat → Hp → Prop, (∃ m, W1 0 m H4) ∧ ∀ j k H, W1 j k H →
      (J1.stop j H ∧ Nx H) ∨ (J1.go j H ∧ ∃ Nx1 : Hp → Prop, (∀ H', Nx1 H' → ∃ k', k' < k ∧ W1 (j + 1) k' H') ∧ ∀ x H', J1.yld j H x H' → g1 x (wipe σ2 vs1) H' fun σ3 H5 => wipe σ3 vs1 = wipe σ2 vs1 ∧ tt1 σ3 H5 fun b H6 =>
        if b = true then te σ3 H6 fun y H7 => ∃ acc, H7 D = some (.lst acc) ∧ acc.length < sizeLine ∧ Nx1 (upd H7 D (.lst (acc ++ [y]))) else Nx1 H6)
    else Nx H3)
theorem lc2_core {pins : List (Addr × Obj)} {s : Shared} {σ : St} {H : Hp} {Q : VK} {elt tg iter tg1 iter1 : Expr} {ifs ifs1 : List Expr} {scope : Scope} {own : List (Str × Nat)} {vs1 : List Nat} {pos pos' : Pos} {wi wi1 : TI} {g g1 : TG} {tt tt1 : TT} {te : TE} {use : Option (Value → Sem Unit)} {Qf : Value → Shared → Prop}
    (hc : X.calm = true) (hN : X.N.Nodup) (I : Inv X pins σ H s) (hi : PI X tg iter wi) (ok : BlkOk X.N X.env.scope scope own) (hv : ∀ i ∈ vs1, i ∈ own.map (·.2))
    (hg : ∀ (s : Shared) (H : Hp) (C : Addr) (cl : List (Str × Addr)) (fp : List Addr), PG (X.blk s H scope (compEnvC scope cl C X.env) fp) tg g) (ht : ∀ (s : Shared) (H : Hp) (C : Addr) (cl : List (Str × Addr)) (fp : List Addr), PTs (X.blk s H scope (compEnvC scope cl C X.env) fp) ifs tt)
    (he : ∀ (s : Shared) (H : Hp) (C : Addr) (cl : List (Str × Addr)) (fp : List Addr), PE (X.blk s H scope (compEnvC scope cl C X.env) fp) elt te) (hs : ∀ x, foldedSetIterable iter X.env x = pure x)
    (hi1 : ∀ (s : Shared) (H : Hp) (C : Addr) (cl : List (Str × Addr)) (fp : List Addr), PI (X.blk s H scope (compEnvC scope cl C X.env) fp) tg1 iter1 wi1)
    (hg1 : ∀ (s : Shared) (H : Hp) (C : Addr) (cl : List (Str × Addr)) (fp : List Addr), PG (X.blk s H scope (compEnvC scope cl C X.env) fp) tg1 g1)
    (ht1 : ∀ (s : Shared) (H : Hp) (C : Addr) (cl : List (Str × Addr)) (fp : List Addr), PTs (X.blk s H scope (compEnvC scope cl C X.env) fp) ifs1 tt1)
    (hs1 : ∀ env x, foldedSetIterable iter1 env x = pure x)
    (h : tLc2 wi g tt wi1 g1 tt1 te (own.map (·.2)) vs1 σ H Q)
    (hRR : ∀ D C s' m H', Inv X pins σ H' s' → Q (.ref D) H' → s'.heap.Ns C m → FpOk X pins H' C → compPost (model X.prog X.w) X.A X.xe use Qf (.ref D) C (.ok .next) s') :
    wpAny (model X.prog X.w) X.A (comprehension (.ListComp elt [⟨tg, iter, ifs, 0⟩, ⟨tg1, iter1, ifs1, 0⟩] scope pos) scope X.env pos' (newList []) false (eval iter X.env) use) Qf X.xe s := by
  have hfree : ∀ y ∈ scope.names, y.2 = .free → ∃ c, X.env.cells.lookup y.1 = some c := fun y hy e => by
    rcases ok.free y hy e with k | k
    · exact I.ok.has _ (.inl k)
    · exact I.ok.has _ (.inr k)
  refine wpAny_comprehension_free (use := use) rfl hs (closure_ok hfree) ok.kind (fun y hy e => by rw [ok.uniq y hy, e])
    (thn (hi pins s σ H _ I h) fun xv s1 hx => thn hx fun itv s2 h2 => ?_)
  obtain ⟨it, fp, tn, J, H2, e, I2, T, st2, f2, q⟩ := h2
  subst e
  refine wpAny_newObj_type (newEnv_comp ?_) (by show 0 ≤ sizeLine; decide)
  generalize hD : s2.heap.objs.size = D
  have hDn : H2 D = none := I2.hok.fresh (Nat.le_of_eq hD)
  obtain ⟨W, ⟨m0, w0⟩, turn⟩ := q D hDn
  -- the new list
  generalize hs3 : ({ s2 with heap := s2.heap.push { cls := .type "list", data := .seq ([] : List Value).toArray } } : Shared) = s3
  have I3 : Inv X pins σ (upd H2 D (.lst [])) s3 := by
    rw [← hs3]
    refine I2.laid (t' := s2.toks) (fun b o e => Heap.get?_push_of_some _ e) (Nat.le_of_eq hD) ⟨Nat.zero_le _, [], 0, .nil, ?_⟩
    rw [← hD]
    exact Heap.get?_push_size _ rfl
  have h3 : s3.heap = s2.heap.push { cls := .type "list", data := .seq ([] : List Value).toArray } := by rw [← hs3]
  have sz : ∀ b ∈ fp, b < s2.heap.objs.size := fun b hb => by
    obtain ⟨o, e, _⟩ := T.obj _ _ st2 b hb
    exact Heap.lt_size e
  have f3 : ∀ b ∈ fp, FpOk X pins (upd H2 D (.lst [])) b ∧ b < s3.heap.objs.size := fun b hb => by
    have hlt := sz b hb
    refine ⟨⟨?_, (f2 b hb).2⟩, by rw [h3, Heap.size_push]; exact Nat.lt_succ_of_lt hlt⟩
    rw [upd_ne (by rw [← hD]; exact Nat.ne_of_lt hlt)]
    exact (f2 b hb).1
  have st3 : tn 0 s3.heap := T.keep _ _ _ st2 fun b _ o e => by rw [h3]; exact Heap.get?_push_of_some _ e
  have I4 := block_start I3 ok hN f3
  have pg := hg s3 (upd H2 D (.lst [])) s3.heap.objs.size (cellsFrom (s3.heap.objs.size + 1) scope.names (cloFrom X.env.cells scope.names [])) fp
  have pt := ht s3 (upd H2 D (.lst [])) s3.heap.objs.size (cellsFrom (s3.heap.objs.size + 1) scope.names (cloFrom X.env.cells scope.names [])) fp
  have pe := he s3 (upd H2 D (.lst [])) s3.heap.objs.size (cellsFrom (s3.heap.objs.size + 1) scope.names (cloFrom X.env.cells scope.names [])) fp
  have pi1 := hi1 s3 (upd H2 D (.lst [])) s3.heap.objs.size (cellsFrom (s3.heap.objs.size + 1) scope.names (cloFrom X.env.cells scope.names [])) fp
  have pg1 := hg1 s3 (upd H2 D (.lst [])) s3.heap.objs.size (cellsFrom (s3.heap.objs.size + 1) scope.names (cloFrom X.env.cells scope.names [])) fp
  have pt1 := ht1 s3 (upd H2 D (.lst [])) s3.heap.objs.size (cellsFrom (s3.heap.objs.size + 1) scope.names (cloFrom X.env.cells scope.names [])) fp
  show codeAny _ _ (.compStart (.ListComp elt [⟨tg, iter, ifs, 0⟩, ⟨tg1, iter1, ifs1, 0⟩] scope pos) 0 (.ref it) (.ref D) (compEnvC scope (cellsFrom (s3.heap.objs.size + 1) scope.names (cloFrom X.env.cells scope.names [])) s3.heap.objs.size X.env)) (compPost (model X.prog X.w) X.A X.xe use Qf (.ref D) s3.heap.objs.size) { s3 with heap := pushCells (s3.heap.push { cls := .type "dict", data := .dict #[] }) scope.names }
  have nfp : ∀ b ∈ fp, (upd H2 D (.lst [])) b = none := fun b hb => (f3 b hb).1.1
  generalize hce : compEnvC scope (cellsFrom (s3.heap.objs.size + 1) scope.names (cloFrom X.env.cells scope.names [])) s3.heap.objs.size X.env = ce at I4 pg pt pe pi1 pg1 pt1 ⊢
  have cL : ce.locals = s3.heap.objs.size := by subst hce; rfl
  generalize hH3 : upd H2 D (.lst []) = H3 at I3 I4 pg pt pe pi1 pg1 pt1 w0 nfp f3
  generalize hs4 : ({ s3 with heap := pushCells (s3.heap.push { cls := .type "dict", data := .dict #[] }) scope.names } : Shared) = s4 at I4 ⊢
  have st4 : tn 0 s4.heap := T.keep _ _ _ st3 fun b _ o e => by rw [← hs4]; exact pushCells_keeps _ _ _ _ (Heap.get?_push_of_some _ e)
  have stat : ∀ {σ' : St} {H' : Hp} {s' : Shared}, Inv (X.blk s3 H3 scope ce fp) [] σ' H' s' → (∀ b ∈ fp, H' b = none) → ∀ b ∈ fp, FpOk (X.blk s3 H3 scope ce fp) [] H' b := fun {σ' H' s'} I' hn b hb =>
    ⟨hn b hb, (I'.ok.exf b hb).1, I'.ok.exfs b hb, .inl hb, fun x c e => (I'.ok.exf b hb).2 x c e, fun p hp => absurd (show p ∈ ([] : List (Addr × Obj)) ++ [] from hp) (by simp)⟩
  have loop : codeAny (model X.prog X.w) X.A (.compLoop (.ListComp elt [⟨tg, iter, ifs, 0⟩, ⟨tg1, iter1, ifs1, 0⟩] scope pos) 0 (.ref it) (.ref D) ce) (compPost (model X.prog X.w) X.A X.xe use Qf (.ref D) s3.heap.objs.size) s4 := by
    refine compLoop2_out (hs1 ce) (fun n s' => ∃ i H', Inv (X.blk s3 H3 scope ce fp) [] (wipe σ (own.map (·.2))) H' s' ∧ tn i s'.heap ∧ (∀ b ∈ fp, H' b = none) ∧ W i n H') ?_ m0 ⟨0, H3, I4, st4, nfp, w0⟩
    rintro n s5 ⟨i, H5, I5, st5, n5, w5⟩
    rcases turn i n H5 w5 with ⟨stop, qq⟩ | ⟨go, Nx, hNx, step⟩
    · have td := T.done (X.blk s3 H3 scope ce fp) rfl rfl rfl hc i [] s5 _ H5 (fun _ _ => False) I5 (stat I5 n5) st5 stop
      refine thnF td fun r s6 ⟨hr, I6⟩ => ?_
      subst hr
      -- back in the def's context
      have I7 : Inv X pins σ H5 s6 := I3.call' (ch := fp) I6.os I6.base I6.hok I6.bare fun b hb => ⟨(f3 b hb).1.2.2.2.1, (f3 b hb).1.2.1, (f3 b hb).1.2.2.2.2.1, (f3 b hb).1.2.2.2.2.2⟩
      have nC : H5 s3.heap.objs.size = none := by
        have z : H5 ce.locals = none := I6.free
        rw [cL] at z
        exact z
      obtain ⟨m, hn, _⟩ := I6.loc
      have hn : s6.heap.Ns ce.locals m := hn
      rw [cL] at hn
      exact hRR D s3.heap.objs.size s6 m H5 I7 qq hn (I3.fpOk (Nat.le_refl _) nC)
    · have ti := T.item (X.blk s3 H3 scope ce fp) rfl rfl rfl hc i [] s5 _ H5 (fun _ _ => False) I5 (stat I5 n5) st5 go
      refine thnF ti fun r s6 ⟨u, hr, h6⟩ => ?_
      subst hr
      refine thnF h6 fun _ s7 ⟨x, H7, I7, r7, y7, st7, n7⟩ => ?_
      have I7' := I7.pinned (stat I7 n7) (T.obj _ _ st7)
      refine thnF (pg _ s7 _ H7 x u _ I7' r7 (step x H7 y7)) fun _ s8 ⟨σ8, H8, I8, hw8, q8⟩ => ?_
      refine thnF (pt _ s8 σ8 H8 _ I8 q8) fun b s9 ⟨H9, I9, q9⟩ => ?_
      -- the turn's end, from any slots that know what the block knew at its start
      have fin : ∀ {σ9 : St} {s' : Shared} {H' : Hp}, Inv (X.blk s3 H3 scope ce fp) ([] ++ pinsAt fp s7.heap) σ9 H' s' → (wipe σ (own.map (·.2))).length = σ9.length → (∀ (j : Nat) v, (wipe σ (own.map (·.2)))[j]? = some (some v) → σ9[j]? = some (some v)) → Nx H' →
          ∃ m, m < n ∧ ∃ i H', Inv (X.blk s3 H3 scope ce fp) [] (wipe σ (own.map (·.2))) H' s' ∧ tn i s'.heap ∧ (∀ b ∈ fp, H' b = none) ∧ W i m H' := fun {σ9 s' H'} I' hl hk nx => by
        obtain ⟨m', hm, w'⟩ := hNx H' nx
        have pin' : ∀ b ∈ fp, ∀ o, s7.heap.get? b = some o → s'.heap.get? b = some o ∧ H' b = none := fun b hb o e =>
          let z := I'.pin (b, o) (List.mem_append_right _ (List.mem_append_right _ (mem_pinsAt hb e)))
          ⟨z.1, z.2.1⟩
        refine ⟨m', hm, i + 1, H', (I'.unpinned (pins := [])).weak hl hk, T.keep _ _ _ st7 fun b hb o e => (pin' b hb o e).1, fun b hb => ?_, w'⟩
        obtain ⟨o, e, _⟩ := T.obj _ _ st7 b hb
        exact (pin' b hb o e).2
      have hl8 : (wipe σ (own.map (·.2))).length = σ8.length := by rw [← hw8, wipe_length]
      have hk8 : ∀ (j : Nat) v, (wipe σ (own.map (·.2)))[j]? = some (some v) → σ8[j]? = some (some v) := fun j v e => by
        rw [← hw8] at e
        exact (wipe_some e).1
      have hk9 : ∀ (j : Nat) v, (wipe σ (own.map (·.2)))[j]? = some (some v) → (wipe σ8 vs1)[j]? = some (some v) := fun j v e => by
        rw [← hw8] at e
        obtain ⟨e1, e2⟩ := wipe_some e
        rw [wipe_out fun z => e2 (hv j z)]
        exact e1
      cases b with
      | false =>
        simp only [Bool.false_eq_true, if_false] at q9 ⊢
        exact fin I9 hl8 hk8 q9
      | true =>
        simp only [if_true] at q9 ⊢
        refine thnF (pi1 _ s9 σ8 H9 _ I9 q9) fun xv s10 hx => thnF hx fun itv s11 h11 => ?_
        obtain ⟨it1, fp1, tn1, J1, H11, e1, I11, T1, st11, f11, W1, ⟨m1, w1⟩, turn1⟩ := h11
        subst e1
        -- the inner loop
        have stat1 : ∀ {H' : Hp}, (∀ b ∈ fp1, H' b = none) → ∀ b ∈ fp1, FpOk (X.blk s3 H3 scope ce fp) ([] ++ pinsAt fp s7.heap) H' b := fun hn b hb => ⟨hn b hb, (f11 b hb).2⟩
        have loop1 : codeAny (model X.prog X.w) X.A (.compLoop (.ListComp elt [⟨tg, iter, ifs, 0⟩, ⟨tg1, iter1, ifs1, 0⟩] scope pos) 1 (.ref it1) (.ref D) ce)
            (fun r s' => match r with
              | .ok _ => ∃ m, m < n ∧ ∃ i H', Inv (X.blk s3 H3 scope ce fp) [] (wipe σ (own.map (·.2))) H' s' ∧ tn i s'.heap ∧ (∀ b ∈ fp, H' b = none) ∧ W i m H'
              | .error _ => False) s11 := by
          refine compLoop2_in (fun k s' => ∃ j H', Inv (X.blk s3 H3 scope ce fp) ([] ++ pinsAt fp s7.heap) (wipe σ8 vs1) H' s' ∧ tn1 j s'.heap ∧ (∀ b ∈ fp1, H' b = none) ∧ W1 j k H') ?_ m1 ⟨0, H11, I11.weak (wipe_length _ _) (fun j v e => (wipe_some e).1), st11, fun b hb => (f11 b hb).1, w1⟩
          rintro k s12 ⟨j, H12, I12, st12, n12, w12⟩
          rcases turn1 j k H12 w12 with ⟨stop1, nx1⟩ | ⟨go1, Nx1, hNx1, step1⟩
          · refine thnF (T1.done (X.blk s3 H3 scope ce fp) rfl rfl rfl hc j _ s12 (wipe σ8 vs1) H12 (fun _ _ => False) I12 (stat1 n12) st12 stop1) fun r s13 ⟨hr, I13⟩ => ?_
            subst hr
            exact fin I13 (hl8.trans (wipe_length σ8 vs1).symm) hk9 nx1
          · refine thnF (T1.item (X.blk s3 H3 scope ce fp) rfl rfl rfl hc j _ s12 (wipe σ8 vs1) H12 (fun _ _ => False) I12 (stat1 n12) st12 go1) fun r s13 ⟨u1, hr, h13⟩ => ?_
            subst hr
            refine thnF h13 fun _ s14 ⟨x1, H14, I14, r14, y14, st14, n14⟩ => ?_
            have I14' := I14.pinned (stat1 n14) (T1.obj _ _ st14)
            refine thnF (pg1 _ s14 (wipe σ8 vs1) H14 x1 u1 _ I14' r14 (step1 x1 H14 y14)) fun _ s15 ⟨σ15, H15, I15, hw15, q15⟩ => ?_
            refine thnF (pt1 _ s15 σ15 H15 _ I15 q15) fun b1 s16 ⟨H16, I16, q16⟩ => ?_
            have fin1 : ∀ {s' : Shared} {H' : Hp}, Inv (X.blk s3 H3 scope ce fp) (([] ++ pinsAt fp s7.heap) ++ pinsAt fp1 s14.heap) σ15 H' s' → Nx1 H' → ∃ m, m < k ∧ ∃ j H', Inv (X.blk s3 H3 scope ce fp) ([] ++ pinsAt fp s7.heap) (wipe σ8 vs1) H' s' ∧ tn1 j s'.heap ∧ (∀ b ∈ fp1, H' b = none) ∧ W1 j m H' := fun {s' H'} I' nx => by
              obtain ⟨m', hm, w'⟩ := hNx1 H' nx
              have pin' : ∀ b ∈ fp1, ∀ o, s14.heap.get? b = some o → s'.heap.get? b = some o ∧ H' b = none := fun b hb o e =>
                let z := I'.pin (b, o) (List.mem_append_right _ (List.mem_append_right _ (mem_pinsAt hb e)))
                ⟨z.1, z.2.1⟩
              refine ⟨m', hm, j + 1, H', I'.unpinned.weak (by rw [← hw15, wipe_length]) (fun j v e => by rw [← hw15] at e; exact (wipe_some e).1), T1.keep _ _ _ st14 fun b hb o e => (pin' b hb o e).1, fun b hb => ?_, w'⟩
              obtain ⟨o, e, _⟩ := T1.obj _ _ st14 b hb
              exact (pin' b hb o e).2
            cases b1 with
            | false =>
              simp only [Bool.false_eq_true, if_false] at q16 ⊢
              exact fin1 I16 q16
            | true =>
              simp only [if_true] at q16 ⊢
              refine thnF (pe _ s16 σ15 H16 _ I16 q16) fun z s17 ⟨yv, H17, I17, r17, acc, hD17, hz17, nx⟩ => ?_
              exact app_ok (X := X.blk s3 H3 scope ce fp) I17 hD17 hz17 r17 fun s18 I18 => fin1 I18 nx
        exact compStart1_ok loop1 (T1.self X.A 0 _ _ _ st11 loop1)
  exact codeAny_compStart_list loop (T.self X.A 0 _ _ _ st4 loop)
/-- as a value -/
theorem pe_lc2 {elt tg iter tg1 iter1 : Expr} {ifs ifs1 : List Expr} {scope : Scope} {own : List (Str × Nat)} {vs1 : List Nat} {pos : Pos} {wi wi1 : TI} {g g1 : TG} {tt tt1 : TT} {te : TE} (hc : X.calm = true) (hN : X.N.Nodup) (hi : PI X tg iter wi) (ok : BlkOk X.N X.env.scope scope own) (hv : ∀ i ∈ vs1, i ∈ own.map (·.2))
    (hg : ∀ (s : Shared) (H : Hp) (C : Addr) (cl : List (Str × Addr)) (fp : List Addr), PG (X.blk s H scope (compEnvC scope cl C X.env) fp) tg g) (ht : ∀ (s : Shared) (H : Hp) (C : Addr) (cl : List (Str × Addr)) (fp : List Addr), PTs (X.blk s H scope (compEnvC scope cl C X.env) fp) ifs tt)
    (hi1 : ∀ (s : Shared) (H : Hp) (C : Addr) (cl : List (Str × Addr)) (fp : List Addr), PI (X.blk s H scope (compEnvC scope cl C X.env) fp) tg1 iter1 wi1)
    (hg1 : ∀ (s : Shared) (H : Hp) (C : Addr) (cl : List (Str × Addr)) (fp : List Addr), PG (X.blk s H scope (compEnvC scope cl C X.env) fp) tg1 g1) (ht1 : ∀ (s : Shared) (H : Hp) (C : Addr) (cl : List (Str × Addr)) (fp : List Addr), PTs (X.blk s H scope (compEnvC scope cl C X.env) fp) ifs1 tt1)
    (he : ∀ (s : Shared) (H : Hp) (C : Addr) (cl : List (Str × Addr)) (fp : List Addr), PE (X.blk s H scope (compEnvC scope cl C X.env) fp) elt te) (hs : ∀ x, foldedSetIterable iter X.env x = pure x := by intro _; rfl) (hs1 : ∀ env x, foldedSetIterable iter1 env x = pure x := by intro _ _; rfl) :
    PE X (.ListComp elt [⟨tg, iter, ifs, 0⟩, ⟨tg1, iter1, ifs1, 0⟩] scope pos) (tLc2 wi g tt wi1 g1 tt1 te (own.map (·.2)) vs1) := by
  intro pins s σ H Q I h
  rw [eval_ListComp]
  refine lc2_core hc hN I hi ok hv hg ht he hs hi1 hg1 ht1 hs1 h fun D C s' m H' I' q hn f => ⟨m, hn, fun h'' sb => ?_⟩
  obtain ⟨f0, f1, f2, f3, f4, f5⟩ := f
  exact ⟨.ref D, H', I'.turned (t' := s'.toks) (fun b o hb e => (sb.2 b hb).trans e) f0 f1 f3 f4 f5, rfl, q⟩
end
end L2
namespace L2
open PySem PySem.Spec PyProof.Rows
/-! ### lists of pairs as tables -/
section
variable {κ : Type} [DecidableEq κ]
def valV (kvs : List (κ × V)) (k : κ) : Option V := (kvs.find? fun kv => decide (kv.1 = k)).map (·.2)
/-- in its place, or at the end -/
def putK (kvs : List (κ × V)) (k : κ) (v : V) : List (κ × V) :=
  if (kvs.any fun kv => decide (kv.1 = k)) = true then kvs.map (fun kv => if kv.1 = k then (kv.1, v) else kv) else kvs ++ [(k, v)]
theorem valV_pos {p : κ × V} {r : List (κ × V)} {k : κ} (e : p.1 = k) : valV (p :: r) k = some p.2 := by simp [valV, List.find?_cons, e]
theorem valV_neg {p : κ × V} {r : List (κ × V)} {k : κ} (e : ¬ p.1 = k) : valV (p :: r) k = valV r k := by simp [valV, List.find?_cons, e]
theorem valV_any (k : κ) : ∀ kvs : List (κ × V), (kvs.any fun kv => decide (kv.1 = k)) = (valV kvs k).isSome
  | [] => rfl
  | p :: r => by
    rw [List.any_cons]
    by_cases e : p.1 = k
    · simp only [valV_pos e, decide_eq_true e, Bool.true_or, Option.isSome_some]
    · rw [valV_neg e, decide_eq_false e, Bool.false_or]; exact valV_any k r
theorem length_putK (kvs : List (κ × V)) (k : κ) (v : V) : (putK kvs k v).length ≤ kvs.length + 1 := by
  unfold putK
  split
  · rw [List.length_map]; omega
  · rw [List.length_append, List.length_cons, List.length_nil]; omega
theorem putK_new {kvs : List (κ × V)} {k : κ} (v : V) (h : valV kvs k = none) : putK kvs k v = kvs ++ [(k, v)] := by
  unfold putK
  rw [valV_any, h]
  exact if_neg (by decide)

theorem RelO.isSome_eq {o : Option V} {u : Option Value} (r : RelO o u) : o.isSome = u.isSome := by
  cases o with
  | none => cases u with
    | none => rfl
    | some _ => exact (show False from r).elim
  | some _ => cases u with
    | none => exact (show False from r).elim
    | some _ => rfl
/-- raw tables of the same keys -/
theorem KV.val {kvs : List (κ × V)} {vs : List (κ × Value)} (r : KV kvs vs) (k : κ) : RelO (valV kvs k) (valueAt vs k) := by
  unfold KV at r
  induction r with
  | nil => exact True.intro
  | @cons p q ps qs h t ih =>
    obtain ⟨h1, h2⟩ := h
    by_cases e : p.1 = k
    · have e' : q.1 = k := h1.symm.trans e
      have b : valueAt (q :: qs) k = some q.2 := by simp [valueAt, List.find?_cons, e']
      rw [valV_pos e, b]; exact h2
    · have e' : ¬ q.1 = k := fun z => e (h1.trans z)
      have b : valueAt (q :: qs) k = valueAt qs k := by simp [valueAt, List.find?_cons, e']
      rw [valV_neg e, b]; exact ih
theorem KV.any {kvs : List (κ × V)} {vs : List (κ × Value)} (r : KV kvs vs) (k : κ) : (kvs.any fun kv => decide (kv.1 = k)) = vs.any fun kv => decide (kv.1 = k) := by
  unfold KV at r
  induction r with
  | nil => rfl
  | cons h t ih => rw [List.any_cons, List.any_cons, ih, h.1]
theorem KV.repl {kvs : List (κ × V)} {vs : List (κ × Value)} (r : KV kvs vs) (k : κ) {y : V} {u : Value} (ry : RelV y u) :
    KV (kvs.map fun kv => if kv.1 = k then (kv.1, y) else kv) (vs.map fun kv => if kv.1 = k then (kv.1, u) else kv) := by
  unfold KV at r ⊢
  induction r with
  | nil => exact .nil
  | @cons p q ps qs h t ih =>
    rw [List.map_cons, List.map_cons]
    refine .cons ?_ ih
    obtain ⟨h1, h2⟩ := h
    by_cases e : p.1 = k
    · rw [if_pos e, if_pos (h1.symm.trans e)]; exact ⟨h1, ry⟩
    · rw [if_neg e, if_neg (fun z => e (h1.trans z))]; exact ⟨h1, h2⟩
theorem KV.put {kvs : List (κ × V)} {vs : List (κ × Value)} (r : KV kvs vs) (k : κ) {y : V} {u : Value} (ry : RelV y u) : KV (putK kvs k y) (stored vs k u) := by
  unfold putK stored
  rw [r.any k]
  by_cases e : (vs.any fun kv => decide (kv.1 = k)) = true
  · rw [if_pos e, if_pos e]; exact r.repl k ry
  · rw [if_neg e, if_neg e]; exact Paired.snoc r ⟨rfl, ry⟩
theorem KV.length {kvs : List (κ × V)} {vs : List (κ × Value)} (r : KV kvs vs) : kvs.length = vs.length := Paired.length r
end
/-! ### a tracked dict, its keys ints and texts or tuples of these -/
theorem kV_is {P : Program} {w : World} {k : Key} {u : Value} (r : RelV (kV k) u) : (mixKind P w).is k u = true := by
  cases k with
  | inl i => obtain ⟨t, e⟩ := (show ∃ t, u = Value.int i t from r); subst e; exact mixKind_int P w i t
  | inr x => obtain ⟨t, e⟩ := (show ∃ t, u = Value.str x t from r); subst e; exact mixKind_str P w x t
theorem items_are {P : Program} {w : World} : ∀ {ks : List Key} {us : List Value}, Vals (ks.map kV) us → ItemsAre (mixKind P w) ks us
  | [], _, r => by rw [List.map_nil] at r; cases r; exact .nil
  | k :: ks, _, r => by
    rw [List.map_cons] at r
    cases r with
    | cons h t => exact .cons (kV_is h) (items_are t)

/-- raw entries of a dict with tuple keys -/
abbrev KT (H : Hp) : List (List Key × V) → List (List Key × Addr × Value) → Prop := Paired fun p q => p.1 = q.1 ∧ H q.2.1 = some (.tup (p.1.map kV)) ∧ RelV p.2 q.2.2
theorem KT.val {H : Hp} {kvs : List (List Key × V)} {xs : List (List Key × Addr × Value)} (r : KT H kvs xs) (k : List Key) : RelO (valV kvs k) ((atKey xs k).map (·.2)) := by
  induction r with
  | nil => exact True.intro
  | @cons p q ps qs h t ih =>
    obtain ⟨h1, _, h2⟩ := h
    by_cases e : p.1 = k
    · have e' : q.1 = k := h1.symm.trans e
      have b : atKey (q :: qs) k = some q.2 := by simp [atKey, List.find?_cons, e']
      rw [valV_pos e, b]; exact h2
    · have e' : ¬ q.1 = k := fun z => e (h1.trans z)
      have b : atKey (q :: qs) k = atKey qs k := by simp [atKey, List.find?_cons, e']
      rw [valV_neg e, b]; exact ih
theorem KT.repl {H : Hp} {kvs : List (List Key × V)} {xs : List (List Key × Addr × Value)} (r : KT H kvs xs) (k : List Key) {y : V} {u : Value} (ry : RelV y u) :
    KT H (kvs.map fun kv => if kv.1 = k then (kv.1, y) else kv) (xs.map (putAt k u)) := by
  induction r with
  | nil => exact .nil
  | @cons p q ps qs h t ih =>
    rw [List.map_cons, List.map_cons]
    refine .cons ?_ ih
    obtain ⟨h1, h2, h3⟩ := h
    unfold putAt
    by_cases e : p.1 = k
    · rw [if_pos e, if_pos (h1.symm.trans e)]; exact ⟨h1, h2, ry⟩
    · rw [if_neg e, if_neg (fun z => e (h1.trans z))]; exact ⟨h1, h2, h3⟩
theorem KT.put {H : Hp} {kvs : List (List Key × V)} {xs : List (List Key × Addr × Value)} (r : KT H kvs xs) (k : List Key) {b : Addr} {y : V} {u : Value} (hb : H b = some (.tup (k.map kV))) (ry : RelV y u) :
    KT H (putK kvs k y) (storedH xs k b u) := by
  have e : (kvs.any fun kv => decide (kv.1 = k)) = (atKey xs k).isSome := by
    rw [valV_any, (r.val k).isSome_eq, Option.isSome_map]
  unfold putK storedH
  rw [e]
  by_cases q : (atKey xs k).isSome = true
  · rw [if_pos q, if_pos q]; exact r.repl k ry
  · rw [if_neg q, if_neg q]; exact Paired.snoc r ⟨rfl, hb, ry⟩
theorem KT.keeps {H H' : Hp} {kvs : List (List Key × V)} {xs : List (List Key × Addr × Value)} (r : KT H kvs xs) (ht : ∀ b ys, H b = some (.tup ys) → H' b = some (.tup ys)) : KT H' kvs xs :=
  Paired.mapP r fun _ _ z => ⟨z.1, ht _ _ z.2.1, z.2.2⟩

section
variable {P : Program} {w : World} {H : Hp} {h : Heap} {a : Addr}
theorem rd_of {u : HO} (ok : HOk P w H h) (e : Rd H a u) : ObjOk P w H h a u := e.ok ok
theorem dk_rd {kvs : List (Key × V)} (ok : HOk P w H h) (e : Rd H a (.dK kvs)) : kvs.length ≤ sizeLine ∧ (a == sysModules) = false ∧ ∃ vs, KV kvs vs ∧ h.DictOf (mixKind P w) a vs :=
  show ObjOk P w H h a (.dK kvs) from rd_of ok e
theorem dk_of {kvs : List (Key × V)} (ok : HOk P w H h) (e : H a = some (.dK kvs)) : kvs.length ≤ sizeLine ∧ (a == sysModules) = false ∧ ∃ vs, KV kvs vs ∧ h.DictOf (mixKind P w) a vs := dk_rd ok (.inl e)
/-- a tracked tuple of ints and texts is a key -/
theorem key_of {ks : List Key} (ok : HOk P w H h) (e : H a = some (.tup (ks.map kV))) : (tupleKind (mixKind P w)).is h ks a := by
  obtain ⟨_, its, r, o, h1, h2, n, h3⟩ := (show ObjOk P w H h a (.tup (ks.map kV)) from ok a _ e)
  exact ⟨o, its.toArray, n, h1, h2, h3, by simpa using items_are r⟩
theorem dt_rd {kvs : List (List Key × V)} (ok : HOk P w H h) (e : Rd H a (.dT kvs)) : kvs.length ≤ sizeLine ∧ (a == sysModules) = false ∧
    ∃ xs, KT H kvs xs ∧ h.DictOfH (tupleKind (mixKind P w)) a xs := by
  obtain ⟨z, y, xs, r, o, es, ep, h1, h2, h3, h4, h5⟩ := (show ObjOk P w H h a (.dT kvs) from rd_of ok e)
  refine ⟨z, y, xs, r, o, es, ep, h1, h2, h3, h4, fun x hx => ?_, h5⟩
  have all : ∀ {l : List (List Key × V)} {m : List (List Key × Addr × Value)}, KT H l m → ∀ x ∈ m, (tupleKind (mixKind P w)).is h x.1 x.2.1 := by
    intro l m q
    induction q with
    | nil => intro x hx; exact nomatch hx
    | @cons p q ps qs hq t ih =>
      intro x hx
      rcases List.mem_cons.mp hx with e | hx
      · subst e
        exact key_of ok (by rw [← hq.1]; exact hq.2.1)
      · exact ih x hx
  exact all r x hx
theorem dt_of {kvs : List (List Key × V)} (ok : HOk P w H h) (e : H a = some (.dT kvs)) : kvs.length ≤ sizeLine ∧ (a == sysModules) = false ∧
    ∃ xs, KT H kvs xs ∧ h.DictOfH (tupleKind (mixKind P w)) a xs := dt_rd ok (.inl e)
end
/-- what the dict at a holds at the key y -/
def DGet (H : Hp) (a : Addr) (y : V) (r : Option V) : Prop :=
  (∃ kvs k, Rd H a (.dK kvs) ∧ y = kV k ∧ r = valV kvs k) ∨ ∃ kvs k b, Rd H a (.dT kvs) ∧ y = .ref b ∧ H b = some (.tup (k.map kV)) ∧ r = valV kvs k
/-- the heap behind a[y] = v -/
def DPut (H : Hp) (a : Addr) (y v : V) (H' : Hp) : Prop :=
  (∃ kvs k, H a = some (.dK kvs) ∧ y = kV k ∧ kvs.length < sizeLine ∧ H' = upd H a (.dK (putK kvs k v))) ∨
  ∃ kvs k b, H a = some (.dT kvs) ∧ y = .ref b ∧ H b = some (.tup (k.map kV)) ∧ kvs.length < sizeLine ∧ H' = upd H a (.dT (putK kvs k v))
theorem DGet.k {H : Hp} {a : Addr} {kvs : List (Key × V)} {k : Key} (e : H a = some (.dK kvs)) : DGet H a (kV k) (valV kvs k) := .inl ⟨kvs, k, .inl e, rfl, rfl⟩
theorem DPut.k {H : Hp} {a : Addr} {kvs : List (Key × V)} {k : Key} {v : V} (e : H a = some (.dK kvs)) (hl : kvs.length < sizeLine) : DPut H a (kV k) v (upd H a (.dK (putK kvs k v))) := .inl ⟨kvs, k, e, rfl, hl, rfl⟩
section
variable {X : Cx} {pins : List (Addr × Obj)} {σ : St} {H : Hp} {s : Shared} {a : Addr} {y v : V} {u r : Value} {o : Option V} {A : Around} {E : Value → Shared → Prop}
theorem Inv.big (I : Inv X pins σ H s) : sysModules < s.heap.objs.size := by
  have h : mainGlobals < s.heap.objs.size := (I.mod.glob.keeps I.bk).lt
  exact Nat.lt_trans (by decide) h

/-- d[y], there -/
theorem d_getItem {Q : Value → Shared → Prop} (hu : A.units + 1 < cLine) (I : Inv X pins σ H s) (g : DGet H a y (some v)) (ry : RelV y u) (h : ∀ w' s', Inv X pins σ H s' → RelV v w' → Q w' s') :
    wpAny (model X.prog X.w) A (getItem (.ref a) u) Q E s := by
  rcases g with ⟨kvs, k, e, ey, l⟩ | ⟨kvs, k, b, e, ey, eb, l⟩
  · subst ey
    obtain ⟨z, hd, vs, rel, dd⟩ := dk_rd I.hok e
    obtain ⟨w', hw, rw'⟩ := RelO.some_of (v := v) (o := valueAt vs k) (by rw [l]; exact rel.val k)
    exact wpAny_getItem_of (kV_is ry) dd.mapOf hw (h w' _ (I.tok _) rw')
  · subst ey
    cases (show u = Value.ref b from ry)
    obtain ⟨z, hd, xs, rel, dd⟩ := dt_rd I.hok e
    obtain ⟨w', hw, rw'⟩ := RelO.some_of (v := v) (o := (atKey xs k).map (·.2)) (by rw [l]; exact rel.val k)
    obtain ⟨p, hp, hp2⟩ := Option.map_eq_some_iff.mp hw
    refine wpAny_getItem_heap (tupleKind_room_in1 hu) (key_of I.hok eb) dd hp ?_
    rw [hp2]
    exact h w' _ (I.tok _) rw'
/-- a dict's object is replaced -/
theorem d_write {h' : Heap} {t' : Nat} {ob : HO} (I : Inv X pins σ H s) (mu : Mut (H a)) (hs : Heap.SameBut a s.heap h') (he : ∃ q, h'.get? a = some q) (new : ObjOk X.prog X.w (upd H a ob) h' a ob) :
    Inv X pins σ (upd H a ob) { s with heap := h', toks := t' } :=
  I.write (x := a) (e := a) mu (.inl rfl) (fun b q hb z => (hs.2 b hb).trans z) he new
theorem dk_new {P : Program} {w : World} {H' : Hp} {h' : Heap} {kvs : List (Key × V)} {vs : List (Key × Value)} (z : kvs.length ≤ sizeLine) (hd : (a == sysModules) = false) (rel : KV kvs vs) (dd : h'.DictOf (mixKind P w) a vs) :
    ObjOk P w H' h' a (.dK kvs) := ⟨z, hd, vs, rel, dd⟩
/-- d[y] = v -/
theorem d_setItem {H' : Hp} {Q : Unit → Shared → Prop} (hu : A.units + 1 < cLine) (I : Inv X pins σ H s) (g : DPut H a y v H') (ry : RelV y u) (rv : RelV v r) (h : ∀ s', Inv X pins σ H' s' → Q () s') :
    wpAny (model X.prog X.w) A (setItem (.ref a) u r) Q E s := by
  rcases g with ⟨kvs, k, e, ey, l, eH⟩ | ⟨kvs, k, b, e, ey, eb, l, eH⟩
  · subst ey eH
    obtain ⟨z, hd, vs, rel, dd⟩ := dk_of I.hok e
    have hz : vs.length ≤ sizeLine := by rw [← rel.length]; exact z
    have hl : (putK kvs k v).length ≤ sizeLine := by have := length_putK kvs k v; omega
    refine wpAny_setItem_pairs (hsz := hz) (kV_is ry) dd fun h' dd' hs => h _ ?_
    have he : ∃ q, h'.get? a = some q := let ⟨q, _, _, hq, _⟩ := dd'; ⟨q, hq⟩
    exact d_write I (by rw [e]; exact True.intro) hs he (dk_new hl hd (rel.put k rv) dd')
  · subst ey eH
    cases (show u = Value.ref b from ry)
    obtain ⟨z, hd, xs, rel, dd⟩ := dt_of I.hok e
    have hz : xs.length ≤ sizeLine := by rw [← Paired.length rel]; exact z
    have hl : (putK kvs k v).length ≤ sizeLine := by have := length_putK kvs k v; omega
    refine wpAny_setItem_heap (hsz := hz) (tupleKind_room_in1 hu) (key_of I.hok eb) dd fun h' dd' hs => h _ ?_
    obtain ⟨q, es, ep, hq, h2, h3, h4, _, h5⟩ := dd'
    refine d_write I (by rw [e]; exact True.intro) hs ⟨q, hq⟩ ⟨hl, hd, _, (rel.put k eb rv).keeps fun c ys ec => ?_, q, es, ep, hq, h2, h3, h4, h5⟩
    rw [upd_ne (ne_of ec e (fun z => nomatch z))]
    exact ec
end
section
variable {X : Cx} {pins : List (Addr × Obj)} {σ : St} {H : Hp} {s : Shared} {a : Addr} {kvs : List (Key × V)} {k : Key} {u : Value} {A : Around} {E : Value → Shared → Prop}
end
/-! ### readings and rules -/
/-- the element of a subscription, not a slice -/
def NoSl (i : Expr) : Prop := ∀ ov iv, subscripted i false ov iv = operate [ov, iv] (getItem ov iv)
theorem subD_of {prog : Program} {w : World} {A : Around} {E : Value → Shared → Prop} {s : Shared} {env : Env} {value slice : Expr} {pos : Pos} {T id : String} {Q : Value → Shared → Prop}
    (hl : typeLookup (.type T) "__getitem__" = pure (some (.builtin id))) (hs : NoSl slice)
    (h : wpAny (model prog w) A (eval value env) (fun o s₁ => wpAny (model prog w) A (eval slice env) (fun i s₂ => s₂.TypeIs o T ∧ wpAny (model prog w) A (getItem o i) Q E s₂) E s₁) E s) :
    wpAny (model prog w) A (eval (.Subscript value slice pos) env) Q E s := by
  refine Subscript_ (wpAny_mono h (fun o s₁ h₁ => wpAny_mono h₁ (fun i s₂ h₂ => ?_) fun _ _ x => x) fun _ _ x => x)
  obtain ⟨hT, h₂⟩ := h₂
  unfold subscriptTail
  refine wpAny_bind ?_
  rw [getitemInPython_of_ne hT.not_modules]
  refine wpAny_bind (wpAny_specialOf hT hl ?_)
  have fin : wpAny (model prog w) A (subscripted slice false o i) (fun r s₃ => wpAny (model prog w) A (letTemporaryGo value o r >>= fun _ => pure r) Q E s₃) E s₂ := by
    rw [hs o i]
    exact wpAny_operating (wpAny_mono h₂ (fun r s₃ h₃ => wpAny_bind (wpAny_letTemporaryGo (wpAny_pure h₃))) fun _ _ x => x)
  first
    | exact wpAny_pure (wpAny_bind fin)
    | exact wpAny_bind (wpAny_pure (wpAny_bind fin))
    | exact wpAny_bind fin

theorem dict_typeIs {X : Cx} {pins : List (Addr × Obj)} {σ : St} {H : Hp} {s : Shared} {a : Addr} {y : V} {o : Option V} (I : Inv X pins σ H s) (g : DGet H a y o) : s.TypeIs (.ref a) "dict" := by
  rcases g with ⟨kvs, k, e, _, _⟩ | ⟨kvs, k, b, e, _, _, _⟩
  · obtain ⟨_, _, vs, _, dd⟩ := dk_rd I.hok e
    exact dd.typeIs
  · obtain ⟨_, _, xs, _, dd⟩ := dt_rd I.hok e
    exact dd.typeIs
/-- d[y] -/
def tDGet (td ty : TE) : TE := fun σ H Q => td σ H fun x H1 => ty σ H1 fun y H2 => ∃ a v, x = .ref a ∧ DGet H2 a y (some v) ∧ Q v H2
/-- d[y] = v -/
def sDPut (td ty tv : TE) : TS := fun D σ H => tv σ H fun v H1 => td σ H1 fun x H2 => ty σ H2 fun y H3 => ∃ a H4, x = .ref a ∧ DPut H3 a y v H4 ∧ D.nx σ H4
section
variable {X : Cx} {o i e value : Expr} {pos pos' tpos : Pos} {td ty tv : TE}
theorem pe_dget (hu : X.A.units + 1 < cLine) (ho : PE X o td) (hi : PE X i ty) (hs : NoSl i) : PE X (.Subscript o i pos) (tDGet td ty) := by
  intro pins s σ H Q I h
  refine subD_of PySem.F.slot_dict_getitem.lookup hs (thn (ho pins s σ H _ I h) fun u s1 ⟨x, H1, I1, rx, q1⟩ => thn (hi pins s1 σ H1 _ I1 q1) fun iv s2 ⟨y, H2, I2, ry, a, v, ex, g, q2⟩ => ?_)
  subst ex
  obtain rfl : u = Value.ref a := rx
  exact ⟨dict_typeIs I2 g, d_getItem hu I2 g ry fun w' s3 I3 rw' => ⟨v, H2, I3, rw', q2⟩⟩
theorem ps_dput (hu : X.A.units + 1 < cLine) (ho : PE X o td) (hi : PE X i ty) (hv : PE X value tv) (hs : swapsWith value (some (.Subscript o i pos')) pos.line X.env = pure false) :
    PS X (.Assign [.Subscript o i pos'] value pos) (sDPut td ty tv) := by
  intro pins s σ H D I h
  refine wpAny_Assign_Subscript (thn (hv pins s σ H _ I h) fun r s1 ⟨v, H1, I1, rv, q1⟩ => thn (ho pins s1 σ H1 _ I1 q1) fun u s2 ⟨x, H2, I2, rx, q2⟩ => thn (hi pins s2 σ H2 _ I2 q2) fun iv s3 ⟨y, H3, I3, ry, a, H4, ex, g, q3⟩ => ?_) hs
  subst ex
  obtain rfl : u = Value.ref a := rx
  exact d_setItem hu I3 g ry rv fun s4 I4 => ⟨σ, H4, I4, q3⟩
end
/-! ### displays -/
theorem dk_empty {P : Program} {w : World} {H : Hp} (h : Heap) (hb : sysModules < h.objs.size) : ObjOk P w H (h.push { cls := .type "dict", data := .dict #[] }) h.objs.size (.dK []) :=
  ⟨Nat.zero_le _, beq_eq_false_iff_ne.mpr (Ne.symm (Nat.ne_of_lt hb)), [], .nil, Heap.DictOf.new h⟩
/-- {}, to be a dict of the kind that is wanted -/
def tDNewK : TE := fun _ H Q => ∀ p, H p = none → Q (.ref p) (upd H p (.dK []))
section
variable {X : Cx} {pos : Pos}
theorem pe_dnewK : PE X (.Dict [] [] pos) tDNewK := fun pins s σ H Q I h =>
  wpAny_Dict_empty ⟨.ref s.heap.objs.size, _, I.laid (a := s.heap.objs.size) (o := .dK []) (t' := s.toks) (fun _ _ q => Heap.get?_push_of_some _ q) (Nat.le_refl _) (dk_empty s.heap I.big), rfl, h _ (I.hok.fresh (Nat.le_refl _))⟩
end
/-- the pairs of a display, from the left -/
def tPairs : List (TE × TE) → St → Hp → (List (V × V) → Hp → Prop) → Prop
  | [], _, H, Q => Q [] H
  | (tk, tv) :: r, σ, H, Q => tk σ H fun x H1 => tv σ H1 fun y H2 => tPairs r σ H2 fun ps H3 => Q ((x, y) :: ps) H3
abbrev VV : List (V × V) → List (Value × Value) → Prop := Paired fun p q => RelV p.1 q.1 ∧ RelV p.2 q.2
def PPs (X : Cx) (pos : Pos) (keys : List (Option Expr)) (values : List Expr) (trs : List (TE × TE)) : Prop :=
  ∀ (pins : List (Addr × Obj)) (s : Shared) (σ : St) (H : Hp) (Q : List (V × V) → Hp → Prop), Inv X pins σ H s → tPairs trs σ H Q →
    wpAny (model X.prog X.w) X.A (evalPairs (pairTrees keys values X.env pos)) (fun vs s' => ∃ ps H', Inv X pins σ H' s' ∧ VV ps vs ∧ Q ps H') X.xe s
/-! ### methods -/
section
variable {X : Cx} {pins : List (Addr × Obj)} {σ : St} {H : Hp} {s : Shared} {a : Addr} {y d : V} {u r : Value} {o : Option V} {A : Around} {E : Value → Shared → Prop}
end
section
variable {X : Cx} {o e f : Expr} {apos cpos : Pos} {td ty tx : TE}
end
/-! ### dict(d): a copy -/
section
variable {X : Cx} {pins : List (Addr × Obj)} {σ : St} {H : Hp} {s : Shared} {a : Addr} {kvs : List (Key × V)} {A : Around} {E : Value → Shared → Prop}
end
section
variable {X : Cx} {pins : List (Addr × Obj)} {σ : St} {H : Hp} {s : Shared} {a : Addr} {y : V} {u : Value} {A : Around} {E : Value → Shared → Prop}
end
end L2
namespace L2
open PySem PySem.Spec PyProof.Rows
section
variable {prog : Program} {w : World} {A : Around} {E : Value → Shared → Prop}
end
section
variable {X : Cx}
end
end L2
namespace L2
open PySem PySem.Spec PyProof.Rows
section
variable {X : Cx} {pins : List (Addr × Obj)} {σ : St} {H : Hp} {s : Shared} {h' : Heap}
/-- several records of ours have turned -/
theorem Inv.turnedL {t' : Nat} {ch : List Addr} (I : Inv X pins σ H s) (k : ∀ b o, b ∉ ch → s.heap.get? b = some o → h'.get? b = some o) (hf : ∀ b ∈ ch, FpOk X pins H b) : Inv X pins σ H { s with heap := h', toks := t' } := by
  have nit : ∀ b u, H b = some u → b ∉ ch := fun b u e z => by
    have q := (hf b z).1
    rw [q] at e; cases e
  refine I.step (g' := s.gens) (d' := s.drawn) (ch := ch) (fun b hb => ⟨(hf b hb).2.2.2.1, (hf b hb).2.1, (hf b hb).2.2.2.2.1, (hf b hb).2.2.2.2.2⟩) (fun b o _ _ hc e _ => k b o hc e) (fun b o _ _ hc e _ => ⟨o.slots, k b o hc e⟩)
    (fun _ _ _ _ n => n) (fun b o hc e => ⟨o, k b o hc e⟩) (fun _ _ e => e) (fun _ _ _ e => e) (fun b ps e => ⟨#[], by rw [e]; simp⟩) (fun m hm => ?_) (fun b u e => ?_) I.bare
  · obtain ⟨o, es, ep, ho, r⟩ := hm
    exact ⟨o, es, ep, k _ o (fun z => (hf _ z).2.1 rfl) ho, r⟩
  · refine (I.hok b u e).stay (fun c v hc q => k c v ?_ q) (fun _ q => q) fun _ _ q => q
    rcases hc with z | z
    · rw [z]; exact nit b u e
    · exact nit c _ z
/-- .. and one new object is laid -/
theorem Inv.turnedNew {t' : Nat} {ch : List Addr} {T : Addr} {ob : HO} (I : Inv X pins σ H s) (k : ∀ b o, b ∉ ch → s.heap.get? b = some o → h'.get? b = some o) (hf : ∀ b ∈ ch, FpOk X pins H b) (hT : s.heap.objs.size ≤ T)
    (new : ObjOk X.prog X.w (upd H T ob) h' T ob) : Inv X pins σ (upd H T ob) { s with heap := h', toks := t' } := by
  have hn : H T = none := I.hok.fresh hT
  have nit : ∀ b u, H b = some u → b ∉ ch := fun b u e z => by
    have q := (hf b z).1
    rw [q] at e; cases e
  refine I.step (g' := s.gens) (d' := s.drawn) (ch := ch) (fun b hb => ⟨(hf b hb).2.2.2.1, (hf b hb).2.1, (hf b hb).2.2.2.2.1, (hf b hb).2.2.2.2.2⟩) (fun b o _ _ hc e _ => k b o hc e) (fun b o _ _ hc e _ => ⟨o.slots, k b o hc e⟩)
    (fun b o _ e n => ?_) (fun b o hc e => ⟨o, k b o hc e⟩) (fun b xs e => ?_) (fun b o u e => ?_) (fun b ps e => ⟨#[], ?_⟩) (fun m hm => ?_) (fun b u e => ?_) I.bare
  · rw [upd_ne (Nat.ne_of_lt (Nat.lt_of_lt_of_le (Heap.lt_size e) hT))]; exact n
  · rw [upd_ne (ne_of_none e hn)]; exact e
  · rw [upd_ne (ne_of_none e hn)]; exact e
  · rw [upd_ne (ne_of_none e hn), e]; simp
  · obtain ⟨o, es, ep, ho, r⟩ := hm
    exact ⟨o, es, ep, k _ o (fun z => (hf _ z).2.1 rfl) ho, r⟩
  · by_cases hb : b = T
    · subst hb
      rw [upd_same] at e
      cases e
      exact new
    · rw [upd_ne hb] at e
      refine (I.hok b u e).stay (fun c v hc q => k c v ?_ q) (fun c q => by rw [upd_ne (ne_of_none q hn)]; exact q) fun c xs q => by rw [upd_ne (ne_of_none q hn)]; exact q
      rcases hc with z | z
      · rw [z]; exact nit b u e
      · exact nit c _ z

/-! ### locking a thing while a statement runs -/
end
section
variable {X : Cx}
/-! ### one iterator just laid -/
end
/-! ### range with a step -/
section
variable {X : Cx} {tg : Expr}
end
/-! ### reversed(list) -/
section
variable {X : Cx} {tg : Expr}
end
/-! ### a str -/
/-! ### a dict's keys: any dict's entries -/
section
variable {prog : Program} {w : World} {A : Around} {E : Value → Shared → Prop} {s : Shared}
end
/-! ### a locked dict -/
theorem relV_key {k : Key} {u : Value} (h : keyIs k u = true) : RelV (kV k) u := by
  rcases keyIs_shape h with ⟨i, t, rfl, rfl⟩ | ⟨x, t, rfl, rfl⟩
  · exact ⟨t, rfl⟩
  · exact ⟨t, rfl⟩
section
variable {X : Cx} {pins : List (Addr × Obj)} {σ : St} {H : Hp} {s : Shared} {d : Addr} {o : Obj}
end
section
variable {P : Program} {w : World} {K : PySem.W.Frag} {tg : Expr} {d : Addr} {o : Obj} {es : Array DictEntry} {ep : Nat}
end
/-! ### for k in d, d.keys(), d.values(), d.items() -/
section
variable {X : Cx} {tg e : Expr} {td : TE} {apos cpos : Pos}
end
/-! ### enumerate(list) -/
/-- the list at a as it stands at each turn, each item in a new pair -/
def Ite (K : PySem.W.Frag) (a : Addr) : It :=
  ⟨fun i H => ∃ (xs : List V) (x : V), SqL K H a xs ∧ xs[i]? = some x, fun i H v H' => ∃ T x, v = .ref T ∧ H T = none ∧ H' = upd H T (.tup [.int (i : Nat), x]) ∧ ∀ xs, SqL K H a xs → xs[i]? = some x, fun i H => ∃ xs : List V, SqL K H a xs ∧ xs.length ≤ i⟩
theorem turn_enum {P : Program} {w : World} {K : PySem.W.Frag} {elts : List Expr} {kk : Nat} {tpos : Pos} (a e it : Addr) :
    Turn P w K (.Tuple elts kk tpos) (Ite K a) [e, it] e (fun i h => (∃ old, IsEnum h e it ((i : Nat) : Int) old) ∧ h.IsListIter it a i ∧ e ≠ it) where
  mem := by simp
  obj := fun i h st b hb => by
    obtain ⟨⟨old, he⟩, ⟨o, ho, hc, hd⟩, _⟩ := st
    have e' : b = e ∨ b = it := by simpa using hb
    rcases e' with z | z
    · rw [z]; exact ⟨_, he, fun v q => nomatch q⟩
    · rw [z]; exact ⟨o, ho, fun v q => by rw [hd] at q; cases q⟩
  keep := fun i h h' st k => let ⟨⟨old, he⟩, hi, hne⟩ := st; ⟨⟨old, k e (by simp) _ he⟩, hi.at fun o q => k it (by simp) o q, hne⟩
  item := by
    intro X hP hw hK hc i pins s σ H E I hf st hg
    subst hP hw hK
    obtain ⟨⟨old, he⟩, hit, hne⟩ := st
    obtain ⟨xs, x, hq, hx⟩ := hg
    obtain ⟨its, rv, p, hz⟩ := I.list hq
    obtain ⟨u, hu, ru⟩ := rv.get hx
    have hel : e < s.heap.objs.size := Heap.lt_size he
    have hil : it < s.heap.objs.size := by obtain ⟨_, q, _⟩ := hit; exact Heap.lt_size q
    refine wpAny_pyNext_enum_item he hit p.isList (x := u) (by simpa using hu) hne fun h' ho hit' hT hsz hk => ?_
    refine ⟨_, rfl, wpAny_letOwnedTupleGo_enum (s := { s with heap := h', toks := s.toks + 1 }) ho fun h'' he' sb => ?_⟩
    have hT2 : h''.get? s.heap.objs.size = some { cls := .type "tuple", data := .seq #[.int i s.toks, u] } := (sb.2 _ (Nat.ne_of_gt hel)).trans hT
    have new : ObjOk X.prog X.w (upd H s.heap.objs.size (.tup [.int (i : Nat), x])) h'' s.heap.objs.size (.tup [.int (i : Nat), x]) :=
      ⟨by show 2 ≤ sizeLine; decide, [.int i s.toks, u], .cons ⟨_, rfl⟩ (.cons ru .nil), ⟨_, hT2, rfl, _, rfl⟩⟩
    have I1 : Inv X pins σ (upd H s.heap.objs.size (.tup [.int (i : Nat), x])) { s with heap := h'', toks := s.toks + 1 } :=
      I.turnedNew (ch := [e, it]) (fun b ob hb q => (sb.2 b (fun z => hb (by simp [z]))).trans (hk b ob (fun z => hb (by simp [z])) (fun z => hb (by simp [z])) q)) hf (Nat.le_refl _) new
    refine ⟨.ref s.heap.objs.size, _, I1, rfl, ⟨_, x, rfl, I.hok.fresh (Nat.le_refl _), rfl, fun ys hy => by rw [I.list_inj hy hq]; exact hx⟩, ⟨⟨u, ?_⟩, hit'.at fun o q => (sb.2 it (Ne.symm hne)).trans q, hne⟩, fun b hb => ?_⟩
    · have e1 : ((i + 1 : Nat) : Int) = (i : Int) + 1 := by omega
      rw [e1]; exact he'
    · have hb' : b < s.heap.objs.size := by
        have e' : b = e ∨ b = it := by simpa using hb
        rcases e' with z | z
        · rw [z]; exact hel
        · rw [z]; exact hil
      rw [upd_ne (Nat.ne_of_lt hb')]
      exact (hf b hb).1
  done := by
    intro X hP hw hK hc i pins s σ H E I hf st hg
    subst hP hw hK
    obtain ⟨⟨old, he⟩, hit, hne⟩ := st
    obtain ⟨xs, hq, hx⟩ := hg
    obtain ⟨its, rv, p, hz⟩ := I.list hq
    obtain ⟨f0, f1, f2, f3, f4, f5⟩ := hf it (by simp)
    have hl := rv.length
    exact wpAny_pyNext_enum_end (I.ok.hd hc) he hit p.isList (by simp; omega) fun h' eb => ⟨rfl, I.turned (t' := s.toks) (fun b o hb q => eb b o hb q) f0 f1 f3 f4 f5⟩
  self := fun A i s Q E st h => let ⟨⟨_, he⟩, _⟩ := st; wpAny_pyIter_enum he h
def iEnum (K : PySem.W.Frag) (ta : TA) : TI := fun σ H R => ta σ H fun vs H1 => ∃ a xs, vs = [.ref a] ∧ SqL K H1 a xs ∧ R (Ite K a) H1
theorem pi_enum {X : Cx} {e : Expr} {ta : TA} {p pos tpos : Pos} {elts : List Expr} {kk : Nat} (hg : Gl X "enumerate") (hm : X.mg "enumerate" = none) (ha : PA X [e] ta) (hs : starEach [e] X.env = [(false, eval e X.env)] := by rfl) :
    PI X (.Tuple elts kk tpos) (.Call (.Name "enumerate" p) [e] [] pos) (iEnum X.K ta) := by
  intro pins s σ H R I h
  refine Call_ (ld_blt I hg hm boot_enumerate (PyProof.Rows.callWith_type1 (thn (ha pos pins s σ H _ I h) fun us s1 ⟨vs, H1, I1, r1, q1⟩ => ?_) hs rfl))
  obtain ⟨a, xs, ex, hq, q⟩ := q1
  subst ex
  cases r1 with
  | cons r rr =>
    cases rr
    cases r
    obtain ⟨its, rv, p', hz⟩ := I1.list hq
    refine call_enumerate_list p'.isList fun h' he hit hsz hk => wpAny_pyIter_enum he ?_
    have I2 : Inv X pins σ H1 { s1 with heap := h' } := I1.kept (t' := s1.toks) hk
    refine ⟨s1.heap.objs.size + 1, [s1.heap.objs.size + 1, s1.heap.objs.size], _, _, H1, rfl, I2, turn_enum a (s1.heap.objs.size + 1) s1.heap.objs.size, ⟨⟨.none, he⟩, hit, Nat.succ_ne_self _⟩, fun b hb => ?_, q⟩
    have e' : b = s1.heap.objs.size + 1 ∨ b = s1.heap.objs.size := by simpa using hb
    have hle : s1.heap.objs.size ≤ b := by
      rcases e' with z | z
      · rw [z]; exact Nat.le_add_right _ _
      · rw [z]; exact Nat.le_refl _
    exact I1.fpOk hle (I1.hok.fresh hle)
/-! ### zip(list, list) -/
theorem boot_zip5 : bootBuiltins "zip" = some (.type "zip") := by decide +kernel
end L2
section 
namespace Bits
open PySem PyProof.Rows
end Bits
end 
section 
namespace TL
open PySem PySem.Builtin PySem.Builtin.Str PySem.StrLaws
abbrev tl (x : Str) : List Nat := x.cps.toList
theorem len_tl (x : Str) : x.length = (tl x).length := by simp [tl, Str.length]
theorem tl_append (x y : Str) : tl (x ++ y) = tl x ++ tl y := by
  show (x ++ y).cps.toList = _
  rw [Str.cps_append, Array.toList_append]
/-! ### the list functions -/
/-! ### the model's split and partition are these -/
/-! ### computing spl and par -/
/-- joined lists -/
def joinL (S : List Nat) : List (List Nat) → List Nat
  | [] => []
  | [p] => p
  | p :: q :: r => p ++ (S ++ joinL S (q :: r))
theorem tl_join (y : Str) : ∀ parts : List Str, tl (Str.join y parts) = joinL (tl y) (parts.map tl)
  | [] => rfl
  | [_] => rfl
  | x :: z :: r => by
    show tl (x ++ y ++ Str.join y (z :: r)) = tl x ++ (tl y ++ joinL (tl y) ((z :: r).map tl))
    rw [tl_append, tl_append, tl_join y (z :: r), List.append_assoc]
theorem join_eq (y : Str) (parts : List Str) : Txt.join y parts = Str.join y parts := glued_eq_join y parts
/-! ### digits -/
/-! ### words: x.split() -/
end TL
end 
namespace L2
open PySem PySem.Spec PyProof.Rows
theorem strs_of_vals : ∀ {ys : List Str} {us : List Value}, Vals (ys.map V.str) us → StrsAre us ys
  | [], _, .nil => .nil
  | y :: ys, _, .cons r t => by
    obtain ⟨k, rfl⟩ := r
    exact .cons y k (strs_of_vals t)

section
variable {X : Cx} {pins : List (Addr × Obj)} {σ : St} {H : Hp} {s : Shared} {Q : VK}
end
section
variable {X : Cx}
/-- sep.join(a list | a tuple of texts) -/
theorem mt_join : MtR X "str.join" (fun x xs H Q => ∃ a p, ∃ ys : List Str, x = .str a ∧ xs = [.ref p] ∧ (SqL X.K H p (ys.map V.str) ∨ SqT X.K H p (ys.map V.str)) ∧
    (ys.map (·.length)).sum + ys.length * a.length ≤ 16777216 ∧ Q (.str (Txt.join a ys)) H) := by
  intro pins s σ H x xs v us Q I rx rs h
  obtain ⟨a, p, ys, rfl, rfl, hp, hz, h⟩ := h
  obtain ⟨t, rfl⟩ := rx
  cases rs with
  | cons r1 rs =>
    cases rs
    cases r1
    rcases hp with hp | hp
    · obtain ⟨its, r, ⟨o, n, ho, hc, _, hd⟩, _⟩ := I.list hp
      exact PyProof.Rows.join_list (items := its.toArray) ⟨o, ho, hc, n, hd⟩ (by rw [List.toList_toArray]; exact strs_of_vals r) hz fun t' k => ⟨.str _, H, I.tok k, ⟨t', rfl⟩, h⟩
    · obtain ⟨its, r, ht, _⟩ := I.tuple hp
      exact PyProof.Rows.join_tuple (items := its.toArray) ht (by rw [List.toList_toArray]; exact strs_of_vals r) hz fun t' k => ⟨.str _, H, I.tok k, ⟨t', rfl⟩, h⟩

/-! ### of a text alone -/
/-! ### of a text and a text -/
end
section
variable {X : Cx} {o e : Expr} {to te : TE}
def tM1 (r : V → List V → Hp → VK → Prop) (to te : TE) : TE := fun σ H Q => to σ H fun x H1 => (∃ a, x = .str a) ∧ te σ H1 fun y H2 => r x [y] H2 Q
theorem pe_m1 {id : String} {name : Str} {apos pos : Pos} {r : V → List V → Hp → VK → Prop} (slot : Slot "str" name id) (ty : typeOf (.builtin id) = pure (.type "method_descriptor")) (rule : MtR X id r) (ho : PE X o to) (he : PE X e te)
    (hs : starEach [e] X.env = [(false, eval e X.env)] := by rfl) (hbase : attributeBase o name X.env (eval o X.env) = eval o X.env := by rfl) (hline : (apos.endLine == pos.line) = true := by rfl) :
    PE X (.Call (.Attribute o name apos) [e] [] pos) (tM1 r to te) := by
  intro pins s σ H Q I h
  refine PySem.Call_method1 hbase hs hline (thn (ho pins s σ H _ I h) fun v s1 ⟨x, H1, I1, r1, q1⟩ => ?_)
  obtain ⟨⟨a, rfl⟩, q1⟩ := q1
  obtain ⟨t, rfl⟩ := _root_.id r1
  refine ⟨"str", _, F.plainAttrs_str, slot, ty, typeIs_str _ _ _, (fun _ e => nomatch e), Calls.callWith_builtin rfl (Calls.evalArgs_plain (Calls.spliced_cons ?_))⟩
  exact thn (he pins s1 σ H1 _ I1 q1) fun u s2 ⟨y, H2, I2, r2, q2⟩ => Calls.spliced_nil (rule pins s2 σ H2 _ [y] _ [u] Q I2 r1 (.cons r2 .nil) q2)

theorem pe_join {apos pos : Pos} (ho : PE X o to) (he : PE X e te) (hs : starEach [e] X.env = [(false, eval e X.env)] := by rfl) (hbase : attributeBase o "join" X.env (eval o X.env) = eval o X.env := by rfl) (hline : (apos.endLine == pos.line) = true := by rfl) :
    PE X (.Call (.Attribute o "join" apos) [e] [] pos) (tM1 (fun x xs H Q => ∃ a p, ∃ ys : List Str, x = .str a ∧ xs = [.ref p] ∧ (SqL X.K H p (ys.map V.str) ∨ SqT X.K H p (ys.map V.str)) ∧
      (ys.map (·.length)).sum + ys.length * a.length ≤ 16777216 ∧ Q (.str (Txt.join a ys)) H) to te) :=
  pe_m1 F.slot_str_join F.type_str_join mt_join ho he hs hbase hline
end
end L2
namespace L2
open PySem PySem.Spec PyProof.Rows
section
variable {X : Cx}
end
/-! ### slices of a text -/
theorem IsPart.raw {v : Value} {o : Option Int} (p : IsPart v o) : ∃ l : Option (Int × Tok), v = partValue l ∧ l.map (·.1) = o := by
  cases p with
  | none => exact ⟨none, rfl, rfl⟩
  | int i t => exact ⟨some (i, t), rfl, rfl⟩

/-- a part, clipped, as the text's slice reckons it -/
def clipS (n d : Nat) : Option Int → Int
  | none => (d : Int)
  | some i => max 0 (min (if i < 0 then i + (n : Int) else i) (n : Int))
theorem clipS_eq (n d : Nat) (o : Option Int) : clipS n d o = ((HT.sIx n d o : Nat) : Int) := by
  cases o with
  | none => rfl
  | some v =>
    show max (0 : Int) (min (if v < 0 then v + (n : Int) else v) (n : Int)) = (((if v < 0 then (v + (n : Int)).toNat else min v.toNat n) : Nat) : Int)
    by_cases hv : v < 0
    · simp only [if_pos hv]
      omega
    · simp only [if_neg hv]
      omega
theorem sidx_clip (a b : Option Int) (n : Nat) : Builtin.Str.strSliceIndices a b 1 n = sliceRange (clipS n 0 a) (clipS n n b) 1 := by
  have h1 : ((1 : Int) > 0) = True := by simp
  cases a <;> cases b <;> first
    | rfl
    | (simp only [Builtin.Str.strSliceIndices, clipS, h1, if_true]; rfl)
    | simp [Builtin.Str.strSliceIndices, clipS]
theorem sidx (a b : Option Int) (n : Nat) : Builtin.Str.strSliceIndices a b 1 n = (List.range (HT.sIx n n b - HT.sIx n 0 a)).map (fun k => HT.sIx n 0 a + k) := by
  rw [sidx_clip, clipS_eq, clipS_eq]
  generalize HT.sIx n 0 a = p
  generalize HT.sIx n n b = q
  simp only [sliceRange, show ((1 : Int) > 0) = True from by simp, if_true]
  by_cases hlt : (p : Int) < q
  · have e3 : (((q : Int) - p + 1 - 1) / 1).toNat = q - p := by first | omega | (simp; done) | (simp; omega)
    simp only [hlt, if_true, e3]
    refine List.map_congr_left fun k _ => ?_
    omega
  · have : q - p = 0 := by omega
    simp [hlt, this]

/-- z[lo:hi] -/
def cutS (z : Str) (lo hi : Option Int) : Str :=
  ⟨((z.cps.toList.drop (HT.sIx z.length 0 lo)).take (HT.sIx z.length z.length hi - HT.sIx z.length 0 lo)).toArray⟩
theorem sliceText_cut (z : Str) (lo hi : Option Int) : PySem.StrLaws.sliceText z lo hi = cutS z lo hi := by
  have h1 : HT.sIx z.length 0 lo ≤ z.length := HT.sIx_le _ _ (Nat.zero_le _) _
  have h2 : HT.sIx z.length z.length hi ≤ z.length := HT.sIx_le _ _ (Nat.le_refl _) _
  have hp : HT.sIx z.length 0 lo ≤ max (HT.sIx z.length 0 lo) (HT.sIx z.length z.length hi) := Nat.le_max_left _ _
  have hq : max (HT.sIx z.length 0 lo) (HT.sIx z.length z.length hi) ≤ z.length := Nat.max_le.mpr ⟨h1, h2⟩
  have hd : max (HT.sIx z.length 0 lo) (HT.sIx z.length z.length hi) - HT.sIx z.length 0 lo = HT.sIx z.length z.length hi - HT.sIx z.length 0 lo := by omega
  have e : Builtin.Str.strSliceIndices lo hi 1 z.length =
      Builtin.Str.strSliceIndices (some ((HT.sIx z.length 0 lo : Nat) : Int)) (some ((max (HT.sIx z.length 0 lo) (HT.sIx z.length z.length hi) : Nat) : Int)) 1 z.length := by
    rw [PySem.StrLaws.strSliceIndices_plain hp hq, hd, sidx]
  have e2 : PySem.StrLaws.sliceText z lo hi =
      PySem.StrLaws.sliceText z (some ((HT.sIx z.length 0 lo : Nat) : Int)) (some ((max (HT.sIx z.length 0 lo) (HT.sIx z.length z.length hi) : Nat) : Int)) := by
    unfold PySem.StrLaws.sliceText
    rw [e]
  rw [e2, PySem.StrLaws.sliceText_nat z hp hq, hd]
  rfl
theorem cutS_length (z : Str) (lo hi : Option Int) : (cutS z lo hi).length ≤ z.length := by
  show (((z.cps.toList.drop (HT.sIx z.length 0 lo)).take (HT.sIx z.length z.length hi - HT.sIx z.length 0 lo)).toArray).size ≤ z.cps.size
  rw [List.size_toArray, List.length_take, List.length_drop, Array.length_toList]
  omega
def rSlS : V → Option Int → Option Int → Hp → VK → Prop := fun x lo hi H Q => ∃ z, x = .str z ∧ z.length ≤ sizeLine ∧ Q (.str (cutS z lo hi)) H
theorem sl_str {X : Cx} : SlR X rSlS := by
  intro pins s σ H x v vl vu lo hi sl Q I rx hs pl pu h
  obtain ⟨z, rfl, hz, q⟩ := h
  obtain ⟨t, rfl⟩ := rx
  obtain ⟨os, hos, hcs, hds⟩ := hs
  obtain ⟨l, rfl, rfl⟩ := IsPart.raw pl
  obtain ⟨u, rfl, rfl⟩ := IsPart.raw pu
  refine ⟨"str", _, F.slot_str_getitem.lookup, typeIs_str _ _ _, ?_⟩
  refine wpAny_getItem_str_slice (l := l) (u := u) (st := none) ⟨os, hos, hcs, hds⟩ rfl ?_
  have hl : (PySem.StrLaws.sliceText z (l.map (·.1)) (u.map (·.1))).length ≤ sizeLine := by
    rw [sliceText_cut]
    exact Nat.le_trans (cutS_length z _ _) hz
  rw [← sliceText_cut] at q
  unfold PySem.StrLaws.sliceText at q hl
  show Made.post (if ((1 : Int) == 1 && (Builtin.Str.strSliceIndices (l.map (·.1)) (u.map (·.1)) 1 z.length).length == z.length) = true then Made.val (.str z t)
    else Made.str ⟨((Builtin.Str.strSliceIndices (l.map (·.1)) (u.map (·.1)) 1 z.length).filterMap (z.cps[·]?)).toArray⟩) (EP X pins σ Q) s
  by_cases c : ((1 : Int) == 1 && (Builtin.Str.strSliceIndices (l.map (·.1)) (u.map (·.1)) 1 z.length).length == z.length) = true
  · rw [if_pos c] at q ⊢
    exact ⟨.str z, H, I, ⟨t, rfl⟩, q⟩
  · rw [if_neg c] at q hl ⊢
    exact ⟨hl, .str _, H, I.tok _, ⟨_, rfl⟩, q⟩
end L2
namespace Att
open PySem PySem.W PySem.Calls PyProof.Rows
/-! ### the script -/
theorem ints_of_wellAll {P : Params} {h : Heap} : ∀ (ns : List Int) (vs : List Value), WellAll P h vs (ns.map WData.int) → IntsAre vs ns := by
  intro ns
  induction ns with
  | nil =>
    intro vs w
    rw [List.map_nil] at w
    cases w
    exact .nil
  | cons n ns ih =>
    intro vs w
    rw [List.map_cons] at w
    cases w with
    | cons a b =>
      cases a
      exact .cons _ _ (ih _ b)

theorem script_of {l : OpenLaw} {n : Nat} (hn : l.most = some n) {P : Params} {h : Heap} {args : List WData} {vals : List Value}
    (hpre : l.row.toRowW.claim.pre args = true) (hwl : WellAll P h vals args) :
    ∃ a vs ns, vals = [Value.ref a] ∧ args = [WData.list (ns.map WData.int)] ∧ h.get? a = some { cls := .type "list", data := .seq vs.toArray } ∧ IntsAre vs ns ∧ ns.length ≤ n := by
  have hsh : WShape.hasAll [] args [.list .int] = true := (pre_splitW hpre).1
  have hc : l.pre.holds [] { args := args } = true := (pre_splitW hpre).2
  obtain ⟨d, r, rfl, h1, h2⟩ := hasAllW_cons hsh
  obtain rfl := hasAllW_nil h2
  obtain ⟨xs, rfl, h3⟩ := hasW_list h1
  obtain ⟨ns, rfl⟩ := items_int h3
  have hlen : ns.length ≤ n := by
    unfold OpenLaw.pre at hc
    have h4 : (WTm.not (.lt (.lit (.int (n : Int))) (.len (.arg 0)))).holds [] { args := [.list (ns.map .int)] } = true := by
      have h4 := (holds_andW hc).1
      rw [hn] at h4
      exact h4
    have h5 := condW_of h4 (w_not (w_lt w_lit (w_len_list (w_arg rfl))))
    rw [List.length_map] at h5
    refine Nat.le_of_not_lt fun q => ?_
    have q' : (n : Int) < ((ns.length : Nat) : Int) := by omega
    first
      | (rw [decide_eq_true q'] at h5; exact absurd h5 (by decide))
      | (simp at h5; omega)
  cases hwl with
  | cons w1 w2 =>
    cases w2
    cases w1 with
    | list ho hall => exact ⟨_, _, ns, rfl, rfl, ho, ints_of_wellAll ns _ hall, hlen⟩

theorem post_true (l : OpenLaw) (args : List WData) : l.row.toRowW.claim.post args (.bool true) args = true :=
  postW_of (r := l.row.toRowW) (X := (true == true))
    (show WShape.has [] (.bool true) .bool = true by first | rfl | decide | simp [WShape.has, WShape.arms, WShape.armsAll])
    (show (WTm.eq .res (.lit (.bool true))).value [] { args := args, res := some (.bool true), after := args } = some (.bool (true == true)) from w_eq_bool (w_res rfl) w_lit) rfl

/-! ### the attachment: holds_open's last premise (the goal 'hc' behind k_head) from a wpAny of the law's body -/
/-- the same from a codeAny of the CALL (for a layer whose function contracts speak of calls) -/
theorem attach_call {l : OpenLaw} {n : Nat} {q : Program} {loose : List Str} {XP : (Str → Option Value) → Heap → Prop} {YP : World → Heap → Prop} {d : DefRec}
    (hn : l.most = some n) (hdf : d.params.defaults = [])
    (call : ∀ (w : World) (s₀ s₁ : Shared) (mg mb : Str → Option Value) (fa : Addr) (o : Obj) (pm cd doc : Value) (a : Addr) (vs : List Value) (ns : List Int),
      Ground q loose [] XP w s₀ mg mb s₁.heap → YP w s₁.heap →
      s₁.heap.get? fa = some o → o.data = .func (docDef d.name d.params d.body d.scope pm cd doc) → s₁.heap.CodeRec cd d.name → mg d.name = some (.ref fa) →
      s₁.heap.get? a = some { cls := .type "list", data := .seq vs.toArray } → IntsAre vs ns → ns.length ≤ n → s₁.gens = #[] →
      codeAny (model l.prog w) callerA (.call (.ref fa) ⟨[.ref a], []⟩) (fun r s' => r = .ok (.ret (.bool true)) ∧ OldK s₁.heap s'.heap ∧ s'.os = s₁.os ∧ AllBare s'.gens) s₁) :
    WalkO q loose XP YP l.row.toRowW d [] (fun f vs => PySem.call f vs) := by
  intro w s₀ s₁ mg mb G Y fa o pm cd doc dV kV ho hd hcd hD hmg hg args vals as hpre hlay hrd hwl hlo
  obtain rfl : dV = .none := Dflts.none hD hdf
  obtain rfl : kV = .none := Dflts.noKw hD
  obtain ⟨a, vs, ns, rfl, rfl, hobj, hints, hlen⟩ := script_of hn hpre hwl
  refine enter_call (codeAny_mono (call w s₀ s₁ mg mb fa o pm cd doc a vs ns G Y ho (fd_plain hd) hcd hmg hobj hints hlen hg) fun r s' hq => ?_)
  obtain ⟨rfl, h2, h3, h4⟩ := hq
  exact ⟨.inl ⟨.bool true, .bool true, [], rfl, fun _ => rfl, .bool true, post_true l _, fun _ => ⟨List.Pairwise.nil, fun _ hm => (nomatch hm)⟩⟩, h2, h3, h4⟩

/-! ### rules over ANY heap (no ledger) from facts about the written part K: the library's own take a ledger (News) for what they write -/
section
variable {prog : Program} {w : World} {A : Around} {E : Value → Shared → Prop} {s : Shared} {K : Frag}
/-- a def of the module, or a method (qual 'C.m'), entered: the frame is the next address; cells behind it -/
theorem call_fn {R : Result → Shared → Prop} {name qual : Str} {params : Arguments} {body : List Stmt} {scope : Scope} {dV kV doc pm cdv ct oc : Value} {an od : Option Addr} {osl : Array (Option Value)} {f : Addr} {args : Args} {binds : List (Str × Value)}
    (X : K.In s.heap) (hlim : s.heap.NoLimit) (ho : K.lookup f = some ⟨oc, od, .func (fnOf name qual params body scope dV kV doc pm an cdv ct), osl⟩) (hcd : codeIn K cdv qual = true) (hroom : A.depth < recursionLimit)
    (hbind : BindsTo s (fnOf name qual params body scope dV kV doc pm an cdv ct) args binds)
    (hkind : (binds.all fun y => scope.names.lookup y.1 == some .local || scope.names.lookup y.1 == some .cell) = true)
    (h : ∀ s₁, InCallC s s.heap.objs.size (bindL (envOfC qual scope s.heap.objs.size f cdv).kindOf binds fun _ => none) (cellsFrom (s.heap.objs.size + 1) scope.names [])
        (bindC (envOfC qual scope s.heap.objs.size f cdv).kindOf binds fun _ => none) s₁ →
      wpAny (model prog w) (A.deeper (envOfC qual scope s.heap.objs.size f cdv)) (execs body (envOfC qual scope s.heap.objs.size f cdv))
        (fun fl s' => R (.ok (.ret (match fl with | .ret v => v | _ => .none))) s')
        (fun e s' => wpAny (model prog w) (A.deeper (envOfC qual scope s.heap.objs.size f cdv)) (leaving (envOfC qual scope s.heap.objs.size f cdv) e) (fun _ s'' => R (.error e) s'') (fun e' s'' => R (.error e') s'') s') s₁)
    (hco : scope.isCoroutine = false) (hgen : scope.isGenerator = false) (hk : scope.kind = .function) : codeAny (model prog w) A (.call (.ref f) args) R s := by
  refine codeAny_call_function hroom (X _ _ ho) rfl hco hgen rfl (codeRec_of X hcd) (hbind _ _ _ _ ?_)
  refine wpAny_newFunctionEnv_cells hk (kindsX hkind _) fun env he s₁ x => ?_
  subst he
  exact ⟨hlim.keeps x.toInCall.keep, codeAny_func (h s₁ x)⟩

/-! the whole heap as the ledger: makes every rule that writes through a ledger a rule over any heap -/
end
end Att
namespace L2
open PySem PySem.Spec PyProof.Rows
theorem vals_ints : ∀ {vs : List Value} {ns : List Int}, IntsAre vs ns → Vals (ns.map V.int) vs
  | _, _, .nil => .nil
  | _, _, .cons n t h => .cons ⟨t, rfl⟩ (vals_ints h)

end L2
namespace L2
open PySem PySem.Spec PyProof.Rows
end L2
/- THE LAST THEOREM (shape; LID, My.* are yours):
   My.Adr: a structure of the addresses that your layer names (classes, functions); My.Txt K t: a structure (Prop) of the equations over K;
   My.txt_mk : {K} {implicit addresses ..} (e1 : nsIn K mainGlobals "law" = some (some (.ref f))) (e2 : K.lookup f = some ⟨oc, od, .func (fnOf "law" "law" params body scope dV kV doc pm an cdv ct), sl⟩) (e3 : codeIn K cdv "law" = true) .. : ∃ t, My.Txt K t

set_option maxRecDepth 100000 in
set_option maxHeartbeats 0 in
theorem PySem.Challenge.cw_LID_holds : PySem.Challenge.rw_LID.Holds := by
  w_on; o_law; k_head; (case hw => w_witness2)
  k_fill
  refine L2.walk_of (l := PySem.Challenge.rw_LID) (n := 63) (k := 40) (x := "script") (CX := fun w => ..) (sp := fun _ => My.sp_law) rfl (by decide) rfl ⟨rfl, by decide, by decide⟩ (fun w h Y => PySem.W.kIn_of Y) ?F ?S ?C
  case F =>
    intro w mg fa h KX G hmg
    have T : ∃ t, My.Txt (L2.KOf KX) t := by
      dsimp only [L2.KOf]                          -- K must stand as «<heap const> w.params» for k_is
      refine' My.txt_mk ?e1 ?e2 ?e3 ..
      (case e1 => PySem.W.k_is)                    -- in the order: a name -> its address -> its object -> its parts
      (case e2 => PySem.W.k_is)
      ..
    obtain ⟨t, T⟩ := T
    have e0 := hmg.symm.trans (PySem.W.mg_of KX G T.law)
    cases e0                                       -- fa is the law's own address
    exact ⟨_, fun s u => .of_eq rfl, fun base kb nb => My.law_fn T kb nb⟩     -- if «.of_eq rfl» comes too early: refine' ⟨_, ?b, fun base kb nb => My.law_fn T kb nb⟩; exact fun s u => .of_eq rfl
  case S => exact fun w H a ns hl hO hS => ..
  case C => exact ..
(the tactic k_is has no namespace: write k_is) -/
/-! SHORT WORDS over the layer: a def of the text, its body, what a loop and a test want. -/
namespace L2
open PySem PySem.Spec PyProof.Rows
/-! ### the text by places -/
/-- the j-th statement of a class's body -/
def inClass (s : Stmt) (j : Nat) : Stmt := match s with
  | .ClassDef _ _ _ body _ _ _ _ _ _ _ => body.getD j (.Pass ⟨0, 0, 0, 0⟩)
  | _ => .Pass ⟨0, 0, 0, 0⟩
def defArgs (s : Stmt) : Arguments := match s with
  | .FunctionDef _ a _ _ _ _ _ _ _ _ => a
  | _ => { posonlyargs := [], args := [], vararg := none, kwonlyargs := [], kw_defaults := [], kwarg := none, defaults := [] }
def defBody (s : Stmt) : List Stmt := match s with
  | .FunctionDef _ _ b _ _ _ _ _ _ _ => b
  | _ => []
def defScope (s : Stmt) : Scope := match s with
  | .FunctionDef _ _ _ _ _ _ sc _ _ _ => sc
  | _ => { kind := .function, names := [], isGenerator := false, isCoroutine := false }

/-! ### no exception leaves a def -/
abbrev CX0 : CXT := fun _ _ _ _ _ _ => False
abbrev E0 : XK := fun _ _ _ => False
theorem pass0 {X : Cx} : Passes CX0 X E0 := fun _ _ _ _ _ _ _ h => h.elim

/-! ### a def (or method) of the text as it stands behind the top -/
structure Fun (K : PySem.W.Frag) (x qual : Str) (st : Stmt) (f : Addr) (fd : FuncData) : Prop where
  ex : ∃ (oc : Value) (od : Option Addr) (kV doc pm : Value) (an : Option Addr) (cdv ct : Value) (osl : Array (Option Value)),
    fd = PySem.W.fnOf x qual (defArgs st) (defBody st) (defScope st) .none kV doc pm an cdv ct ∧ K.lookup f = some ⟨oc, od, .func fd, osl⟩ ∧ PySem.W.codeIn K cdv qual = true
  kp : PySem.W.keepIn K (.ref f) = true
section
variable {P : Program} {w : World} {K : PySem.W.Frag} {mg : Str → Option Value} {base : Heap}
/-- THE RULE for a def: its body as a term of rules, and the reading of that term -/
theorem Fun.ok {x qual : Str} {st : Stmt} {f : Addr} {fd : FuncData} {N ps : List Str} {k : Nat} {sp : Sp} (F : Fun K x qual st f fd) (S : FnScope N ps (defScope st)) (len : ∀ vs H Q E, sp vs H Q E → vs.length = ps.length)
    (hbody : ∀ (cdv : Value) (A : Around) (outer : List Env) (s : Shared) (H : Hp) (vs : List V) (Q : VK) (E : XK), Room k (A.deeper (envOfC qual (defScope st) s.heap.objs.size f cdv)) → sp vs H Q E →
      ∃ t, PSs (cxOf CX0 P w K mg base N qual (defScope st) f cdv A outer s H E).nox (defBody st) t ∧ t { nx := fun _ H' => Q .non H', rt := Q } (start N vs) H) : FnOk P w K mg base CX0 (k + 1) f fd ps sp := by
  obtain ⟨oc, od, kV, doc, pm, an, cdv, ct, osl, rfl, lk, hcd⟩ := F.ex
  refine fn_of lk hcd S len fun A outer s H vs Q E hr hsp => ?_
  obtain ⟨t, h, q⟩ := hbody cdv A outer s H vs Q E hr hsp
  exact ⟨t, h.nox, q⟩
/-- how its arguments bind (no defaults): h is «fun _ _ _ _ _ _ us hl => match us, hl with | [_, _], _ => rfl», one _ a parameter -/
theorem Fun.binds {x qual : Str} {st : Stmt} {f : Addr} {fd : FuncData} {ps : List Str} (F : Fun K x qual st f fd)
    (h : ∀ (kV doc pm : Value) (an : Option Addr) (cdv ct : Value) (us : List Value), us.length = ps.length → bindArgs (PySem.W.fnOf x qual (defArgs st) (defBody st) (defScope st) .none kV doc pm an cdv ct) ⟨us, []⟩ = pure (ps.zip us)) : Binds K fd ps [] := by
  obtain ⟨oc, od, kV, doc, pm, an, cdv, ct, osl, rfl, lk, hcd⟩ := F.ex
  exact .all (h kV doc pm an cdv ct)
theorem fun_mk {x qual : Str} {st : Stmt} {f : Addr} {oc : Value} {od an : Option Addr} {osl : Array (Option Value)} {kV doc pm cdv ct : Value} (l : K.lookup f = some ⟨oc, od, .func (PySem.W.fnOf x qual (defArgs st) (defBody st) (defScope st) .none kV doc pm an cdv ct), osl⟩)
    (c : PySem.W.codeIn K cdv qual = true) (k : PySem.W.keepIn K (.ref f) = true) : Fun K x qual st f (PySem.W.fnOf x qual (defArgs st) (defBody st) (defScope st) .none kV doc pm an cdv ct) := ⟨⟨oc, od, kV, doc, pm, an, cdv, ct, osl, rfl, l, c⟩, k⟩
end
theorem hu_of {A : Around} {k : Nat} (hr : Room k A) : A.units + 1 < cLine := Nat.lt_of_le_of_lt (Nat.add_le_add_left (by decide : 1 ≤ 64) _) hr.units
/-! ### expressions in short: the name that stands in the i-th slot -/
section
variable {X : Cx}
theorem pv (i : Nat) {x : Str} {pos : Pos} (hN : X.N[i]? = some x := by rfl) (hv : Vis X.env.scope x := by first | exact Or.inl rfl | exact Or.inr (Or.inl rfl) | exact Or.inr (Or.inr rfl)) (hd : (x == ("__debug__" : Str)) = false := by decide)
    (hcd : (x == ("__classdict__" : Str)) = false := by decide) : PE X (.Name x pos) (tVar i) := pe_var hN hv hd hcd
end
/-! ### tests -/
theorem iteF {A B : Prop} (h : B) : if false = true then A else B := by
  rw [if_neg Bool.false_ne_true]
  exact h
theorem iteT {A B : Prop} (h : A) : if true = true then A else B := by
  rw [if_pos rfl]
  exact h
theorem ite2 {c A B : Prop} [Decidable c] (h1 : c → A) (h2 : ¬ c → B) : if c then A else B := by
  by_cases h : c
  · rw [if_pos h]
    exact h1 h
  · rw [if_neg h]
    exact h2 h
/-! ### heaps -/
/-- all that was tracked is as it was -/
def Same (H H' : Hp) : Prop := ∀ b o, H b = some o → H' b = some o
theorem Same.refl (H : Hp) : Same H H := fun _ _ h => h
theorem Same.trans {H H1 H2 : Hp} (a : Same H H1) (b : Same H1 H2) : Same H H2 := fun c o h => b c o (a c o h)
theorem Same.free {H H' : Hp} (e : Same H H') {l : Addr} (h : H' l = Option.none) : H l = Option.none := by
  cases q : H l with
  | none => rfl
  | some o =>
    rw [e l o q] at h
    cases h
theorem Same.seq {K : PySem.W.Frag} {H H' : Hp} {a : Addr} {xs : List V} (e : Same H H') (h : SqL K H a xs) : SqL K H' a xs := by
  rcases h with (h | ⟨o, h⟩) | h
  · exact .inl (.inl (e _ _ h))
  · exact .inl (.inr ⟨o, e _ _ h⟩)
  · exact .inr h

/-! ### a dict's pairs: keys that differ -/
section
variable {κ : Type} [DecidableEq κ]
end
/-! ### lists -/
theorem at_of {xs : List V} {z : Int} {j : Nat} {v : V} (e : z = (j : Int)) (h : xs[j]? = some v) : atI xs z = some v := by
  rw [e]
  exact atI_nat h
end L2

set_option Elab.async false
set_option maxRecDepth 100000
set_option linter.all false
set_option maxHeartbeats 8000000
/-! More rules over the layer: dict(d), d != e, d.clear(), isinstance of a whole number, list(reversed(xs)), // by a great number. -/
namespace Rl
open PySem PySem.Spec L2
section
variable {X : Cx}
/-- // by a positive divisor of up to nine thousand bits -/
theorem op_fdivL : OpR X (binaryOp .FloorDiv) (rI (fun _ j => 0 < j ∧ j.natAbs.log2 < 9000) fun i j => .int (i / j)) := opI fun i j _ _ _ _ _ hc q => by
  have h1 : (0 : Int) < j := hc.1
  exact PyProof.Rows.floordiv_int (by omega) (by rw [Int.fdiv_eq_ediv_of_nonneg i (by omega)]; exact q) (.inl (PyProof.noPylong_of_log2 hc.2))

/-- dict(d): a copy -/
theorem call_dictD : CallR X (.type "dict") (fun xs H Q => ∃ a kvs, xs = [V.ref a] ∧ H a = some (.dK kvs) ∧ ∀ p, H p = none → Q (.ref p) (upd H p (.dK kvs))) := by
  intro pins s σ H xs us Q I r h
  obtain ⟨a, kvs, rfl, ha, q⟩ := h
  obtain ⟨u, rfl, ru⟩ := vals1 r
  cases ru
  obtain ⟨hz, hm, vs, kv, hd⟩ := (show ObjOk _ _ _ _ _ (.dK kvs) from I.hok a _ ha)
  have el : vs.length = kvs.length := (Paired.length kv).symm
  refine kt_call_dict hm hd (by rw [el]; exact hz) fun h' hd' sb => ?_
  have hn : H s.heap.objs.size = none := I.hok.fresh (Nat.le_refl _)
  have hm' : (s.heap.objs.size == sysModules) = false := beq_eq_false_iff_ne.mpr (Nat.ne_of_gt I.big)
  refine ⟨.ref s.heap.objs.size, _, ?_, rfl, q _ hn⟩
  refine I.laid (t' := s.toks) (fun b o e => (sb.2 b (Nat.ne_of_lt (Heap.lt_size e))).trans (Heap.get?_push_of_some _ e)) (Nat.le_refl _) ?_
  exact ⟨hz, hm', vs, kv, hd'⟩

end
end Rl
namespace Rl
open PySem PySem.Spec L2
/-- a block cut in two: what holds between is said -/
def tCut (t u : TS) : TS := fun D σ H => ∃ Mid : St → Hp → Prop, t { D with nx := Mid } σ H ∧ ∀ σ' H', Mid σ' H' → u D σ' H'
theorem pss_cut {X : Cx} {st : Stmt} {rest : List Stmt} {t u : TS} (h1 : PS X st t) (h2 : PSs X rest u) : PSs X (st :: rest) (tCut t u) := by
  intro pins s σ H D I ⟨Mid, a, b⟩
  refine wpAny_execs_cons (thn (h1 pins s σ H { D with nx := Mid } I a) fun f s1 q => ?_)
  cases f with
  | next => obtain ⟨σ', H', I', q⟩ := q; exact h2 pins s1 σ' H' D I' (b σ' H' q)
  | ret v => exact q
  | brk => exact q
  | cont => exact q
end Rl
namespace Tb
open PySem PySem.Spec PyProof.Rows L2
/-- nothing is tracked but the script and the empty tables at ts -/
def OnlyT (ts : List Addr) (H : Hp) : Prop := ∀ b, H b = none ∨ (∃ o xs, H b = some (.frz o (.lst xs))) ∨ (b ∈ ts ∧ H b = some (.tbl #[]))
/-- where the module of the built-ins lies -/
def BM (mg : Str → Option Value) (base : Heap) : Prop := ∃ bm ob, mg "__builtins__" = some (.ref bm) ∧ bm ≠ builtinsNs ∧ base.get? bm = some ob ∧ ob.cls = .type "module" ∧ ob.dict = some builtinsNs ∧ ob.data = .plain

def h0T (ts : List Addr) (a : Addr) (u : Option HO) : Hp := fun b => if b ∈ ts then some (.tbl #[]) else if b = a then u else none
theorem h0T_t {ts : List Addr} {a b : Addr} {u : Option HO} (h : b ∈ ts) : h0T ts a u b = some (.tbl #[]) := by unfold h0T; rw [if_pos h]
theorem h0T_a {ts : List Addr} {a : Addr} {u : Option HO} (h : a ∉ ts) : h0T ts a u a = u := by unfold h0T; rw [if_neg h, if_pos rfl]
theorem h0T_n {ts : List Addr} {a b : Addr} {u : Option HO} (h : b ∉ ts) (h2 : b ≠ a) : h0T ts a u b = none := by unfold h0T; rw [if_neg h, if_neg h2]

theorem law_callT {P : Program} {w : World} {K : PySem.W.Frag} {mg mb : Str → Option Value} {CX : CXT} {k : Nat} {fa a : Addr} {fd : FuncData} {x : Str} {sp : Sp} {s₁ : Shared} {vs : List Value} {ns : List Int} {ts : List Addr}
    (KX : K.In s₁.heap) (hns : s₁.heap.Ns mainGlobals mg) (hb : s₁.heap.Ns builtinsNs mb) (hbb : ∀ x : Str, x ≠ "__name__" → mb x = bootBuiltins x) (hlim : s₁.heap.NoLimit) (hg : s₁.gens = #[])
    (ha : s₁.heap.get? a = some { cls := .type "list", data := .seq vs.toArray }) (hi : IntsAre vs ns) (hl : ns.length ≤ sizeLine) (hr : Room k callerA)
    (hts : ∀ P ∈ ts, s₁.heap.get? P = some (PySem.W.tabObj #[])) (hcs : ∀ P ∈ ts, ∃ c, PySem.W.codeHdIn K c P = true) (hnt : PySem.W.noTabs K = true) (hbm : BM mg s₁.heap)
    (F : ∀ base : Heap, K.In base → base.Ns mainGlobals mg → BM mg base → FnOk P w K mg base CX k fa fd [x] sp) (hbind : ∀ (s : Shared) (u : Value), BindsTo s fd ⟨[u], []⟩ [(x, u)])
    (hsp : ∀ H : Hp, OnlyT ts H → (∀ P ∈ ts, H P = some (.tbl #[])) → SqL K H a (ns.map V.int) → sp [.ref a] H (fun v _ => v = .bl true) fun _ _ _ => False)
    (hCX : ∀ H e s', CX [] H s₁ (fun _ _ _ => False) e s' → False) :
    codeAny (model P w) callerA (.call (.ref fa) ⟨[.ref a], []⟩) (fun r s' => r = .ok (.ret (.bool true)) ∧ OldK s₁.heap s'.heap ∧ s'.os = s₁.os ∧ AllBare s'.gens) s₁ := by
  have rv := vals_ints hi
  have lenV := hi.length
  have core : ∀ H : Hp, OnlyT ts H → (∀ P ∈ ts, H P = some (.tbl #[])) → SqL K H a (ns.map V.int) → HOk P w H s₁.heap → (∀ b, H b ≠ none → b = a ∨ b ∈ ts) → (H a ≠ none → K.lookup a = none) →
      codeAny (model P w) callerA (.call (.ref fa) ⟨[.ref a], []⟩) (fun r s' => r = .ok (.ret (.bool true)) ∧ OldK s₁.heap s'.heap ∧ s'.os = s₁.os ∧ AllBare s'.gens) s₁ := by
    intro H hO hTb hS hok hA hK
    have base_of : ∀ {b : Addr} {o : Obj}, s₁.heap.get? b = some o → H b = none → (hidT s₁.heap H).get? b = some o := fun e n => hidT_get e n
    have no : ∀ {b : Addr} {o : Obj}, s₁.heap.get? b = some o → o ≠ { cls := .type "list", data := .seq vs.toArray } → o ≠ PySem.W.tabObj #[] → H b = none := fun {b o} e d1 d2 => by
      cases q : H b with
      | none => rfl
      | some u =>
        rcases hA b (by rw [q]; simp) with e' | e'
        · subst e'
          rw [ha] at e; cases e
          exact absurd rfl d1
        · rw [hts b e'] at e; cases e
          exact absurd rfl d2
    have noA : ∀ {b : Addr} {o : Obj} {es : Array DictEntry} {ep : Nat}, s₁.heap.get? b = some o → o.data = .dict es ep → H b = none := fun {b o es ep} e d =>
      no e (fun z => by rw [z] at d; cases d) fun z => by rw [z] at d; cases d
    have nsK : ∀ {b : Addr} {m : Str → Option Value}, s₁.heap.Ns b m → (hidT s₁.heap H).Ns b m := fun {b m} ⟨o, es, ep, e, d, r⟩ => ⟨o, es, ep, base_of e (noA e d), d, r⟩
    have hKb : K.In (hidT s₁.heap H) := fun b o e => base_of (KX b o e) (by
      cases q : H b with
      | none => rfl
      | some u =>
        rcases hA b (by rw [q]; simp) with e' | e'
        · subst e'
          rw [hK (by rw [q]; simp)] at e; cases e
        · have e2 := KX b o e
          rw [hts b e'] at e2
          have h2 := List.all_eq_true.mp hnt (b, o) (PySem.W.mem_of_lookupK e)
          have e3 : PySem.W.tabObj #[] = o := Option.some.inj e2
          subst e3
          exact absurd (show false = true from h2) Bool.false_ne_true)
    have hM : Mod K mg (hidT s₁.heap H) := ⟨hKb, nsK hns, ⟨mb, nsK hb, hbb⟩, let ⟨mc, h1, h2⟩ := hlim; ⟨mc, nsK h1, h2⟩⟩
    have e0 : Env0 P w K mg (hidT s₁.heap H) callerA [] s₁ H := ⟨rfl, hM, fun b o e => of_hidT e, Nat.le_of_eq (hidT_size _ _), trivial, fun b hb => absurd (show b ∈ ([] : List Addr) from hb) (by simp), hok, .of_eq hg⟩
    have hBM : BM mg (hidT s₁.heap H) := by
      obtain ⟨bm, ob, b1, b2, b3, b4, b5, b6⟩ := hbm
      refine ⟨bm, ob, b1, b2, base_of b3 (no b3 (fun z => ?_) fun z => ?_), b4, b5, b6⟩
      · rw [z] at b6; cases b6
      · rw [z] at b6; cases b6
    refine codeAny_mono ((F _ hKb (nsK hns) hBM).run callerA [] s₁ H ⟨[.ref a], []⟩ [.ref a] [.ref a] _ _ hr e0 (hbind s₁ (.ref a)) (.cons rfl .nil) (hsp H hO hTb hS)) fun r s' h => ?_
    cases r with
    | error e => exact (hCX H e s' h).elim
    | ok fl =>
      cases fl with
      | next => exact False.elim h
      | brk => exact False.elim h
      | cont => exact False.elim h
      | ret u =>
        obtain ⟨v, H', os, bare, un, hok', r', q⟩ := h
        have q' : v = .bl true := q
        subst q'
        obtain rfl : u = Value.bool true := r'
        have tab : ∀ b ∈ ts, ∃ ps, s'.heap.get? b = some (PySem.W.tabObj ps) := fun b hb => by
          obtain ⟨more, e⟩ := un.tbls b _ (hTb b hb)
          exact ⟨_, hok' b _ e⟩
        have same : ∀ b o, b ∉ ts → s₁.heap.get? b = some o → s'.heap.get? b = some o := fun b o hb e => by
          cases q : H b with
          | none => exact un.keep b o e q (by intro z; exact absurd (show b ∈ ([] : List Addr) from z) (by simp)) (by simp)
          | some u =>
            rcases hO b with z | ⟨ob, xs, z⟩ | ⟨z, _⟩
            · rw [q] at z; cases z
            · have z2 := un.frzs b ob _ z
              obtain ⟨e1, _⟩ := hok b _ z
              obtain ⟨e2, _⟩ := hok' b _ z2
              rw [e] at e1; cases e1
              exact e2
            · exact absurd z hb
        refine ⟨rfl, ⟨fun b o e => ?_, fun b o e => ?_⟩, os, bare⟩
        · by_cases hb : b ∈ ts
          · obtain ⟨ps, hP⟩ := tab b hb
            obtain ⟨c, hc⟩ := hcs b hb
            have e2 := hts b hb
            rw [e] at e2
            cases e2
            exact .inr (.inl ⟨((PySem.W.codeHd_of_K KX hc).tab e).isCodeTable, rfl, #[], ps, rfl, by rw [Array.empty_append]; exact hP⟩)
          · exact .inl (same b o hb e)
        · by_cases hb : b ∈ ts
          · obtain ⟨ps, hP⟩ := tab b hb
            exact ⟨_, hP⟩
          · exact ⟨o, same b o hb e⟩
  have nats : a ∉ ts := fun z => by
    have e := hts a z
    rw [ha] at e
    cases e
  have start : ∀ u : Option HO, OnlyT ts (h0T ts a u) → SqL K (h0T ts a u) a (ns.map V.int) → (∀ v, u = some v → ObjOk P w (h0T ts a u) s₁.heap a v) → (u ≠ none → K.lookup a = none) →
      codeAny (model P w) callerA (.call (.ref fa) ⟨[.ref a], []⟩) (fun r s' => r = .ok (.ret (.bool true)) ∧ OldK s₁.heap s'.heap ∧ s'.os = s₁.os ∧ AllBare s'.gens) s₁ := fun u h1 h2 h3 h4 => by
    refine core _ h1 (fun P hP => h0T_t hP) h2 (fun b v z => ?_) (fun b z => ?_) fun z => h4 (by rw [h0T_a nats] at z; exact z)
    · by_cases hb : b ∈ ts
      · rw [h0T_t hb] at z
        cases z
        exact hts b hb
      · by_cases hb2 : b = a
        · subst hb2
          rw [h0T_a hb] at z
          exact h3 v z
        · rw [h0T_n hb hb2] at z
          cases z
    · by_cases hb : b ∈ ts
      · exact .inr hb
      · by_cases hb2 : b = a
        · exact .inl hb2
        · exact absurd (h0T_n hb hb2) z
  have only : ∀ u : Option HO, (u = none ∨ ∃ o xs, u = some (.frz o (.lst xs))) → OnlyT ts (h0T ts a u) := fun u hu b => by
    by_cases hb : b ∈ ts
    · exact .inr (.inr ⟨hb, h0T_t hb⟩)
    · by_cases hb2 : b = a
      · subst hb2
        rw [h0T_a hb]
        rcases hu with e | ⟨o, xs, e⟩
        · exact .inl e
        · exact .inr (.inl ⟨o, xs, e⟩)
      · exact .inl (h0T_n hb hb2)
  cases hk : K.lookup a with
  | some o =>
    have e := KX a o hk
    rw [ha] at e
    cases e
    exact start none (only none (.inl rfl)) (.inr ⟨_, vs.toArray, _, hk, rfl, rfl, rfl, by rw [List.size_toArray, lenV]; exact hl, by simpa using rv⟩) (fun v z => nomatch z) fun z => absurd rfl z
  | none =>
    exact start (some (.frz { cls := .type "list", data := .seq vs.toArray } (.lst (ns.map V.int)))) (only _ (.inr ⟨_, _, rfl⟩)) (.inl (.inr ⟨{ cls := .type "list", data := .seq vs.toArray }, h0T_a nats⟩))
      (fun v z => by cases z; exact ⟨ha, by rw [List.length_map]; exact hl, vs, _, rv, ha⟩) fun _ => hk

/-- the goal that k_head leaves, where the law's code makes functions -/
theorem walk_ofT {l : PySem.W.OpenLaw} {n k : Nat} {q : Program} {loose : List Str} {XP : (Str → Option Value) → Heap → Prop} {YP : World → Heap → Prop} {d : DefRec} {K : Params → PySem.W.Frag} {CX : World → CXT} {sp : World → Sp} {x : Str} {ts : List Addr}
    (hn : l.most = some n) (hn2 : n ≤ sizeLine) (hdf : d.params.defaults = []) (hr : Room k callerA)
    (hY : ∀ (w : World) (h : Heap), YP w h → (K w.params).In h ∧ ∀ P ∈ ts, h.get? P = some (PySem.W.tabObj #[]))
    (hcs : ∀ (w : World), ∀ P ∈ ts, ∃ c, PySem.W.codeHdIn (K w.params) c P = true) (hnt : ∀ w : World, PySem.W.noTabs (K w.params) = true)
    (F : ∀ (w : World) (mg : Str → Option Value) (fa : Addr) (h : Heap), (K w.params).In h → h.Ns mainGlobals mg → mg d.name = some (.ref fa) →
      ∃ fd : FuncData, (∀ (s : Shared) (u : Value), BindsTo s fd ⟨[u], []⟩ [(x, u)]) ∧
        ∀ base : Heap, (K w.params).In base → base.Ns mainGlobals mg → BM mg base → FnOk l.prog w (K w.params) mg base (CX w) k fa fd [x] (sp w))
    (hsp : ∀ (w : World) (H : Hp) (a : Addr) (ns : List Int), ns.length ≤ n → OnlyT ts H → (∀ P ∈ ts, H P = some (.tbl #[])) → SqL (K w.params) H a (ns.map V.int) → sp w [.ref a] H (fun v _ => v = .bl true) fun _ _ _ => False)
    (hCX : ∀ (w : World) (H : Hp) (s : Shared) (e : Value) (s' : Shared), CX w [] H s (fun _ _ _ => False) e s' → False) :
    PySem.W.WalkO q loose XP YP l.row.toRowW d [] (fun f vs => PySem.call f vs) := by
  refine Att.attach_call hn hdf fun w s₀ s₁ mg mb fa o pm cd doc a vs ns G Y ho hd hcd hmg hobj hints hlen hg => ?_
  obtain ⟨KX, hts⟩ := hY w _ Y
  obtain ⟨fd, hb, hF⟩ := F w mg fa _ KX G.T.g hmg
  exact law_callT KX G.T.g G.T.b G.T.builtins G.T.nolimit hg hobj hints (Nat.le_trans hlen hn2) hr hts (hcs w) (hnt w) G.T.bmain hF hb (fun H hO hT hS => hsp w H a ns hlen hO hT hS) fun H e s' => hCX w H s₁ e s'

/-! ### a lambda is made: its table has grown -/
section
variable {X : Cx}
def CoO (c : Addr) (qual : Str) : HO := .ext fun h => h.CodeRec (.ref c) qual
/-- a table by which one lambda was made -/
def tab1 (pos : Pos) (c : Addr) : Array Value := #[rawInt pos.line, rawInt pos.col, .ref c]
end
end Tb
namespace Tb
open PySem PySem.Spec PyProof.Rows L2
theorem pe_no {X : Cx} {e : Expr} : PE X e (fun _ _ _ => False) := fun _ _ _ _ _ _ h => h.elim
/-- the rule for a def whose code object is known, defaults or not -/
theorem okD {P : Program} {w : World} {K : PySem.W.Frag} {mg : Str → Option Value} {base : Heap} {x qual : Str} {st : Stmt} {f : Addr} {N ps : List Str} {k : Nat} {sp : Sp} {oc dV kV doc pm cdv ct : Value} {od an : Option Addr} {osl : Array (Option Value)}
    (lk : K.lookup f = some ⟨oc, od, .func (PySem.W.fnOf x qual (defArgs st) (defBody st) (defScope st) dV kV doc pm an cdv ct), osl⟩) (hcd : PySem.W.codeIn K cdv qual = true) (S : FnScope N ps (defScope st)) (len : ∀ vs H Q E, sp vs H Q E → vs.length = ps.length)
    (hbody : ∀ (A : Around) (outer : List Env) (s : Shared) (H : Hp) (vs : List V) (Q : VK) (E : XK), Room k (A.deeper (envOfC qual (defScope st) s.heap.objs.size f cdv)) → sp vs H Q E →
      ∃ t, PSs (cxOf CX0 P w K mg base N qual (defScope st) f cdv A outer s H E).nox (defBody st) t ∧ t { nx := fun _ H' => Q .non H', rt := Q } (start N vs) H) : FnOk P w K mg base CX0 (k + 1) f (PySem.W.fnOf x qual (defArgs st) (defBody st) (defScope st) dV kV doc pm an cdv ct) ps sp := by
  refine fn_of lk hcd S len fun A outer s H vs Q E hr hsp => ?_
  obtain ⟨t, h, q⟩ := hbody A outer s H vs Q E hr hsp
  exact ⟨t, h.nox, q⟩
/-- the table of a def that makes one lambda: not made so far, or made -/
def LamT (H : Hp) (P : Addr) (pos : Pos) (qual : Str) : Prop := H P = some (.tbl #[]) ∨ ∃ c', H P = some (.tbl (tab1 pos c')) ∧ H c' = some (CoO c' qual)
theorem LamT.is {H : Hp} {P : Addr} {pos : Pos} {qual : Str} (h : LamT H P pos qual) : ∃ ps, H P = some (.tbl ps) := by
  rcases h with e | ⟨c', e, _⟩
  · exact ⟨_, e⟩
  · exact ⟨_, e⟩
theorem LamT.keep {H H' : Hp} {P : Addr} {pos : Pos} {qual : Str} (h : LamT H P pos qual) (k : ∀ b o, H b = some o → (∃ ps, o = .tbl ps) ∨ (∃ φ, o = .ext φ) → H' b = some o) : LamT H' P pos qual := by
  rcases h with e | ⟨c', e, e2⟩
  · exact .inl (k _ _ e (.inl ⟨_, rfl⟩))
  · exact .inr ⟨c', k _ _ e (.inl ⟨_, rfl⟩), k _ _ e2 (.inr ⟨_, rfl⟩)⟩
end Tb

set_option Elab.async false
set_option maxRecDepth 100000
set_option linter.all false
set_option maxHeartbeats 4000000
namespace Tb
open PySem PySem.Spec PyProof.Rows L2
/-! ### generator expressions: their code, by the def's table -/
section
variable {X : Cx} {pins : List (Addr × Obj)} {σ : L2.St} {H : Hp} {s : Shared}
/-- the code of a generator expression: made now, or before -/
theorem gen_code {A : Around} {E : Value → Shared → Prop} {env : Env} {scope : Scope} {pos : Pos} {c P : Addr} {qual : Str} {Q : Value → Shared → Prop} (hcode : env.code = .ref c) (hC : PySem.W.codeHdIn X.K c P = true) (I : Inv X pins σ H s) (hT : LamT H P pos qual)
    (q : ∀ (c' : Addr) (H' : Hp) (s' : Shared), Inv X pins σ H' s' → (∀ b o, H b = some o → b ≠ P → H' b = some o) → LamT H' P pos qual → s.heap.objs.size ≤ s'.heap.objs.size → (∀ b o, s.heap.get? b = some o → b ≠ P → s'.heap.get? b = some o) → s'.gens = s.gens → s'.os = s.os → (∀ b, b < s.heap.objs.size → H b = none → H' b = none) → Q (.ref c') s') :
    wpAny (model X.prog X.w) A (genexprCode env pos qual scope) Q E s := by
  have C := PySem.W.codeHd_of_K I.kIn hC
  rcases hT with hP | ⟨c', hP, hc'⟩
  · have ePh : s.heap.get? P = some (PySem.W.tabObj #[]) := I.hok P _ hP
    refine wpAny_genexprCodeX hcode (C.code ePh trivial) (C.tab ePh) rfl fun c' h' tk hx hge hlt _ hrec htb _ => ?_
    have htb := htb.2
    rw [Array.empty_append] at htb
    have hPs : P < s.heap.objs.size := Heap.lt_size ePh
    have fc : H c' = none := I.hok.fresh hge
    have ncP : c' ≠ P := Nat.ne_of_gt (Nat.lt_of_lt_of_le hPs hge)
    have new : ∀ b o, s.heap.get? b = some o → b ≠ c' := fun b o e => Nat.ne_of_lt (Nat.lt_of_lt_of_le (Heap.lt_size e) hge)
    have keepN : ∀ b o, s.heap.get? b = some o → b ≠ P → h'.get? b = some o := fun b o e hb => hx b o hb e
    have at3 : ∀ b, b ≠ P → b ≠ c' → (upd (upd H P (.tbl (tab1 pos c'))) c' (CoO c' qual)) b = H b := fun b h1 h2 => by rw [upd_ne h2, upd_ne h1]
    have nn : ∀ b u, H b = some u → u ≠ .tbl #[] → b ≠ P ∧ b ≠ c' := fun b u e hu => ⟨fun z => (by rw [z, hP] at e; cases e; exact hu rfl), fun z => (by rw [z, fc] at e; cases e)⟩
    have n0 : ∀ b o, s.heap.get? b = some o → H b = none → b ≠ P := fun b o e n z => by rw [z, hP] at n; cases n
    refine q c' (upd (upd H P (.tbl (tab1 pos c'))) c' (CoO c' qual)) { s with heap := h', toks := tk } ?_ (fun b o e hb => ?_) (.inr ⟨c', ?_, upd_same⟩) (Nat.le_of_lt (Nat.lt_of_le_of_lt hge hlt)) keepN rfl rfl (fun b lt n => by rw [at3 b (fun z => by rw [z, hP] at n; cases n) (Nat.ne_of_lt (Nat.lt_of_lt_of_le lt hge))]; exact n)
    · refine I.step (g' := s.gens) (d' := s.drawn) (t' := tk) (ch := []) (fun _ z => nomatch z) (fun b o _ _ _ e n => keepN b o e (n0 b o e n)) (fun b o _ _ _ e n => ⟨o.slots, keepN b o e (n0 b o e n)⟩) (fun b o _ e n => ?_) (fun b o _ e => ?_)
        (fun b xs e => ?_) (fun b o u e => ?_) (fun b ps e => ?_) (fun m hm => ?_) (fun b u e => ?_) I.bare
      · rw [at3 b (n0 b o e n) (new b o e)]; exact n
      · by_cases hb : b = P
        · subst hb; exact ⟨_, htb⟩
        · exact ⟨o, keepN b o e hb⟩
      · obtain ⟨h1, h2⟩ := nn b _ e (by simp)
        rw [at3 b h1 h2]; exact e
      · obtain ⟨h1, h2⟩ := nn b _ e (by simp)
        rw [at3 b h1 h2]; exact e
      · by_cases hb : b = P
        · subst hb
          rw [hP] at e
          cases e
          exact ⟨tab1 pos c', by rw [upd_ne (Ne.symm ncP), upd_same, Array.empty_append]⟩
        · have h2 : b ≠ c' := fun z => by rw [z, fc] at e; cases e
          exact ⟨#[], by rw [at3 b hb h2, e]; simp⟩
      · obtain ⟨o, es, ep, ho, r⟩ := hm
        exact ⟨o, es, ep, keepN _ o ho (n0 _ o ho I.free), r⟩
      · by_cases h2 : b = c'
        · subst h2
          rw [upd_same] at e
          cases e
          obtain ⟨c₂, oc, vs, t, e2, hoc, hd, hv⟩ := hrec
          cases e2
          refine ⟨⟨_, oc, vs, t, rfl, hoc, hd, hv⟩, ⟨_, hoc⟩, fun h1 h2 ⟨c3, oc3, vs3, t3, e3, hoc3, hd3, hv3⟩ k => ?_⟩
          cases e3
          exact ⟨_, oc3, vs3, t3, rfl, k _ hoc3, hd3, hv3⟩
        · rw [upd_ne h2] at e
          by_cases h1 : b = P
          · subst h1
            rw [upd_same] at e
            cases e
            exact htb
          · rw [upd_ne h1] at e
            refine (I.hok b u e).stay (fun c2 v hc z => ?_) (fun c2 z => ?_) fun c2 xs z => ?_
            · refine keepN c2 v z fun z2 => ?_
              rcases hc with z3 | z3
              · exact h1 (z3.symm.trans z2)
              · rw [z2, hP] at z3; cases z3
            · obtain ⟨a1, a2⟩ := nn c2 _ z (by simp)
              rw [at3 c2 a1 a2]; exact z
            · obtain ⟨a1, a2⟩ := nn c2 _ z (by simp)
              rw [at3 c2 a1 a2]; exact z
    · rw [upd_ne (ne_of_none e fc), upd_ne hb]; exact e
    · rw [upd_ne (Ne.symm ncP), upd_same]
  · have ePh : s.heap.get? P = some (PySem.W.tabObj (tab1 pos c')) := I.hok P _ hP
    refine wpAny_genexprCode_hit hcode (C.code ePh trivial) (codeAmong_snoc (pos := pos) (c := .ref c') [] trivial rfl) ?_
    exact q c' H s I (fun _ _ e _ => e) (.inr ⟨c', hP, hc'⟩) (Nat.le_refl _) (fun _ _ e _ => e) rfl rfl (fun _ _ n => n)
end
end Tb

set_option Elab.async false
set_option maxRecDepth 100000
set_option linter.all false
set_option maxHeartbeats 4000000
namespace Tb
open PySem PySem.Spec PyProof.Rows L2
section
variable {X : Cx}
theorem passing_all (n : Nat) : passing (fun _ => true) n 0 = List.range n := by
  unfold passing
  rw [List.drop_zero]
  exact List.filter_eq_self.mpr fun _ _ => rfl
end
end Tb

set_option Elab.async false
set_option maxRecDepth 100000
set_option linter.all false
set_option maxHeartbeats 4000000
namespace Tb
open PySem PySem.Spec PyProof.Rows L2
/-! ### x.removeprefix(y); a list's items in a tuple -/
section
variable {X : Cx}
end
end Tb

set_option Elab.async false
set_option maxRecDepth 100000
set_option linter.all false
set_option maxHeartbeats 8000000
namespace Tb
open PySem PySem.Spec PyProof.Rows L2
/-! ### a dict of the module itself, keyed by texts -/
/-- what it holds, read off the module's objects -/
def TabK (K : PySem.W.Frag) (a : Addr) (D : List (Str × V)) : Prop :=
  (a == sysModules) = false ∧ ∃ o es ep, K.lookup a = some o ∧ o.ExactDict ∧ o.data = .dict es ep ∧ KTD.Rows (fun (d : V) v => RelV d v) es.toList D
/-- the value at a text -/
def valT (D : List (Str × V)) (k : Str) : Option V := KTD.datumAt k D
section
variable {X : Cx} {pins : List (Addr × Obj)} {σ : L2.St} {H : Hp} {s : Shared} {a : Addr} {D : List (Str × V)}
theorem Inv.tab (I : L2.Inv X pins σ H s) (h : TabK X.K a D) : KTD.TabOf (fun (d : V) v => RelV d v) s.heap a D := by
  obtain ⟨z, o, es, ep, hk, hc, hd, r⟩ := h
  exact ⟨z, o, es, ep, I.kIn a o hk, hc, hd, r⟩
end
section
variable {δ : Type} {R : δ → Value → Prop} {prog : Program} {w : World} {A : Around} {E : Value → Shared → Prop} {s : Shared} {a : Addr} {D : List (Str × δ)} {k : Str} {tk : Tok}
theorem tab_typeIs (T : KTD.TabOf R s.heap a D) : s.TypeIs (.ref a) "dict" := by
  obtain ⟨_, o, _, _, ho, hc, _⟩ := T
  exact ⟨o, ho, hc.1⟩
theorem tab_look {Q : Option Value → Shared → Prop} (T : KTD.TabOf R s.heap a D) (hit : ∀ d v, KTD.datumAt k D = some d → R d v → Q (some v) { s with toks := s.toks + 1 })
    (miss : KTD.datumAt k D = none → Q none { s with toks := s.toks + 1 }) : wpAny (model prog w) A (dictGet a (.str k tk)) Q E s := by
  obtain ⟨_, o, es, ep, ho, _, hd, rows⟩ := T
  have all : (es.all fun e => isExactStrKey e.key) = true := by
    obtain ⟨l⟩ := es
    simpa using rows.exact
  have same : ∀ m : Option Value, (es.toList.find? fun e => e.key.isStr k).map (·.val) = m → findBy (fun k v => v.isStr k) es k = m := fun m e => by
    rw [← e]
    obtain ⟨l⟩ := es
    simp [findBy]
  have goal : Q (findBy (fun k v => v.isStr k) es k) { s with toks := s.toks + 1 } := by
    rcases hat : KTD.datumAt k D with _ | d
    · rw [same none (rows.find_none hat)]
      exact miss hat
    · obtain ⟨v, hv, rv⟩ := rows.find_some hat
      rw [same (some v) hv]
      exact hit d v hat rv
  unfold dictGet
  try with_reducible refine wpAny_holding ?_
  refine wpAny_bind (wpAny_pyHash_str (wpAny_bind (KTD.kt_dictFind_strs (s := { s with toks := s.toks + 1 }) ho hd all ?_)))
  rw [findBy_of_findIdx?] at goal
  cases hi : es.findIdx? fun e => e.key.isStr k with
  | none =>
    rw [hi] at goal
    exact wpAny_pure goal
  | some i =>
    rw [hi] at goal
    exact wpAny_bind (wpAny_dictEntries (s := { s with toks := s.toks + 1 }) ho hd (wpAny_pure goal))
theorem tab_item {Q : Value → Shared → Prop} {d : δ} (T : KTD.TabOf R s.heap a D) (hd : KTD.datumAt k D = some d) (hQ : ∀ v, R d v → Q v { s with toks := s.toks + 1 }) :
    wpAny (model prog w) A (getItem (.ref a) (.str k tk)) Q E s := by
  have ty := tab_typeIs T
  unfold getItem
  try with_reducible refine wpAny_holding ?_
  refine wpAny_bind (wpAny_sequenceKey ty (by decide) (wpAny_bind (wpAny_callSpecial?_slot (name := Str.ofString "__getitem__") ty slot_dict_getitem (wpAny_call_entry slot_dict_getitem ty entry_dict_getitem ?_ (args_dict_getitem _ _)))))
  show wpAny _ _ (dictGet a (.str k tk) >>= _) _ _ s
  refine wpAny_bind (tab_look T (fun d' v e rv => wpAny_pure ⟨v, rfl, wpAny_pure (hQ v ?_)⟩) fun e => ?_)
  · rw [hd] at e
    rw [Option.some.inj e]; exact rv
  · rw [hd] at e; cases e
end
section
variable {X : Cx} {o i : Expr} {pos : Pos} {td ty : TE}
/-- d[k] of the module's own dict -/
def tTab (K : PySem.W.Frag) (td ty : TE) : TE := fun σ H Q => td σ H fun x H1 => ty σ H1 fun y H2 => ∃ a k D v, x = .ref a ∧ y = .str k ∧ TabK K a D ∧ valT D k = some v ∧ Q v H2
theorem pe_tab (ho : PE X o td) (hi : PE X i ty) (hs : NoSl i) : PE X (.Subscript o i pos) (tTab X.K td ty) := by
  intro pins s σ H Q I h
  refine subD_of PySem.F.slot_dict_getitem.lookup hs (thn (ho pins s σ H _ I h) fun u s1 ⟨x, H1, I1, rx, q1⟩ => thn (hi pins s1 σ H1 _ I1 q1) fun iv s2 ⟨y, H2, I2, ry, a, k, D, v, ex, ey, g, hv, q2⟩ => ?_)
  subst ex ey
  obtain rfl : u = Value.ref a := rx
  obtain ⟨t, rfl⟩ := ry
  have T := Inv.tab I2 g
  exact ⟨tab_typeIs T, tab_item T hv fun w' rw' => ⟨v, H2, I2.tok _, rw', q2⟩⟩
end
end Tb

set_option Elab.async false
set_option maxRecDepth 100000
set_option linter.all false
set_option maxHeartbeats 8000000
namespace Tb
open PySem PySem.Spec PyProof.Rows L2
section
variable {X : Cx}
/-- isinstance(x, c), c a built-in class -/
theorem call_isi : CallR X (.builtin "isinstance") (fun xs H Q => ∃ (x : V) (t : Value) (c : String) (b : Bool), xs = [x, .ty c] ∧ TyOf X.K H x t ∧ PySem.W.kitOne X.K t (.type c) = some b ∧ Q (.bl b) H) := by
  intro pins s σ H xs us Q I r h
  obtain ⟨x, t, c, b, rfl, ty, e, q⟩ := h
  obtain ⟨u, v, rfl, rx, rv⟩ := vals2 r
  cases rv
  exact isinst_ok I rx ty e fun tk => ⟨.bl b, H, I.tok tk, rfl, q⟩
end
end Tb

set_option Elab.async false
set_option maxRecDepth 100000
set_option linter.all false
set_option maxHeartbeats 8000000
namespace Tb
open PySem PySem.Spec PyProof.Rows L2
/-! ### displayed lists and dicts of written texts, over variables: the elaborator sees no long term -/
section
variable {X : Cx}
end
end Tb

set_option Elab.async false
set_option maxRecDepth 100000
set_option linter.all false
set_option maxHeartbeats 8000000
namespace Tb
open PySem PySem.Spec PyProof.Rows L2
section
variable {X : Cx}
end
end Tb

set_option Elab.async false
set_option maxRecDepth 100000
set_option linter.all false
set_option maxHeartbeats 4000000
namespace Wo
open PySem L2 TL Rl Tb
def top (i : Nat) : Stmt := PySem.Challenge.pw_dozehall_k41_moves_told_in_order.main.body.getD i (.Pass ⟨0, 0, 0, 0⟩)

abbrev sRowFits : Stmt := top 6
abbrev sLatePlace : Stmt := top 8
abbrev sWorld_init : Stmt := inClass (top 10) 0
abbrev sWorld_can : Stmt := inClass (top 10) 3
abbrev sWorld_check_plans : Stmt := inClass (top 10) 8
abbrev sWorld_row_at : Stmt := inClass (top 10) 11
abbrev sWorld_steps : Stmt := inClass (top 10) 12
abbrev sWorld_own_moves : Stmt := inClass (top 10) 13
abbrev sSleepers : Stmt := top 11
abbrev sSource : Stmt := top 13
abbrev sDraw : Stmt := top 14
abbrev sLNames : Stmt := top 15
abbrev sLNumber : Stmt := top 16
abbrev sLCount : Stmt := top 17
abbrev sLRowOf : Stmt := top 18
abbrev sLWorld : Stmt := top 19
abbrev sLAsleep : Stmt := top 20
abbrev sLRow : Stmt := top 21
abbrev sLCan : Stmt := top 22
abbrev sLWith : Stmt := top 23
abbrev sLLain : Stmt := top 24
abbrev sLMade : Stmt := top 25
abbrev sLStateOf : Stmt := top 26
abbrev sLaw : Stmt := top 27

theorem iteF' {A B : Prop} {b : Bool} (h : b = false) (q : B) : if b = true then A else B := by subst h; rw [if_neg Bool.false_ne_true]; exact q
theorem iteT' {A B : Prop} {b : Bool} (h : b = true) (q : A) : if b = true then A else B := by subst h; rw [if_pos rfl]; exact q
/-- what is asked of the text's names -/
structure Glb (mg : Str → Option Value) : Prop where
  len : mg "len" = none
  enumerate : mg "enumerate" = none
  int : mg "int" = none
  range : mg "range" = none
  dict : mg "dict" = none
  sorted : mg "sorted" = none
  isi : mg "isinstance" = none
  list : mg "list" = none
  all : mg "all" = none
  tuple : mg "tuple" = none
  max : mg "max" = none
  min : mg "min" = none
  str : mg "str" = none
  rev : mg "reversed" = none
  abs : mg "abs" = none

/-! ### a source of draws -/
structure Sb (d c n : Int) : Prop where
  d0 : 0 ≤ d
  c0 : 0 ≤ c
  c1 : c ≤ 10000000000
  n0 : 0 ≤ n
abbrev srcO (d c n : Int) : HO := .lst [.int d, .int c, .int n]
def spSource (K : PySem.W.Frag) : Sp := fun vs H Q _ => ∃ (a : Addr) (ns : List Int) (k : Int), vs = [.ref a, .int k] ∧ SqL K H a (ns.map V.int) ∧ ns.length ≤ 63 ∧ 0 ≤ k ∧ k ≤ 100 ∧ ∀ p d c, H p = none → Sb d c 0 → Q (.ref p) (upd H p (srcO d c 0))
def spDraw : Sp := fun vs H Q _ => ∃ (p : Addr) (d c n m : Int), vs = [.ref p, .int m] ∧ H p = some (srcO d c n) ∧ Sb d c n ∧ n ≤ 100000 ∧ 0 < m ∧ m.natAbs.log2 < 9000 ∧ ∀ d' r, 0 ≤ r → r < m → Sb d' c (n + 1) → Q (.int r) (upd H p (srcO d' c (n + 1)))
section
variable {P : Program} {w : World} {K : PySem.W.Frag} {mg : Str → Option Value} {base : Heap}
theorem scSource : FnScope ["_law_script", "_law_k", "_law_cell", "_law_deep"] ["_law_script", "_law_k"] (defScope sSource) := ⟨rfl, rfl, rfl, by decide +kernel, rfl, by decide +kernel, by decide +kernel⟩
theorem int_at {ns : List Int} {i : Nat} (h : i < ns.length) : ∃ z, (ns.map V.int)[i]? = some (V.int z) := ⟨ns[i], by rw [List.getElem?_map, List.getElem?_eq_getElem h]; rfl⟩
theorem ok_source {f : Addr} {fd : FuncData} (F : Fun K "_law_source" "_law_source" sSource f fd) (G : Glb mg) : FnOk P w K mg base CX0 1 f fd ["_law_script", "_law_k"] (spSource K) := by
  refine F.ok scSource (fun vs H Q E h => ?_) (fun cdv A outer s H vs Q E hr h => ?_)
  · obtain ⟨a, ns, k, rfl, _⟩ := h
    rfl
  · obtain ⟨a, ns, k, rfl, hS, hlen, k0, k1, q⟩ := h
    refine ⟨_, (pss_cons (ps_set (i := 2) scSource.nd rfl (Or.inl rfl) pe_int)
      (pss_cons (ps_set (i := 3) scSource.nd rfl (Or.inl rfl) pe_int)
      (pss_cut (ps_if (pt_cmpR op_gt (pe_callB call_len_seq (by rfl) G.len PySem.boot_len (pa_cons (pv 0) pa_nil)) pe_int (nomark _)) (pss_one (ps_set (i := 2) scSource.nd rfl (Or.inl rfl) (pe_ix ix_list (pv 0) (pe_op op_mod (pv 1) (pe_callB call_len_seq (by rfl) G.len PySem.boot_len (pa_cons (pv 0) pa_nil))) (fun _ _ => rfl)))) pss_nil)
      (pss_cut (ps_if (PW.pt (pw_and (pt_cmpR op_lt (pv 1) (pe_callB call_len_seq (by rfl) G.len PySem.boot_len (pa_cons (pv 0) pa_nil)) (nomark _)) (pw_and1 (pt_cmpR op_ge (pv 2) (pe_op op_pow pe_int pe_int) (nomark _))))) (pss_one (ps_set (i := 3) scSource.nd rfl (Or.inl rfl) (pv 2))) pss_nil)
      (pss_one (ps_ret (pe_lst (pa_cons (pv 3) (pa_cons (pe_op op_add (pe_op op_add (pe_op op_mod (pv 2) pe_int) (pe_op op_mul pe_int (pv 1))) pe_int) (pa_cons pe_int pa_nil)))))))))), ?_⟩
    refine ⟨fun σ' H' => H' = H ∧ ∃ cell : Int, σ' = [some (.ref a), some (.int k), some (.int cell), some (.int 0)], ?_, ?_⟩
    · refine ⟨_, rfl, a, _, rfl, .inl hS, _, _, rfl, rfl, _, rfl, ?_⟩
      by_cases hp : (0 : Int) < ((ns.map V.int).length : Int)
      · rw [decide_eq_true hp]
        refine iteT ?_
        have e0 := Int.emod_nonneg k (show ((ns.map V.int).length : Int) ≠ 0 by omega)
        have e1 := Int.emod_lt_of_pos k hp
        have e2 : (k % ((ns.map V.int).length : Int)).toNat < ns.length := by rw [List.length_map] at *; omega
        obtain ⟨z, hz⟩ := int_at e2
        have e3 : k % ((ns.map V.int).length : Int) = (((k % ((ns.map V.int).length : Int)).toNat : Nat) : Int) := by omega
        exact ⟨_, rfl, _, rfl, _, rfl, a, _, rfl, .inl hS, _, _, rfl, rfl, hp, a, _, _, _, rfl, rfl, hS, at_of e3 hz, rfl, z, rfl⟩
      · rw [decide_eq_false hp]
        exact iteF ⟨rfl, 0, rfl⟩
    rintro _ H1 ⟨rfl, cell, rfl⟩
    refine ⟨fun σ' H'' => H'' = H1 ∧ ∃ deep : Int, 0 ≤ deep ∧ σ' = [some (.ref a), some (.int k), some (.int cell), some (.int deep)], ?_, ?_⟩
    · refine ⟨_, rfl, _, rfl, a, _, rfl, .inl hS, _, _, rfl, rfl, _, rfl, ?_⟩
      refine ite2 (fun _ => ?_) (fun _ => ?_)
      · refine ⟨_, rfl, _, _, rfl, rfl, ⟨by decide, by decide, by decide⟩, _, _, rfl, rfl, _, rfl, ?_⟩
        by_cases hc : (10 : Int) ^ (18 : Int).toNat ≤ cell
        · rw [decide_eq_true hc]
          refine iteT ⟨_, rfl, rfl, cell, ?_, rfl⟩
          have : (10 : Int) ^ (18 : Int).toNat = 1000000000000000000 := by decide
          omega
        · rw [decide_eq_false hc]
          exact iteF ⟨rfl, 0, Int.le_refl 0, rfl⟩
      · exact iteF ⟨rfl, 0, Int.le_refl 0, rfl⟩
    rintro _ H2 ⟨rfl, deep, hd, rfl⟩
    refine ⟨_, rfl, _, rfl, _, _, rfl, rfl, (by show (0 : Int) < 2147483647; decide), _, rfl, _, _, rfl, rfl, .inl ⟨by decide, by decide⟩, _, _, rfl, rfl, _, _, rfl, rfl, (by show 3 ≤ sizeLine; rw [sizeLine_eq]; decide), fun p hp => ?_⟩
    refine q p _ _ hp ⟨hd, ?_, ?_, Int.le_refl 0⟩
    · have := Int.emod_nonneg cell (show (2147483647 : Int) ≠ 0 by decide); omega
    · have := Int.emod_lt_of_pos cell (show (0 : Int) < 2147483647 by decide); omega
end
end Wo

set_option Elab.async false
set_option maxRecDepth 100000
set_option linter.all false
set_option maxHeartbeats 8000000
namespace Wo
open PySem L2 TL Rl Tb
section
variable {P : Program} {w : World} {K : PySem.W.Frag} {mg : Str → Option Value} {base : Heap}
theorem scDraw : FnScope ["_law_source_here", "_law_many", "_law_digit", "_law_seed"] ["_law_source_here", "_law_many"] (defScope sDraw) := ⟨rfl, rfl, rfl, by decide +kernel, rfl, by decide +kernel, by decide +kernel⟩
theorem at0 (a b c : V) : atI [a, b, c] (0 : Int) = some a := atI_nat (j := 0) rfl
theorem at1 (a b c : V) : atI [a, b, c] (1 : Int) = some b := atI_nat (j := 1) rfl
theorem at2 (a b c : V) : atI [a, b, c] (2 : Int) = some c := atI_nat (j := 2) rfl
theorem pow_small {c n : Int} (h0 : 0 ≤ c) (h1 : c ≤ 10000000000) (h2 : 0 ≤ n) (h3 : n ≤ 100001) : (c + 7919 * n).natAbs < 2 ^ 64 := by
  have : (2 : Nat) ^ 64 = 18446744073709551616 := by decide
  omega
theorem ok_draw {f : Addr} {fd : FuncData} (F : Fun K "_law_draw" "_law_draw" sDraw f fd) : FnOk P w K mg base CX0 1 f fd ["_law_source_here", "_law_many"] spDraw := by
  refine F.ok scDraw (fun vs H Q E h => ?_) (fun cdv A outer s H vs Q E hr h => ?_)
  · obtain ⟨p, d, c, n, m, rfl, _⟩ := h
    rfl
  · obtain ⟨p, d, c, n, m, rfl, hp, sb, hn, hm, hl, q⟩ := h
    obtain ⟨d0, c0, c1, n0⟩ := id sb
    refine ⟨_, (pss_cons (ps_asg (pe_op op_add (pe_ix ix_list (pv 0) pe_int (fun _ _ => rfl)) pe_int) (pg_sub (pv 0) pe_int set_list))
      (pss_cons (ps_if (pt_cmpR op_gt (pe_ix ix_list (pv 0) pe_int (fun _ _ => rfl)) pe_int (nomark _)) (pss_cons (ps_set (i := 2) scDraw.nd rfl (Or.inl rfl) (pe_op op_mod (pe_ix ix_list (pv 0) pe_int (fun _ _ => rfl)) (pv 1)))
      (pss_cons (ps_asg (pe_op op_fdivL (pe_ix ix_list (pv 0) pe_int (fun _ _ => rfl)) (pv 1)) (pg_sub (pv 0) pe_int set_list))
      (pss_one (ps_ret (pv 2))))) pss_nil)
      (pss_cons (ps_set (i := 3) scDraw.nd rfl (Or.inl rfl) (pe_op op_mod (pe_op op_pow (pe_op op_add (pe_ix ix_list (pv 0) pe_int (fun _ _ => rfl)) (pe_op op_mul pe_int (pe_ix ix_list (pv 0) pe_int (fun _ _ => rfl)))) pe_int) pe_int))
      (pss_one (ps_ret (pe_op op_mod (pe_op op_fdiv (pe_op op_mod (pe_op op_mul (pe_op op_add (pv 3) (pe_ix ix_list (pv 0) pe_int (fun _ _ => rfl))) pe_int) pe_int) pe_int) (pv 1))))))), ?_⟩
    have h1 : (upd H p (srcO d c (n + 1))) p = some (srcO d c (n + 1)) := upd_same
    refine ⟨_, rfl, _, _, _, _, rfl, rfl, SqL.of hp, at2 _ _ _, _, _, rfl, rfl, _, rfl, p, _, _, 2, rfl, rfl, hp, rfl, ?_⟩
    show tSeq _ _ _ _ (upd H p (srcO d c (n + 1)))
    refine ⟨_, rfl, _, _, _, _, rfl, rfl, SqL.of h1, at0 _ _ _, _, _, rfl, rfl, _, rfl, ?_⟩
    refine ite2 (fun hd => ?_) (fun hd => ?_)
    · have r0 := Int.emod_nonneg d (show m ≠ 0 by omega)
      have r1 := Int.emod_lt_of_pos d hm
      refine ⟨_, rfl, _, _, _, _, rfl, rfl, SqL.of h1, at0 _ _ _, _, rfl, _, _, rfl, rfl, hm, ?_⟩
      refine ⟨_, rfl, _, _, _, _, rfl, rfl, SqL.of h1, at0 _ _ _, _, rfl, _, _, rfl, rfl, ⟨hm, hl⟩, _, rfl, p, _, _, 0, rfl, rfl, h1, rfl, _, rfl, ?_⟩
      have e : upd (upd H p (srcO d c (n + 1))) p (srcO (d / m) c (n + 1)) = upd H p (srcO (d / m) c (n + 1)) := upd_upd
      show Q (V.int (d % m)) (upd (upd H p (srcO d c (n + 1))) p (srcO (d / m) c (n + 1)))
      rw [e]
      exact q _ _ r0 r1 ⟨Int.ediv_nonneg d0 (Int.le_of_lt hm), c0, c1, by omega⟩
    · refine ⟨_, rfl, _, _, _, _, rfl, rfl, SqL.of h1, at1 _ _ _, _, rfl, _, _, _, _, rfl, rfl, SqL.of h1, at2 _ _ _, _, _, rfl, rfl, .inl ⟨by decide, by decide⟩, _, _, rfl, rfl, _, _, rfl, rfl, ⟨by decide, by decide, pow_small c0 c1 (by omega) (by omega)⟩, _, _, rfl, rfl, (by show (0 : Int) < 2147483647; decide), ?_⟩
      refine ⟨_, rfl, _, rfl, _, _, _, _, rfl, rfl, SqL.of h1, at2 _ _ _, _, _, rfl, rfl, _, _, rfl, rfl, .inr ⟨by decide, by decide⟩, _, _, rfl, rfl, (by show (0 : Int) < 2147483629; decide), _, _, rfl, rfl, ⟨by decide, by decide⟩, _, rfl, _, _, rfl, rfl, hm, ?_⟩
      exact q _ _ (Int.emod_nonneg _ (by omega)) (Int.emod_lt_of_pos _ hm) ⟨d0, c0, c1, by omega⟩

end
structure Dw (H H' : Hp) (p : Addr) (d c n : Int) : Prop where
  src : H' p = some (srcO d c n)
  sb : Sb d c n
  k : ∀ b o, H b = some o → b ≠ p → H' b = some o
theorem Dw.draw {H H' : Hp} {p : Addr} {d c n d' n' : Int} (x : Dw H H' p d c n) (s : Sb d' c n') : Dw H (upd H' p (srcO d' c n')) p d' c n' := ⟨upd_same, s, fun b o e hb => by rw [upd_ne hb]; exact x.k b o e hb⟩
theorem Dw.new {H H' : Hp} {p l : Addr} {d c n : Int} {o : HO} (x : Dw H H' p d c n) (h : H' l = none) : Dw H (upd H' l o) p d c n := ⟨by rw [upd_ne (ne_of_none x.src h)]; exact x.src, x.sb, fun b o e hb => by rw [upd_ne (ne_of_none (x.k b o e hb) h)]; exact x.k b o e hb⟩
theorem Dw.trans {H H1 H2 : Hp} {p : Addr} {d c n d' n' : Int} (x : Dw H H1 p d c n) (y : Dw H1 H2 p d' c n') : Dw H H2 p d' c n' := ⟨y.src, y.sb, fun b o e hb => y.k b o (x.k b o e hb) hb⟩
theorem Dw.refl {H : Hp} {p : Addr} {d c n : Int} (h : H p = some (srcO d c n)) (s : Sb d c n) : Dw H H p d c n := ⟨h, s, fun _ _ e _ => e⟩
theorem log_small {m : Int} (h0 : 0 < m) (h : m ≤ 1000000000) : m.natAbs.log2 < 9000 := by
  refine Nat.lt_of_lt_of_le (m := 40) ?_ (by decide)
  rw [Nat.log2_lt (by omega)]
  have e : (2 : Nat) ^ 40 = 1099511627776 := by decide
  rw [e]; omega
end Wo

set_option Elab.async false
set_option maxRecDepth 100000
set_option linter.all false
set_option maxHeartbeats 4000000
namespace Wo
open PySem L2 Rl Tb
open TL (tl tl_append join_eq tl_join joinL)
/-! ### texts -/
theorem cut_two (z : Str) {a : Int} (h : 0 ≤ a) : (cutS z none (some a)).length + (cutS z (some a) none).length = z.length := by
  obtain ⟨k, rfl⟩ := Int.eq_ofNat_of_zero_le h
  show (((z.cps.toList.drop (HT.sIx z.length 0 none)).take (HT.sIx z.length z.length (some (k : Int)) - HT.sIx z.length 0 none)).toArray).size + (((z.cps.toList.drop (HT.sIx z.length 0 (some (k : Int)))).take (HT.sIx z.length z.length none - HT.sIx z.length 0 (some (k : Int)))).toArray).size = z.cps.size
  rw [HT.sIx_nat, HT.sIx_nat, HT.sIx_none, HT.sIx_none, List.size_toArray, List.size_toArray, List.length_take, List.length_take, List.length_drop, List.length_drop, Array.length_toList]
  have : z.length = z.cps.size := rfl
  omega
theorem len_tl (x : Str) : x.length = (tl x).length := TL.len_tl x
theorem app_len (x y : Str) : (x ++ y).length = x.length + y.length := by rw [len_tl, len_tl, len_tl, tl_append, List.length_append]
theorem join_len : ∀ (ys : List Str), (∀ y ∈ ys, y.length = 1) → (Txt.join "" ys).length = ys.length := by
  intro ys h
  rw [len_tl, join_eq, tl_join]
  have e0 : tl ("" : Str) = [] := by decide +kernel
  rw [e0]
  induction ys with
  | nil => rfl
  | cons x r ih =>
    have hx : x.length = 1 := h x List.mem_cons_self
    have hr := ih fun y hy => h y (List.mem_cons_of_mem _ hy)
    cases r with
    | nil => show (tl x).length = 1; rw [← len_tl]; exact hx
    | cons z r =>
      show (tl x ++ ([] ++ joinL [] ((z :: r).map tl))).length = (z :: r).length + 1
      rw [List.length_append, List.nil_append, hr, ← len_tl, hx]
      exact Nat.add_comm _ _
/-- all signs are signs -/
def Lo (x : Str) : Prop := ∀ c ∈ tl x, c < 0x110000
theorem Lo.app {x y : Str} (h1 : Lo x) (h2 : Lo y) : Lo (x ++ y) := fun c hc => by
  rw [tl_append] at hc
  rcases List.mem_append.mp hc with hc | hc
  · exact h1 c hc
  · exact h2 c hc
theorem Lo.cut {x : Str} {lo hi : Option Int} (h : Lo x) : Lo (cutS x lo hi) := fun c hc => by
  have hc : c ∈ ((x.cps.toList.drop (HT.sIx x.length 0 lo)).take (HT.sIx x.length x.length hi - HT.sIx x.length 0 lo)) := by
    have e : tl (cutS x lo hi) = ((x.cps.toList.drop (HT.sIx x.length 0 lo)).take (HT.sIx x.length x.length hi - HT.sIx x.length 0 lo)) := by
      show (List.toArray _).toList = _
      rfl
    rw [e] at hc; exact hc
  exact h c ((List.drop_sublist _ _).subset ((List.take_sublist _ _).subset hc))
theorem Lo.join : ∀ {ys : List Str}, (∀ y ∈ ys, Lo y) → Lo (Txt.join "" ys) := fun {ys} h c hc => by
  rw [join_eq, tl_join] at hc
  have e0 : tl ("" : Str) = [] := by decide +kernel
  rw [e0] at hc
  have key : ∀ (zs : List Str), (∀ y ∈ zs, Lo y) → ∀ c ∈ joinL [] (zs.map tl), c < 0x110000 := fun zs => by
    induction zs with
    | nil => intro _ c hc; cases hc
    | cons x r ih =>
      intro h c hc
      cases r with
      | nil => exact h x List.mem_cons_self c hc
      | cons z r =>
        rcases List.mem_append.mp (show c ∈ tl x ++ ([] ++ joinL [] ((z :: r).map tl)) from hc) with hc | hc
        · exact h x List.mem_cons_self c hc
        · exact ih (fun y hy => h y (List.mem_cons_of_mem _ hy)) c (by rw [List.nil_append] at hc; exact hc)
  exact key ys h c hc
theorem Lo.one {c : Nat} (h : c < 0x110000) : Lo ⟨#[c]⟩ := fun d hd => by
  have : d = c := by simpa [tl] using hd
  rw [this]; exact h
abbrev letters : Str := "abcdefghijklmnopqrstuvwxyz"
theorem letters_len : letters.length = 26 := by decide +kernel
theorem letters_lo : ∀ c ∈ letters.cps.toList, c < 0x110000 := by decide +kernel
theorem lo_nil : Lo "" := fun c hc => by
  have e : tl ("" : Str) = [] := by decide +kernel
  rw [e] at hc; cases hc
theorem letter_at {i : Int} (h0 : 0 ≤ i) (h1 : i < 26) : ∃ c, atI letters.cps.toList i = some c ∧ c < 0x110000 := by
  obtain ⟨k, rfl⟩ := Int.eq_ofNat_of_zero_le h0
  have h26 : letters.cps.size = 26 := letters_len
  have hk : k < letters.cps.toList.length := by rw [Array.length_toList]; omega
  exact ⟨letters.cps.toList[k], atI_nat (List.getElem?_eq_getElem hk), letters_lo _ (List.getElem_mem hk)⟩
/-- the word that is tried at j -/
def Wd (x y : Str) (f : Int) (j : Nat) (w : Str) : Prop := ∃ ch, atI letters.cps.toList ((f + (j : Int)) % 26) = some ch ∧ w = x ++ ⟨#[ch]⟩ ++ y
theorem letters_nd : letters.cps.toList.Nodup := by decide +kernel
theorem Wd.inj {x y w : Str} {f : Int} {i j : Nat} (hi : i < 26) (hj : j < 26) (h1 : Wd x y f i w) (h2 : Wd x y f j w) : i = j := by
  obtain ⟨c1, a1, e1⟩ := h1
  obtain ⟨c2, a2, e2⟩ := h2
  have e : c1 = c2 := by
    have := congrArg tl (e1.symm.trans e2)
    rw [tl_append, tl_append, tl_append, tl_append, List.append_assoc, List.append_assoc] at this
    have := List.append_cancel_left this
    have h : tl (⟨#[c1]⟩ : Str) ++ tl y = tl (⟨#[c2]⟩ : Str) ++ tl y := this
    have := List.append_cancel_right h
    simpa [tl] using this
  subst e
  have m0 := Int.emod_nonneg (f + (i : Int)) (show (26 : Int) ≠ 0 by decide)
  have m1 := Int.emod_lt_of_pos (f + (i : Int)) (show (0 : Int) < 26 by decide)
  have k0 := Int.emod_nonneg (f + (j : Int)) (show (26 : Int) ≠ 0 by decide)
  have k1 := Int.emod_lt_of_pos (f + (j : Int)) (show (0 : Int) < 26 by decide)
  generalize hu : (f + (i : Int)) % 26 = u at a1 m0 m1
  generalize hv : (f + (j : Int)) % 26 = v at a2 k0 k1
  obtain ⟨a, rfl⟩ := Int.eq_ofNat_of_zero_le m0
  obtain ⟨b, rfl⟩ := Int.eq_ofNat_of_zero_le k0
  have h26 : letters.cps.size = 26 := letters_len
  have la : a < letters.cps.toList.length := by rw [Array.length_toList]; omega
  have lb : b < letters.cps.toList.length := by rw [Array.length_toList]; omega
  rw [atI_nat (List.getElem?_eq_getElem la)] at a1
  rw [atI_nat (List.getElem?_eq_getElem lb)] at a2
  have : a = b := (List.getElem?_inj la letters_nd).mp (by rw [List.getElem?_eq_getElem la, List.getElem?_eq_getElem lb, a1, a2])
  omega
theorem nd_le {α : Type} [BEq α] [LawfulBEq α] : ∀ {xs ys : List α}, xs.Nodup → (∀ x ∈ xs, x ∈ ys) → xs.length ≤ ys.length
  | [], _, _, _ => Nat.zero_le _
  | x :: xs, ys, nd, h => by
    obtain ⟨n1, n2⟩ := List.nodup_cons.mp nd
    have hx := h x List.mem_cons_self
    have := nd_le (ys := ys.erase x) n2 fun z hz => (List.mem_erase_of_ne (fun (e : z = x) => n1 (by rw [← e]; exact hz))).mpr (h z (List.mem_cons_of_mem _ hz))
    rw [List.length_erase_of_mem hx] at this
    have pos : 0 < ys.length := List.length_pos_of_mem hx
    rw [List.length_cons]; omega
theorem inV_strs {x : Str} : ∀ {ss : List Str}, inV (.str x) (ss.map V.str) = decide (x ∈ ss)
  | [] => by simp [inV]
  | s :: r => by
    have ih := inV_strs (x := x) (ss := r)
    unfold inV at ih ⊢
    rw [List.map_cons, List.any_cons, ih]
    show ((s == x) || decide (x ∈ r)) = decide (x ∈ s :: r)
    by_cases e : s = x
    · subst e; simp
    · have : (s == x) = false := by simpa using e
      rw [this, Bool.false_or]
      by_cases h : x ∈ r
      · simp [h]
      · rw [decide_eq_false h, decide_eq_false]
        intro z
        rcases List.mem_cons.mp z with z | z
        · exact e z.symm
        · exact h z

section
variable {P : Program} {w : World} {K : PySem.W.Frag} {mg : Str → Option Value} {base : Heap}
/-- what holds of the heap while the names are drawn -/
structure NmH (H0 H : Hp) (p l : Addr) (d c n : Int) (ss : List Str) : Prop where
  kp : ∀ b o, H0 b = some o → b ≠ p → H b = some o
  src : H p = some (srcO d c n)
  sb : Sb d c n
  ls : H l = some (.lst (ss.map V.str))
  ok : ∀ x ∈ ss, x.length ≤ 7
  nd : ss.Nodup
  nn : ∀ x ∈ ss, x ≠ ""
  so : ∀ x ∈ ss, Lo x
theorem NmH.draw {H0 H : Hp} {p l : Addr} {d c n d' n' : Int} {ss : List Str} (x : NmH H0 H p l d c n ss) (ne : l ≠ p) (sb : Sb d' c n') : NmH H0 (upd H p (srcO d' c n')) p l d' c n' ss :=
  ⟨fun b o e hb => by rw [upd_ne hb]; exact x.kp b o e hb, upd_same, sb, by rw [upd_ne ne]; exact x.ls, x.ok, x.nd, x.nn, x.so⟩
theorem NmH.set {H0 H : Hp} {p l D : Addr} {d c n : Int} {ss : List Str} {o : HO} (x : NmH H0 H p l d c n ss) (h1 : D ≠ p) (h2 : D ≠ l) (h3 : H0 D = none) : NmH H0 (upd H D o) p l d c n ss :=
  ⟨fun b o' e hb => by rw [upd_ne (ne_of_none e h3)]; exact x.kp b o' e hb, by rw [upd_ne h1.symm]; exact x.src, x.sb, by rw [upd_ne h2.symm]; exact x.ls, x.ok, x.nd, x.nn, x.so⟩
theorem NmH.free {H0 H : Hp} {p l D : Addr} {d c n : Int} {ss : List Str} (x : NmH H0 H p l d c n ss) (h : H D = none) (h1 : D ≠ p) : H0 D = none := by
  cases e : H0 D with
  | none => rfl
  | some o => rw [x.kp D o e h1] at h; cases h
def spNames : Sp := fun vs H Q _ => ∃ (p : Addr) (d c n m : Int), vs = [.ref p, .int m] ∧ H p = some (srcO d c n) ∧ Sb d c n ∧ n ≤ 100 ∧ 0 ≤ m ∧ m ≤ 12 ∧
  ∀ l d' n' ss H', H l = none → n' ≤ n + 200 → NmH H H' p l d' c n' ss → (ss.length : Int) = m → Q (.ref l) H'
theorem scNames : FnScope ["_law_source_here", "_law_many", "_law_letters", "_law_made_here", "_law_body", "_law_alike", "_law_k", "_law_j", "_law_at", "_law_first", "_law_found", "_law_word"] ["_law_source_here", "_law_many"] (defScope sLNames) := ⟨rfl, rfl, rfl, by decide +kernel, rfl, by decide +kernel, by decide +kernel⟩
abbrev nst (p : Addr) (m : Int) (l : Addr) (body : Str) (al : Bool) (v6 v7 v8 v9 v10 v11 : Option V) : St := [some (.ref p), some (.int m), some (.str letters), some (.ref l), some (.str body), some (.bl al), v6, v7, v8, v9, v10, v11]
theorem flat_strs {ss : List Str} : (ss.map V.str).all flatV = true := List.all_eq_true.mpr fun v h => by
  obtain ⟨x, _, rfl⟩ := List.mem_map.mp h
  rfl
theorem ok_names {f fD : Addr} {fd fdD : FuncData} (F : Fun K "_law_names" "_law_names" sLNames f fd) (G : Glb mg) (GD : FnOk P w K mg base CX0 1 fD fdD ["_law_source_here", "_law_many"] spDraw) (mgD : mg "_law_draw" = some (.ref fD)) (kpD : PySem.W.keepIn K (.ref fD) = true) (bD : Binds K fdD ["_law_source_here", "_law_many"] []) :
    FnOk P w K mg base CX0 2 f fd ["_law_source_here", "_law_many"] spNames := by
  refine F.ok scNames (fun vs H Q E h => ?_) (fun cdv A outer s H vs Q E hr h => ?_)
  · obtain ⟨p, d, c, n, m, rfl, _⟩ := h
    rfl
  · obtain ⟨p, d, c, n, m, rfl, hp, sb, hn, m0, m1, q⟩ := h
    refine ⟨_, (pss_cons (ps_set (i := 2) scNames.nd rfl (Or.inr rfl) pe_str)
      (pss_cons (ps_set (i := 3) scNames.nd rfl (Or.inl rfl) (pe_lst pa_nil))
      (pss_cons (ps_set (i := 4) scNames.nd rfl (Or.inl rfl) pe_str)
      (pss_cons (ps_set (i := 5) scNames.nd rfl (Or.inl rfl) (pe_cmpR op_eq (pe_call GD hr (by rfl) mgD kpD bD .nil pass0 (pa_cons (pv 0) (pa_cons pe_int pa_nil))) pe_int (nomark _)))
      (pss_cons (ps_for PassesOwn.never rfl (pi_range1 rfl G.range (pa_cons (pv 1) pa_nil)) (pg_name (i := 6) scNames.nd rfl (Or.inl rfl)) (pss_cut (ps_if (PW.pt (pw_or (pt_not (pt_val (pv 5))) (pw_or1 (pt_cmpR op_eq (pv 6) pe_int (nomark _))))) (pss_one (ps_set (i := 4) scNames.nd rfl (Or.inl rfl) (pe_join pe_str (pe_lc (own := [("_law_j", 7)]) (g := gName 7) (by rfl) scNames.nd (pi_range1 rfl G.range (pa_cons (pe_call GD hr (by rfl) mgD kpD bD .nil pass0 (pa_cons (pv 0) (pa_cons pe_int pa_nil))) pa_nil)) (blkOk_by (own := [("_law_j", 7)]) (N := ["_law_source_here", "_law_many", "_law_letters", "_law_made_here", "_law_body", "_law_alike", "_law_k", "_law_j", "_law_at", "_law_first", "_law_found", "_law_word"]) (sc := defScope sLNames) (by decide +kernel)) (fun _ _ _ _ _ => pg_name (i := 7) scNames.nd rfl (Or.inl rfl)) (fun _ _ _ _ _ => pts_nil) (fun _ _ _ _ _ => (pe_ix ix_str (pv 2) (pe_call GD hr (by rfl) mgD kpD bD .nil pass0 (pa_cons (pv 0) (pa_cons pe_int pa_nil))) (fun _ _ => rfl))))))) pss_nil)
      (pss_cons (ps_set (i := 8) scNames.nd rfl (Or.inl rfl) (pe_call GD hr (by rfl) mgD kpD bD .nil pass0 (pa_cons (pv 0) (pa_cons (pe_op op_add (pe_callB call_len_str (by rfl) G.len PySem.boot_len (pa_cons (pv 4) pa_nil)) pe_int) pa_nil))))
      (pss_cons (ps_set (i := 9) scNames.nd rfl (Or.inl rfl) (pe_call GD hr (by rfl) mgD kpD bD .nil pass0 (pa_cons (pv 0) (pa_cons pe_int pa_nil))))
      (pss_cons (ps_set (i := 10) scNames.nd rfl (Or.inl rfl) pe_str)
      (pss_cons (ps_for PassesOwn.never rfl (pi_range1 rfl G.range (pa_cons pe_int pa_nil)) (pg_name (i := 7) scNames.nd rfl (Or.inl rfl)) (pss_cons (ps_set (i := 11) scNames.nd rfl (Or.inl rfl) (pe_op op_add_str (pe_op op_add_str (pe_slice sl_str (pv 4) po_none (po_some (pv 8))) (pe_ix ix_str (pv 2) (pe_op op_mod (pe_op op_add (pv 9) (pv 7)) pe_int) (fun _ _ => rfl))) (pe_slice sl_str (pv 4) (po_some (pv 8)) po_none)))
      (pss_one (ps_if (PW.pt (pw_and (pt_cmpR op_eq (pv 10) pe_str (nomark _)) (pw_and1 (pt_cmpR op_notIn_seq (pv 11) (pv 3) (by rfl))))) (pss_one (ps_set (i := 10) scNames.nd rfl (Or.inl rfl) (pv 11))) pss_nil))))
      (pss_one (ps_expr (pe_bm PySem.F.plainAttrs_list PySem.F.slot_list_append PySem.F.type_list_append mt_append (pv 3) (pa_cons (pv 10) pa_nil))))))))))
      (pss_one (ps_ret (pv 3)))))))), ?_⟩
    -- made = []
    refine ⟨Nat.zero_le _, fun l hl => ?_⟩
    have ne : l ≠ p := fun z => by rw [z, hp] at hl; cases hl
    have x0 : NmH H (upd H l (.lst [])) p l d c n [] := ⟨fun b o e _ => by rw [upd_ne (ne_of_none e hl)]; exact e, by rw [upd_ne ne.symm]; exact hp, sb, upd_same, (fun _ z => nomatch z), List.nodup_nil, (fun _ z => nomatch z), (fun _ z => nomatch z)⟩
    -- alike
    refine ⟨_, rfl, p, d, c, n, 2, rfl, x0.src, sb, by omega, by decide, log_small (by decide) (by decide), fun d1 r1 _ _ sb1 => ?_⟩
    have x1 := x0.draw ne sb1
    refine ⟨rfl, ?_⟩
    generalize decide (V.int r1 = V.int 1) = al
    -- for k in range(many)
    refine ⟨_, rfl, m, rfl, (by have : (2 : Int) ^ 62 = 4611686018427387904 := by decide
                                omega), (by have : (2 : Int) ^ 62 = 4611686018427387904 := by decide
                                            omega), for_range (lo := 0) (n := m.toNat) (fun i σ H2 => ∃ body v6 v7 v8 v9 v10 v11 d2 n2 ss, σ = nst p m l body al v6 v7 v8 v9 v10 v11 ∧ NmH H H2 p l d2 c n2 ss ∧ n2 ≤ n + 1 + 9 * i ∧ ss.length = i ∧ body.length ≤ 6 ∧ Lo body)
      ⟨"", none, none, none, none, none, none, d1, n + 1, [], rfl, x1, by omega, rfl, by decide +kernel, lo_nil⟩ ?_ ?_⟩
    · rintro i _ H2 hi ⟨body, v6, v7, v8, v9, v10, v11, d2, n2, ss, rfl, x2, hn2, hss, hb, lb⟩
      have i8 : i < 12 := by omega
      -- if not alike or k == 0: body = ..
      refine ⟨fun σ' H3 => ∃ body v7 d3 n3, σ' = nst p m l body al (some (.int (0 + (i : Int)))) v7 v8 v9 v10 v11 ∧ NmH H H3 p l d3 c n3 ss ∧ n3 ≤ n2 + 7 ∧ body.length ≤ 6 ∧ Lo body, ?_, ?_⟩
      · skip
        have mk : ∀ (Qn : St → Hp → Prop), (∀ body v7 d3 n3 H3, NmH H H3 p l d3 c n3 ss → n3 ≤ n2 + 7 → body.length ≤ 6 → Lo body → Qn (nst p m l body al (some (.int (0 + (i : Int)))) v7 v8 v9 v10 v11) H3) →
            tAsg (tM1 (fun x xs H Q => ∃ a p, ∃ ys : List Str, x = .str a ∧ xs = [.ref p] ∧ (SqL K H p (ys.map V.str) ∨ SqT K H p (ys.map V.str)) ∧ (ys.map (·.length)).sum + ys.length * a.length ≤ 16777216 ∧ Q (.str (Txt.join a ys)) H) (tC (.str "")) (tLc (iRng1 (tCons (tCall spDraw [] E0 (tCons (tVar 0) (tCons (tC (.int 7)) tNil))) tNil)) (gName 7) tYes (tOp rIxS (tVar 2) (tCall spDraw [] E0 (tCons (tVar 0) (tCons (tC (.int 26)) tNil)))) [7])) (gName 4) { nx := Qn, rt := fun _ _ => False } (nst p m l body al (some (.int (0 + (i : Int)))) v7 v8 v9 v10 v11) H2 := by
          intro Qn k
          refine ⟨⟨_, rfl⟩, _, rfl, p, d2, c, n2, 7, rfl, x2.src, x2.sb, by omega, by decide, log_small (by decide) (by decide), fun d3 r3 z0 z1 sb3 => ?_⟩
          have x3 := x2.draw ne sb3
          refine ⟨r3, rfl, by omega, by omega, fun D hD => ?_⟩
          have nDp : D ≠ p := (ne_of_none x3.src hD).symm
          have nDl : D ≠ l := (ne_of_none x3.ls hD).symm
          have hD0 : H D = none := x3.free hD nDp
          refine lc_range (lo := 0) (n := r3.toNat) (fun j H3 => ∃ (ys : List Str) (d4 n4 : Int), NmH H H3 p l d4 c n4 ss ∧ n4 ≤ n2 + 1 + j ∧ H3 D = some (.lst (ys.map V.str)) ∧ ys.length = j ∧ (∀ y ∈ ys, y.length = 1) ∧ ∀ y ∈ ys, Lo y) ⟨[], d3, n2 + 1, x3.set nDp nDl hD0, by omega, upd_same, rfl, (fun _ z => nomatch z), fun _ z => nomatch z⟩ ?_ ?_
          · rintro j H3 hj ⟨ys, d4, n4, x4, hn4, h4, hl4, h1, h9⟩
            refine ⟨rfl, ?_⟩
            dsimp only [tYes]
            refine iteT ?_
            refine ⟨_, rfl, _, rfl, p, d4, c, n4, 26, rfl, x4.src, x4.sb, by omega, by decide, log_small (by decide) (by decide), fun d5 r5 y0 y1 sb5 => ?_⟩
            obtain ⟨ch, hch, hlo⟩ := letter_at y0 y1
            have x5 := x4.draw ne sb5
            refine ⟨_, _, ch, rfl, rfl, (by show letters.length ≤ sizeLine; rw [letters_len, sizeLine_eq]; decide), hch, ys.map V.str, (by rw [upd_ne nDp]; exact h4), (by rw [List.length_map, hl4, sizeLine_eq]; omega), ys ++ [⟨#[ch]⟩], d5, n4 + 1, x5.set nDp nDl hD0, by omega, ?_, by rw [List.length_append, hl4]; rfl, (fun y hy => ?_), fun y hy => ?_⟩
            · rw [upd_same, List.map_append]; rfl
            · rcases List.mem_append.mp hy with z | z
              · exact h1 y z
              · rw [List.mem_singleton.mp z]; rfl
            · rcases List.mem_append.mp hy with z | z
              · exact h9 y z
              · rw [List.mem_singleton.mp z]; exact Lo.one hlo
          · rintro H3 ⟨ys, d4, n4, x4, hn4, h4, hl4, h1, h9⟩
            have e1 : (ys.map (·.length)).sum = ys.length := by
              clear h4 hl4 h9
              induction ys with
              | nil => rfl
              | cons y r ih =>
                rw [List.map_cons, List.sum_cons, ih fun z hz => h1 z (List.mem_cons_of_mem _ hz), h1 y List.mem_cons_self, List.length_cons]
                exact Nat.add_comm _ _
            refine ⟨_, D, ys, rfl, rfl, .inl (SqL.of h4), ?_, ?_⟩
            · rw [e1]
              have : ("" : Str).length = 0 := by decide +kernel
              rw [this]; omega
            · exact k _ _ d4 n4 H3 x4 (by omega) (by rw [join_len ys h1]; omega) (Lo.join h9)
        refine ⟨_, rfl, al, rfl, ?_⟩
        cases al with
        | false => exact iteT (iteT (mk _ fun body v7 d3 n3 H3 x n' b' c' => ⟨body, v7, d3, n3, rfl, x, n', b', c'⟩))
        | true =>
          refine iteF ⟨_, rfl, rfl, _, rfl, ?_⟩
          refine ite2 (fun _ => ?_) (fun _ => ?_)
          · exact mk _ fun body v7 d3 n3 H3 x n' b' c' => ⟨body, v7, d3, n3, rfl, x, n', b', c'⟩
          · exact ⟨body, v7, d2, n2, rfl, x2, by omega, hb, lb⟩
      · rintro _ H3 ⟨body, v7, d3, n3, rfl, x3, hn3, hb, lb⟩
        -- at = draw(len(body) + 1); first = draw(26)
        refine ⟨_, rfl, _, rfl, _, rfl, (by rw [sizeLine_eq]; omega), _, _, rfl, rfl, p, d3, c, n3, _, rfl, x3.src, x3.sb, by omega, (by show (0 : Int) < (body.length : Int) + 1; omega), log_small (by show (0 : Int) < (body.length : Int) + 1; omega) (by show (body.length : Int) + 1 ≤ _; omega), fun d4 at4 a0 a1 sb4 => ?_⟩
        have x4 := x3.draw ne sb4
        refine ⟨_, rfl, p, d4, c, n3 + 1, 26, rfl, x4.src, sb4, by omega, by decide, log_small (by decide) (by decide), fun d5 f5 f0 f1 sb5 => ?_⟩
        have x5 := x4.draw ne sb5
        generalize upd (upd H3 p (srcO d4 c (n3 + 1))) p (srcO d5 c (n3 + 1 + 1)) = H5 at x5
        -- for j in range(26)
        refine ⟨26, rfl, by decide, by decide, for_range (lo := 0) (n := 26) (fun j σ H6 => H6 = H5 ∧ ∃ found v7 v11, σ = nst p m l body al (some (.int (0 + (i : Int)))) v7 (some (.int at4)) (some (.int f5)) (some (.str found)) v11 ∧ found.length ≤ 7 ∧ (found ≠ "" → found ∉ ss ∧ Lo found) ∧ (found = "" → ∃ ws : List Str, ws.length = j ∧ ws.Nodup ∧ ∀ w ∈ ws, w ∈ ss ∧ ∃ j' < j, Wd (cutS body none (some at4)) (cutS body (some at4) none) f5 j' w))
          ⟨rfl, "", v7, v11, rfl, by decide +kernel, fun z => absurd rfl z, fun _ => ⟨[], rfl, List.nodup_nil, fun _ z => nomatch z⟩⟩ ?_ ?_⟩
        · rintro j _ H6 hj ⟨rfl, found, v7', v11', rfl, hf, hf1, hf2⟩
          have g0 : 0 ≤ (f5 + (0 + (j : Int))) % 26 := Int.emod_nonneg _ (by decide)
          have g1 : (f5 + (0 + (j : Int))) % 26 < 26 := Int.emod_lt_of_pos _ (by decide)
          obtain ⟨ch, hch, hlo⟩ := letter_at g0 g1
          have c2 := cut_two body a0
          have one : (⟨#[ch]⟩ : Str).length = 1 := rfl
          have big : (26 : Nat) ≤ sizeLine := by rw [sizeLine_eq]; decide
          refine ⟨_, rfl, _, rfl, _, rfl, _, rfl, (by omega), _, rfl, _, rfl, _, rfl, _, _, rfl, rfl, _, _, rfl, rfl, (by show (0 : Int) < 26; decide), _, _, ch, rfl, rfl, (by show letters.length ≤ sizeLine; rw [letters_len]; exact big), hch, _, _, rfl, rfl, (by rw [one]; omega), _, rfl, _, rfl, _, rfl, _, rfl, (by omega), _, _, rfl, rfl, (by rw [app_len, one]; omega), ?_⟩
          refine ⟨_, rfl, rfl, _, rfl, ?_⟩
          have wd : Wd (cutS body none (some at4)) (cutS body (some at4) none) f5 j (cutS body none (some at4) ++ ⟨#[ch]⟩ ++ cutS body (some at4) none) := ⟨ch, by rw [Int.zero_add] at hch; exact hch, rfl⟩
          refine ite2 (fun hfe => ?_) (fun hfe => ?_)
          · have hfe : found = "" := by
              have := of_decide_eq_true hfe
              injection this
            refine ⟨_, rfl, _, rfl, l, _, rfl, .inl (SqL.of x5.ls), rfl, flat_strs, _, rfl, ?_⟩
            obtain ⟨ws, w1, w2, w3⟩ := hf2 hfe
            have key : (!inV (V.str (cutS body none (some at4) ++ ⟨#[ch]⟩ ++ cutS body (some at4) none)) (ss.map V.str)) = decide ((cutS body none (some at4) ++ ⟨#[ch]⟩ ++ cutS body (some at4) none) ∉ ss) := by rw [inV_strs]; simp
            by_cases hin : (cutS body none (some at4) ++ ⟨#[ch]⟩ ++ cutS body (some at4) none) ∈ ss
            · refine iteF' (key.trans (decide_eq_false (not_not_intro hin))) ?_
              refine ⟨rfl, found, _, _, rfl, hf, hf1, fun _ => ⟨ws ++ [cutS body none (some at4) ++ ⟨#[ch]⟩ ++ cutS body (some at4) none], by rw [List.length_append, w1]; rfl, ?_, fun w hw => ?_⟩⟩
              · rw [List.nodup_append]
                refine ⟨w2, by simp, fun a ha b hb e => ?_⟩
                rw [List.mem_singleton.mp hb] at e
                obtain ⟨_, j', hj', hw'⟩ := w3 a ha
                have := Wd.inj (by omega) (by omega) hw' (e ▸ wd)
                omega
              · rcases List.mem_append.mp hw with hw | hw
                · obtain ⟨h1, j', hj', hw'⟩ := w3 w hw
                  exact ⟨h1, j', by omega, hw'⟩
                · rw [List.mem_singleton.mp hw]; exact ⟨hin, j, by omega, wd⟩
            · refine iteT' (key.trans (decide_eq_true hin)) ?_
              refine ⟨_, rfl, rfl, _, _, _, rfl, by rw [app_len, app_len, one]; omega, (fun _ => ⟨hin, (lb.cut.app (Lo.one hlo)).app lb.cut⟩), fun z => ?_⟩
              have := congrArg Str.length z
              rw [app_len, app_len, one] at this
              have e0 : ("" : Str).length = 0 := by decide +kernel
              omega
          · exact iteF ⟨rfl, found, _, _, rfl, hf, hf1, fun z => absurd (decide_eq_true (by rw [z])) hfe⟩
        · rintro _ H6 ⟨rfl, found, v7', v11', rfl, hf, hf1, hf2⟩
          have hf0 : found ≠ "" := fun z => by
            obtain ⟨ws, w1, w2, w3⟩ := hf2 z
            have := nd_le w2 fun w hw => (w3 w hw).1
            omega
          have hfn : found ∉ ss := (hf1 hf0).1
          refine ⟨_, rfl, .inl ⟨rfl, _, SqL.of x5.ls⟩, _, rfl, l, _, _, rfl, rfl, x5.ls, (by rw [List.length_map, hss, sizeLine_eq]; omega), ?_⟩
          have hl0 : H l = none := hl
          refine ⟨body, _, v7', _, _, _, v11', d5, n3 + 1 + 1, ss ++ [found], rfl, ?_, by omega, by rw [List.length_append, hss]; rfl, hb, lb⟩
          refine ⟨fun b o e hb' => by rw [upd_ne (ne_of_none e hl)]; exact x5.kp b o e hb', by rw [upd_ne ne.symm]; exact x5.src, x5.sb, by rw [upd_same, List.map_append]; rfl, fun z hz => ?_, ?_, fun z hz => ?_, fun z hz => ?_⟩
          rotate_left
          · rw [List.nodup_append]
            refine ⟨x5.nd, by simp, fun a ha b hb e => ?_⟩
            rw [List.mem_singleton.mp hb] at e
            exact hfn (e ▸ ha)
          · rcases List.mem_append.mp hz with z' | z'
            · exact x5.nn z z'
            · rw [List.mem_singleton.mp z']; exact hf0
          · rcases List.mem_append.mp hz with z' | z'
            · exact x5.so z z'
            · rw [List.mem_singleton.mp z']; exact (hf1 hf0).2
          rcases List.mem_append.mp hz with z' | z'
          · exact x5.ok z z'
          · rw [List.mem_singleton.mp z']; exact hf
    · rintro _ H2 ⟨body, v6, v7, v8, v9, v10, v11, d2, n2, ss, rfl, x2, hn2, hss, hb, lb⟩
      exact ⟨_, rfl, q l d2 n2 ss H2 hl (by omega) x2 (by omega)⟩
end
end Wo

set_option Elab.async false
set_option maxRecDepth 100000
set_option linter.all false
set_option maxHeartbeats 8000000
namespace Wo
open PySem L2 TL Rl Tb
/-! ### numbers and counts -/
def spNumber : Sp := fun vs H Q _ => ∃ (p : Addr) (d c n : Int), vs = [.ref p] ∧ H p = some (srcO d c n) ∧ Sb d c n ∧ n ≤ 90000 ∧ ∀ d' n' r H', n' ≤ n + 2 → -(10 ^ 60) < r → r < 10 ^ 60 → Dw H H' p d' c n' → Q (.int r) H'
def spCount : Sp := fun vs H Q _ => ∃ (p : Addr) (d c n : Int), vs = [.ref p] ∧ H p = some (srcO d c n) ∧ Sb d c n ∧ n ≤ 90000 ∧ ∀ d' n' r H', n' ≤ n + 2 → 0 ≤ r → r < 10 ^ 60 → Dw H H' p d' c n' → Q (.int r) H'
theorem pw60 : (10 : Int) ^ (60 : Int).toNat = 10 ^ 60 := by decide +kernel
theorem lg60 : ((10 : Int) ^ (60 : Int).toNat).natAbs.log2 < 9000 := by decide +kernel
section
variable {P : Program} {w : World} {K : PySem.W.Frag} {mg : Str → Option Value} {base : Heap}
theorem scLNumber : FnScope ["_law_source_here", "_law_way"] ["_law_source_here"] (defScope sLNumber) := ⟨rfl, rfl, rfl, by decide +kernel, rfl, by decide +kernel, by decide +kernel⟩
theorem ok_number {f fD : Addr} {fd fdD : FuncData} (F : Fun K "_law_number" "_law_number" sLNumber f fd) (GD : FnOk P w K mg base CX0 1 fD fdD ["_law_source_here", "_law_many"] spDraw) (mgD : mg "_law_draw" = some (.ref fD)) (kpD : PySem.W.keepIn K (.ref fD) = true) (bD : Binds K fdD ["_law_source_here", "_law_many"] []) : FnOk P w K mg base CX0 2 f fd ["_law_source_here"] spNumber := by
  refine F.ok scLNumber (fun vs H Q E h => ?_) (fun cdv A outer s H vs Q E hr h => ?_)
  · obtain ⟨p, d, c, n, rfl, _⟩ := h
    rfl
  · obtain ⟨p, d, c, n, rfl, hp, sb, hn, q⟩ := h
    have hr1 : Room 1 _ := hr
    refine ⟨_, (pss_cons (ps_set (i := 1) scLNumber.nd rfl (Or.inl rfl) (pe_call GD hr1 (by rfl) mgD kpD bD .nil pass0 (pa_cons (pv 0) (pa_cons pe_int pa_nil))))
      (pss_cut (ps_if (pt_cmpR op_eq (pv 1) pe_int (nomark _)) (pss_one (ps_ret (pe_call GD hr1 (by rfl) mgD kpD bD .nil pass0 (pa_cons (pv 0) (pa_cons (pe_op op_pow pe_int pe_int) pa_nil))))) pss_nil)
      (pss_cut (ps_if (pt_cmpR op_eq (pv 1) pe_int (nomark _)) (pss_one (ps_ret (pe_op op_sub pe_int (pe_call GD hr1 (by rfl) mgD kpD bD .nil pass0 (pa_cons (pv 0) (pa_cons (pe_op op_pow pe_int pe_int) pa_nil)))))) pss_nil)
      (pss_one (ps_ret (pe_op op_sub (pe_call GD hr1 (by rfl) mgD kpD bD .nil pass0 (pa_cons (pv 0) (pa_cons pe_int pa_nil))) pe_int)))))), ?_⟩
    have z60 : (0 : Int) < 10 ^ 60 := by decide +kernel
    refine ⟨_, rfl, p, d, c, n, 8, rfl, hp, sb, by omega, by decide, log_small (by decide) (by decide), fun d1 wy y1 y2 sb1 => ?_⟩
    have x1 := (Dw.refl hp sb).draw sb1
    generalize upd H p (srcO d1 c (n + 1)) = H1 at x1
    refine ⟨fun σ' H' => σ' = [some (.ref p), some (.int wy)] ∧ H' = H1, ?_, ?_⟩
    · refine ⟨_, rfl, rfl, _, rfl, ite2 (fun _ => ?_) (fun _ => ⟨rfl, rfl⟩)⟩
      refine ⟨_, rfl, _, _, rfl, rfl, ⟨by decide, by decide, by decide⟩, p, d1, c, n + 1, _, rfl, x1.src, x1.sb, by omega, by rw [pw60]; exact z60, lg60, fun d2 r2 z1 z2 sb2 => ?_⟩
      rw [pw60] at z2
      exact q d2 (n + 1 + 1) _ _ (by omega) (by omega) z2 (x1.draw sb2)
    rintro _ H1 ⟨rfl, rfl⟩
    refine ⟨fun σ' H' => σ' = [some (.ref p), some (.int wy)] ∧ H' = H1, ?_, ?_⟩
    · refine ⟨_, rfl, rfl, _, rfl, ite2 (fun _ => ?_) (fun _ => ⟨rfl, rfl⟩)⟩
      refine ⟨_, rfl, _, _, rfl, rfl, ⟨by decide, by decide, by decide⟩, p, d1, c, n + 1, _, rfl, x1.src, x1.sb, by omega, by rw [pw60]; exact z60, lg60, fun d2 r2 z1 z2 sb2 => ⟨_, _, rfl, rfl, ?_⟩⟩
      rw [pw60] at z2
      exact q d2 (n + 1 + 1) _ _ (by omega) (by omega) (by omega) (x1.draw sb2)
    rintro _ H1 ⟨rfl, rfl⟩
    refine ⟨_, rfl, p, d1, c, n + 1, 4, rfl, x1.src, x1.sb, by omega, by decide, log_small (by decide) (by decide), fun d2 r2 z1 z2 sb2 => ⟨_, _, rfl, rfl, ?_⟩⟩
    have b60 : (100 : Int) < 10 ^ 60 := by decide +kernel
    exact q d2 (n + 1 + 1) _ _ (by omega) (by omega) (by omega) (x1.draw sb2)
theorem scLCount : FnScope ["_law_source_here", "_law_way"] ["_law_source_here"] (defScope sLCount) := ⟨rfl, rfl, rfl, by decide +kernel, rfl, by decide +kernel, by decide +kernel⟩
theorem ok_count {f fD : Addr} {fd fdD : FuncData} (F : Fun K "_law_count" "_law_count" sLCount f fd) (GD : FnOk P w K mg base CX0 1 fD fdD ["_law_source_here", "_law_many"] spDraw) (mgD : mg "_law_draw" = some (.ref fD)) (kpD : PySem.W.keepIn K (.ref fD) = true) (bD : Binds K fdD ["_law_source_here", "_law_many"] []) : FnOk P w K mg base CX0 2 f fd ["_law_source_here"] spCount := by
  refine F.ok scLCount (fun vs H Q E h => ?_) (fun cdv A outer s H vs Q E hr h => ?_)
  · obtain ⟨p, d, c, n, rfl, _⟩ := h
    rfl
  · obtain ⟨p, d, c, n, rfl, hp, sb, hn, q⟩ := h
    have hr1 : Room 1 _ := hr
    refine ⟨_, (pss_cons (ps_set (i := 1) scLCount.nd rfl (Or.inl rfl) (pe_call GD hr1 (by rfl) mgD kpD bD .nil pass0 (pa_cons (pv 0) (pa_cons pe_int pa_nil))))
      (pss_cut (ps_if (pt_cmpR op_lt (pv 1) pe_int (nomark _)) (pss_one (ps_ret (pe_op op_fdiv (pv 1) pe_int))) pss_nil)
      (pss_one (ps_ret (pe_ix ix_list (pe_lst (pa_cons pe_int (pa_cons (pe_call GD hr1 (by rfl) mgD kpD bD .nil pass0 (pa_cons (pv 0) (pa_cons (pe_op op_pow pe_int pe_int) pa_nil))) pa_nil))) (pe_op op_sub (pv 1) pe_int) (fun _ _ => rfl)))))), ?_⟩
    have z60 : (1000 : Int) < 10 ^ 60 := by decide +kernel
    refine ⟨_, rfl, p, d, c, n, 8, rfl, hp, sb, by omega, by decide, log_small (by decide) (by decide), fun d1 wy y1 y2 sb1 => ?_⟩
    have x1 := (Dw.refl hp sb).draw sb1
    generalize upd H p (srcO d1 c (n + 1)) = H1 at x1
    refine ⟨fun σ' H' => σ' = [some (.ref p), some (.int wy)] ∧ H' = H1 ∧ 6 ≤ wy, ?_, ?_⟩
    · refine ⟨_, rfl, _, _, rfl, rfl, _, rfl, ?_⟩
      by_cases h6 : wy < 6
      · refine iteT' (decide_eq_true h6) ⟨_, rfl, _, _, rfl, rfl, ⟨by decide, by decide⟩, ?_⟩
        exact q d1 (n + 1) _ _ (by omega) (by omega) (by omega) x1
      · exact iteF' (decide_eq_false h6) ⟨rfl, rfl, by omega⟩
    rintro _ H1 ⟨rfl, rfl, h6⟩
    refine ⟨_, rfl, _, _, rfl, rfl, ⟨by decide, by decide, by decide⟩, p, d1, c, n + 1, _, rfl, x1.src, x1.sb, by omega, by rw [pw60]; omega, lg60, fun d2 r2 z1 z2 sb2 => ⟨(by show 2 ≤ sizeLine; rw [sizeLine_eq]; decide), fun l hl => ?_⟩⟩
    rw [pw60] at z2
    have x2 := x1.draw sb2
    have x3 := x2.new (o := .lst [.int 1000, .int r2]) hl
    have g3 : (upd (upd H1 p (srcO d2 c (n + 1 + 1))) l (.lst [.int 1000, .int r2])) l = some (.lst [.int 1000, .int r2]) := upd_same
    have key : ∃ r : Int, 0 ≤ r ∧ r < 10 ^ 60 ∧ atI [V.int 1000, V.int r2] (wy - 6) = some (.int r) := by
      rcases (show wy = 6 ∨ wy = 7 by omega) with rfl | rfl
      · exact ⟨1000, by decide, z60, atI_nat (j := 0) rfl⟩
      · exact ⟨r2, z1, z2, atI_nat (j := 1) rfl⟩
    obtain ⟨r, r0, r1, hat⟩ := key
    exact ⟨_, rfl, _, _, rfl, rfl, l, _, _, _, rfl, rfl, SqL.of g3, hat, q d2 (n + 1 + 1) _ _ (by omega) r0 r1 x3⟩
end
end Wo

set_option Elab.async false
set_option maxRecDepth 100000
set_option linter.all false
set_option maxHeartbeats 8000000
namespace Wo
open PySem L2 TL Rl Tb
/-! ### rows of plans -/
inductive Rw where
  | set (r : Str) (x : Int)
  | add (r : Str) (x y p : Int)
  | cas (r : Str) (x y p : Int)
  | swap (r : Str) (x y p : Int)
  | take (r : Str) (p : Int)
  | iff (r : Str) (x p : Int)
  | load (r : Str)
  | wait (r : Str) (x p q l : Int)
  | still (r : Str) (p q l : Int)
  | wake (r : Str) (c : Int)
  | move (r s : Str) (c d : Int)
def Rw.v : Rw → List V
  | .set r x => [.str "set", .str r, .int x]
  | .add r x y p => [.str "add", .str r, .int x, .int y, .int p]
  | .cas r x y p => [.str "cas", .str r, .int x, .int y, .int p]
  | .swap r x y p => [.str "swap", .str r, .int x, .int y, .int p]
  | .take r p => [.str "take", .str r, .int p]
  | .iff r x p => [.str "if", .str r, .int x, .int p]
  | .load r => [.str "load", .str r]
  | .wait r x p q l => [.str "wait", .str r, .int x, .int p, .int q, .int l]
  | .still r p q l => [.str "still", .str r, .int p, .int q, .int l]
  | .wake r c => [.str "wake", .str r, .int c]
  | .move r s c d => [.str "move", .str r, .str s, .int c, .int d]
def Nb (x : Int) : Prop := -(10 ^ 60) < x ∧ x < 10 ^ 60
def Pl (low e p : Int) : Prop := low ≤ p ∧ p ≤ e
def Rw.ok (ss : List Str) (low e : Int) : Rw → Prop
  | .set r x => r ∈ ss ∧ Nb x
  | .add r x y p => r ∈ ss ∧ Nb x ∧ Nb y ∧ Pl low e p
  | .cas r x y p => r ∈ ss ∧ Nb x ∧ Nb y ∧ Pl low e p
  | .swap r x y p => r ∈ ss ∧ Nb x ∧ Nb y ∧ Pl low e p
  | .take r p => r ∈ ss ∧ Pl low e p
  | .iff r x p => r ∈ ss ∧ Nb x ∧ Pl low e p
  | .load r => r ∈ ss
  | .wait r x p q l => r ∈ ss ∧ Nb x ∧ Pl low e p ∧ Pl low e q ∧ (Pl low e l ∨ l = -1)
  | .still r p q l => r ∈ ss ∧ Pl low e p ∧ Pl low e q ∧ (Pl low e l ∨ l = -1)
  | .wake r c => r ∈ ss ∧ 0 ≤ c ∧ c < 10 ^ 60
  | .move r s c d => r ∈ ss ∧ s ∈ ss ∧ r ≠ s ∧ 0 ≤ c ∧ c < 10 ^ 60 ∧ 0 ≤ d ∧ d < 10 ^ 60
def words : List Str := ["set", "add", "cas", "swap", "take", "if", "load", "wait", "still", "wake", "move"]
def spRowOf : Sp := fun vs H Q _ => ∃ (p ln lw : Addr) (d c n low e : Int) (ss ws : List Str), vs = [.ref p, .ref ln, .int e, .ref lw, .int low] ∧ H p = some (srcO d c n) ∧ Sb d c n ∧ n ≤ 80000 ∧ H ln = some (.lst (ss.map V.str)) ∧ ln ≠ p ∧ H lw = some (.lst (ws.map V.str)) ∧ lw ≠ p ∧
  0 < ss.length ∧ ss.length ≤ 12 ∧ ss.Nodup ∧ 0 < ws.length ∧ ws.length ≤ 11 ∧ (∀ x ∈ ws, x ∈ words) ∧ 0 ≤ low ∧ low ≤ e ∧ e ≤ 100 ∧
  ∀ (d' n' : Int) (a : Addr) (rw : Rw) (H' : Hp), n' ≤ n + 20 → rw.ok ss low e → Dw H H' p d' c n' → H a = none → H' a = some (.tup rw.v) → Q (.ref a) H'
theorem str_at {ss : List Str} {i : Int} (h0 : 0 ≤ i) (h1 : i < (ss.length : Int)) : ∃ r, r ∈ ss ∧ atI (ss.map V.str) i = some (.str r) ∧ ss[i.toNat]? = some r := by
  obtain ⟨k, rfl⟩ := Int.eq_ofNat_of_zero_le h0
  have hk : k < ss.length := by omega
  exact ⟨ss[k], List.getElem_mem hk, atI_nat (by rw [List.getElem?_map, List.getElem?_eq_getElem hk]; rfl), List.getElem?_eq_getElem hk⟩
theorem vs_ne {a b : Str} (h : decide (V.str a = V.str b) = false) : a ≠ b := fun z => by rw [z] at h; simp at h
theorem vs_eq {a b : Str} (h : decide (V.str a = V.str b) = true) : a = b := by have := of_decide_eq_true h; injection this
section
variable {P : Program} {w : World} {K : PySem.W.Frag} {mg : Str → Option Value} {base : Heap}
theorem scLRowOf : FnScope ["_law_source_here", "_law_names_here", "_law_size", "_law_words", "_law_low", "_law_word", "_law_at", "_law_ways", "_law_k", "_law_pair", "_law_late", "_law_other"] ["_law_source_here", "_law_names_here", "_law_size", "_law_words", "_law_low"] (defScope sLRowOf) := ⟨rfl, rfl, rfl, by decide +kernel, rfl, by decide +kernel, by decide +kernel⟩
abbrev rost (p ln lw : Addr) (e low : Int) (w : Str) (at_ : Int) (lways lpair : Addr) (v8 v10 v11 : Option V) : St := [some (.ref p), some (.ref ln), some (.int e), some (.ref lw), some (.int low), some (.str w), some (.int at_), some (.ref lways), v8, some (.ref lpair), v10, v11]
theorem ok_rowOf {f fD fN fC : Addr} {fd fdD fdN fdC : FuncData} (F : Fun K "_law_row_of" "_law_row_of" sLRowOf f fd) (G : Glb mg) (GD : FnOk P w K mg base CX0 1 fD fdD ["_law_source_here", "_law_many"] spDraw) (mgD : mg "_law_draw" = some (.ref fD)) (kpD : PySem.W.keepIn K (.ref fD) = true) (bD : Binds K fdD ["_law_source_here", "_law_many"] [])
    (GN : FnOk P w K mg base CX0 2 fN fdN ["_law_source_here"] spNumber) (mgN : mg "_law_number" = some (.ref fN)) (kpN : PySem.W.keepIn K (.ref fN) = true) (bN : Binds K fdN ["_law_source_here"] [])
    (GC : FnOk P w K mg base CX0 2 fC fdC ["_law_source_here"] spCount) (mgC : mg "_law_count" = some (.ref fC)) (kpC : PySem.W.keepIn K (.ref fC) = true) (bC : Binds K fdC ["_law_source_here"] []) : FnOk P w K mg base CX0 3 f fd ["_law_source_here", "_law_names_here", "_law_size", "_law_words", "_law_low"] spRowOf := by
  refine F.ok scLRowOf (fun vs H Q E h => ?_) (fun cdv A outer s H vs Q E hr h => ?_)
  · obtain ⟨p, ln, lw, d, c, n, low, e, ss, ws, rfl, _⟩ := h
    rfl
  · obtain ⟨p, ln, lw, d, c, n, low, e, ss, ws, rfl, hp, sb, hn, hln, nln, hlw, nlw, s0, s12, snd, w0, w11, hws, l0, le, e100, q⟩ := h
    have hr2 : Room 2 _ := hr
    have hr1 : Room 1 _ := hr.mono (by decide)
    have zz : 300 < sizeLine := by rw [sizeLine_eq]; decide
    have sm : ∀ m : Int, 0 < m → m ≤ 1000 → m.natAbs.log2 < 9000 := fun m h0 h1 => log_small h0 (by omega)
    have PWpt := @PW.pt
    have pa_cons := @pa_cons
    have pa_nil := @pa_nil
    have pe_call := @pe_call
    have pe_callB := @pe_callB
    have pe_int := @pe_int
    have pe_ix := @pe_ix
    have pe_lst := @pe_lst
    have pe_op := @pe_op
    have pe_str := @pe_str
    have pe_tup := @pe_tup
    have pe_un := @pe_un
    have pg_name := @pg_name
    have pi_range1 := @pi_range1
    have ps_if := @ps_if
    have ps_ret := @ps_ret
    have ps_set := @ps_set
    have ps_setLc := @ps_setLc
    have pss_cons := @pss_cons
    have pss_cut := @pss_cut
    have pss_nil := @pss_nil
    have pss_one := @pss_one
    have pt_cmpR := @pt_cmpR
    have pts_nil := @pts_nil
    have pv := @pv
    have pw_or := @pw_or
    have pw_or1 := @pw_or1
    revert PWpt pa_cons pa_nil pe_call pe_callB pe_int pe_ix pe_lst pe_op pe_str pe_tup pe_un pg_name pi_range1 ps_if ps_ret ps_set ps_setLc pss_cons pss_cut pss_nil pss_one pt_cmpR pts_nil pv pw_or pw_or1
    generalize @L2.PS = vPS
    generalize @L2.PSs = vPSs
    generalize @L2.PE = vPE
    generalize @L2.PT = vPT
    generalize @L2.PW = vPW
    generalize @L2.PC = vPC
    generalize @L2.PA = vPA
    generalize @L2.PG = vPG
    generalize @L2.PI = vPI
    generalize @L2.PO = vPO
    generalize @L2.PTs = vPTs
    generalize @L2.PPs = vPPs
    generalize @L2.PGs = vPGs
    generalize @L2.PK = vPK
    intro PWpt pa_cons pa_nil pe_call pe_callB pe_int pe_ix pe_lst pe_op pe_str pe_tup pe_un pg_name pi_range1 ps_if ps_ret ps_set ps_setLc pss_cons pss_cut pss_nil pss_one pt_cmpR pts_nil pv pw_or pw_or1
    refine ⟨_, (pss_cons (ps_set (i := 5) scLRowOf.nd rfl (Or.inl rfl) (pe_ix ix_list (pv 3) (pe_call GD hr1 (by rfl) mgD kpD bD .nil pass0 (pa_cons (pv 0) (pa_cons (pe_callB call_len_seq (by rfl) G.len PySem.boot_len (pa_cons (pv 3) pa_nil)) pa_nil))) (fun _ _ => rfl)))
      (pss_cons (ps_set (i := 6) scLRowOf.nd rfl (Or.inl rfl) (pe_call GD hr1 (by rfl) mgD kpD bD .nil pass0 (pa_cons (pv 0) (pa_cons (pe_callB call_len_seq (by rfl) G.len PySem.boot_len (pa_cons (pv 1) pa_nil)) pa_nil))))
      (pss_cut (ps_setLc (i := 7) (own := [("_law_k", 8)]) (g := (gName 8)) (by rfl) scLRowOf.nd rfl rfl (sw_true rfl rfl rfl (by decide +kernel)) (pi_range1 rfl G.range (pa_cons pe_int pa_nil)) (blkOk_by (own := [("_law_k", 8)]) (N := ["_law_source_here", "_law_names_here", "_law_size", "_law_words", "_law_low", "_law_word", "_law_at", "_law_ways", "_law_k", "_law_pair", "_law_late", "_law_other"]) (sc := defScope sLRowOf) (by decide +kernel)) (fun _ _ _ _ _ => (pg_name (i := 8) scLRowOf.nd rfl (Or.inl rfl))) (fun _ _ _ _ _ => pts_nil) (fun _ _ _ _ _ => (pe_op op_add (pv 4) (pe_call GD hr1 (by rfl) mgD kpD bD .nil pass0 (pa_cons (pv 0) (pa_cons (pe_op op_sub (pe_op op_add (pv 2) pe_int) (pv 4)) pa_nil))))))
      (pss_cons (ps_set (i := 9) scLRowOf.nd rfl (Or.inl rfl) (pe_lst (pa_cons (pe_call GN hr2 (by rfl) mgN kpN bN .nil pass0 (pa_cons (pv 0) pa_nil)) (pa_cons (pe_call GN hr2 (by rfl) mgN kpN bN .nil pass0 (pa_cons (pv 0) pa_nil)) pa_nil))))
      (pss_cut (ps_if (pt_cmpR op_eq (pv 5) pe_str (nomark _)) (pss_one (ps_ret (pe_tup (pa_cons (pv 5) (pa_cons (pe_ix ix_list (pv 1) (pv 6) (fun _ _ => rfl)) (pa_cons (pe_ix ix_list (pv 9) pe_int (fun _ _ => rfl)) pa_nil)))))) pss_nil)
      (pss_cut (ps_if (PWpt (pw_or (pt_cmpR op_eq (pv 5) pe_str (nomark _)) (pw_or (pt_cmpR op_eq (pv 5) pe_str (nomark _)) (pw_or1 (pt_cmpR op_eq (pv 5) pe_str (nomark _)))))) (pss_one (ps_ret (pe_tup (pa_cons (pv 5) (pa_cons (pe_ix ix_list (pv 1) (pv 6) (fun _ _ => rfl)) (pa_cons (pe_ix ix_list (pv 9) pe_int (fun _ _ => rfl)) (pa_cons (pe_ix ix_list (pv 9) pe_int (fun _ _ => rfl)) (pa_cons (pe_ix ix_list (pv 7) pe_int (fun _ _ => rfl)) pa_nil)))))))) pss_nil)
      (pss_cut (ps_if (pt_cmpR op_eq (pv 5) pe_str (nomark _)) (pss_one (ps_ret (pe_tup (pa_cons (pv 5) (pa_cons (pe_ix ix_list (pv 1) (pv 6) (fun _ _ => rfl)) (pa_cons (pe_ix ix_list (pv 7) pe_int (fun _ _ => rfl)) pa_nil)))))) pss_nil)
      (pss_cut (ps_if (pt_cmpR op_eq (pv 5) pe_str (nomark _)) (pss_one (ps_ret (pe_tup (pa_cons (pv 5) (pa_cons (pe_ix ix_list (pv 1) (pv 6) (fun _ _ => rfl)) (pa_cons (pe_ix ix_list (pv 9) pe_int (fun _ _ => rfl)) (pa_cons (pe_ix ix_list (pv 7) pe_int (fun _ _ => rfl)) pa_nil))))))) pss_nil)
      (pss_cut (ps_if (pt_cmpR op_eq (pv 5) pe_str (nomark _)) (pss_one (ps_ret (pe_tup (pa_cons (pv 5) (pa_cons (pe_ix ix_list (pv 1) (pv 6) (fun _ _ => rfl)) pa_nil))))) pss_nil)
      (pss_cons (ps_set (i := 10) scLRowOf.nd rfl (Or.inl rfl) (pe_ix ix_list (pe_lst (pa_cons (pe_ix ix_list (pv 7) pe_int (fun _ _ => rfl)) (pa_cons (pe_un un_neg pe_int) pa_nil))) (pe_call GD hr1 (by rfl) mgD kpD bD .nil pass0 (pa_cons (pv 0) (pa_cons pe_int pa_nil))) (fun _ _ => rfl)))
      (pss_cut (ps_if (pt_cmpR op_eq (pv 5) pe_str (nomark _)) (pss_one (ps_ret (pe_tup (pa_cons (pv 5) (pa_cons (pe_ix ix_list (pv 1) (pv 6) (fun _ _ => rfl)) (pa_cons (pe_ix ix_list (pv 9) pe_int (fun _ _ => rfl)) (pa_cons (pe_ix ix_list (pv 7) pe_int (fun _ _ => rfl)) (pa_cons (pe_ix ix_list (pv 7) pe_int (fun _ _ => rfl)) (pa_cons (pv 10) pa_nil))))))))) pss_nil)
      (pss_cut (ps_if (pt_cmpR op_eq (pv 5) pe_str (nomark _)) (pss_one (ps_ret (pe_tup (pa_cons (pv 5) (pa_cons (pe_ix ix_list (pv 1) (pv 6) (fun _ _ => rfl)) (pa_cons (pe_ix ix_list (pv 7) pe_int (fun _ _ => rfl)) (pa_cons (pe_ix ix_list (pv 7) pe_int (fun _ _ => rfl)) (pa_cons (pv 10) pa_nil)))))))) pss_nil)
      (pss_cons (ps_set (i := 9) scLRowOf.nd rfl (Or.inl rfl) (pe_lst (pa_cons (pe_call GC hr2 (by rfl) mgC kpC bC .nil pass0 (pa_cons (pv 0) pa_nil)) (pa_cons (pe_call GC hr2 (by rfl) mgC kpC bC .nil pass0 (pa_cons (pv 0) pa_nil)) pa_nil))))
      (pss_cut (ps_if (PWpt (pw_or (pt_cmpR op_eq (pv 5) pe_str (nomark _)) (pw_or1 (pt_cmpR op_eq (pe_callB call_len_seq (by rfl) G.len PySem.boot_len (pa_cons (pv 1) pa_nil)) pe_int (nomark _))))) (pss_one (ps_ret (pe_tup (pa_cons pe_str (pa_cons (pe_ix ix_list (pv 1) (pv 6) (fun _ _ => rfl)) (pa_cons (pe_ix ix_list (pv 9) pe_int (fun _ _ => rfl)) pa_nil)))))) pss_nil)
      (pss_cons (ps_set (i := 11) scLRowOf.nd rfl (Or.inl rfl) (pe_ix ix_list (pv 1) (pe_op op_mod (pe_op op_add (pe_op op_add (pv 6) pe_int) (pe_call GD hr1 (by rfl) mgD kpD bD .nil pass0 (pa_cons (pv 0) (pa_cons (pe_op op_sub (pe_callB call_len_seq (by rfl) G.len PySem.boot_len (pa_cons (pv 1) pa_nil)) pe_int) pa_nil)))) (pe_callB call_len_seq (by rfl) G.len PySem.boot_len (pa_cons (pv 1) pa_nil))) (fun _ _ => rfl)))
      (pss_one (ps_ret (pe_tup (pa_cons (pv 5) (pa_cons (pe_ix ix_list (pv 1) (pv 6) (fun _ _ => rfl)) (pa_cons (pv 11) (pa_cons (pe_ix ix_list (pv 9) pe_int (fun _ _ => rfl)) (pa_cons (pe_ix ix_list (pv 9) pe_int (fun _ _ => rfl)) pa_nil))))))))))))))))))))))), ?_⟩
    have lss : (ss.map V.str).length = ss.length := List.length_map ..
    have lws : (ws.map V.str).length = ws.length := List.length_map ..
    -- the word
    refine ⟨_, rfl, _, rfl, _, rfl, lw, _, rfl, .inl (SqL.of hlw), p, d, c, n, _, rfl, hp, sb, by omega, by rw [lws]; omega, sm _ (by rw [lws]; omega) (by rw [lws]; omega), fun d1 r1 y0 y1 sb1 => ?_⟩
    rw [lws] at y1
    have x1 := (Dw.refl hp sb).draw sb1
    generalize upd H p (srcO d1 c (n + 1)) = H1 at x1
    obtain ⟨wd, hwd, hwa, _⟩ := str_at y0 y1
    have hwd := hws _ hwd
    refine ⟨lw, _, _, _, rfl, rfl, SqL.of (x1.k _ _ hlw nlw), hwa, ?_⟩
    -- its room
    refine ⟨_, rfl, _, rfl, ln, _, rfl, .inl (SqL.of (x1.k _ _ hln nln)), p, d1, c, n + 1, _, rfl, x1.src, x1.sb, by omega, by rw [lss]; omega, sm _ (by rw [lss]; omega) (by rw [lss]; omega), fun d2 at_ a0 a1 sb2 => ?_⟩
    rw [lss] at a1
    have x2 := x1.draw sb2
    generalize upd H1 p (srcO d2 c (n + 1 + 1)) = H2 at x2
    obtain ⟨r, hr_, hra, hrn⟩ := str_at a0 a1
    -- the ways
    refine ⟨fun σ' H' => ∃ (lways : Addr) (a b c3 d3 : Int), σ' = [some (.ref p), some (.ref ln), some (.int e), some (.ref lw), some (.int low), some (.str wd), some (.int at_), some (.ref lways), none, none, none, none] ∧ Dw H H' p d3 c (n + 5) ∧ lways ≠ p ∧ H' lways = some (.lst [.int a, .int b, .int c3]) ∧ Pl low e a ∧ Pl low e b ∧ Pl low e c3, ?_, ?_⟩
    · refine ⟨3, rfl, by decide, by decide, fun D hD => ?_⟩
      have nD : D ≠ p := (ne_of_none x2.src hD).symm
      refine lc_range (lo := 0) (n := 3) (fun i H3 => ∃ (as : List Int) (d3 : Int), Dw H H3 p d3 c (n + 2 + i) ∧ H3 D = some (.lst (as.map V.int)) ∧ as.length = i ∧ ∀ a ∈ as, Pl low e a) ⟨[], d2, by have := x2.new (o := .lst []) hD; rw [show n + 2 + ((0 : Nat) : Int) = n + 1 + 1 by omega]; exact this, upd_same, rfl, fun _ z => nomatch z⟩ ?_ ?_
      · rintro i H3 hi ⟨as, d3, x3, hl3, la, ha⟩
        refine ⟨rfl, ?_⟩
        dsimp only [tYes]
        refine iteT ⟨_, rfl, _, rfl, _, rfl, _, _, rfl, rfl, _, rfl, _, _, rfl, rfl, p, d3, c, n + 2 + i, _, rfl, x3.src, x3.sb, by omega, by omega, sm _ (by omega) (by omega), fun d4 r4 z0 z1 sb4 => ⟨_, _, rfl, rfl, ?_⟩⟩
        have x4 := x3.draw sb4
        have g4 : (upd H3 p (srcO d4 c (n + 2 + i + 1))) D = some (.lst (as.map V.int)) := by rw [upd_ne nD]; exact hl3
        refine ⟨_, g4, by rw [List.length_map]; omega, as ++ [low + r4], d4, ?_, ?_, by rw [List.length_append, la]; rfl, fun a h => ?_⟩
        · have e4 : n + 2 + (i : Int) + 1 = n + 2 + ((i + 1 : Nat) : Int) := by omega
          rw [← e4]
          exact ⟨by rw [upd_ne nD.symm]; exact x4.src, x4.sb, fun b o e hb => by
            rw [upd_ne (fun z => by have h1 := x4.k b o e hb; rw [z] at e hb; have := x2.k _ _ e hb; rw [hD] at this; cases this)]; exact x4.k b o e hb⟩
        · rw [upd_same, List.map_append]; rfl
        · rcases List.mem_append.mp h with h | h
          · exact ha a h
          · rw [List.mem_singleton.mp h]; exact ⟨by omega, by omega⟩
      · rintro H3 ⟨as, d3, x3, hl3, la, ha⟩
        match as, la with
        | [a, b, c3], _ => exact ⟨D, a, b, c3, d3, rfl, by rw [show n + 5 = n + 2 + ((3 : Nat) : Int) by omega]; exact x3, nD, hl3, ha a (by simp), ha b (by simp), ha c3 (by simp)⟩
    rintro _ H3 ⟨lways, wa, wb, wc, d3, rfl, x3, nw, hw3, pa, pb, pc⟩
    -- two numbers
    refine ⟨_, rfl, p, d3, c, n + 5, rfl, x3.src, x3.sb, by omega, fun d4 n4 m1 H4 hn4 m1a m1b x4 => ?_⟩
    refine ⟨_, rfl, p, d4, c, n4, rfl, x4.src, x4.sb, by omega, fun d5 n5 m2 H5 hn5 m2a m2b x5 => ?_⟩
    have x35 := x4.trans x5
    have x05 := x3.trans x35
    refine ⟨by show 2 ≤ sizeLine; omega, fun lp hlp => ?_⟩
    have nlp : lp ≠ p := (ne_of_none x05.src hlp).symm
    have x6 := x05.new (o := .lst [.int m1, .int m2]) hlp
    have gp6 : (upd H5 lp (.lst [.int m1, .int m2])) lp = some (.lst [.int m1, .int m2]) := upd_same
    have gw6 : (upd H5 lp (.lst [.int m1, .int m2])) lways = some (.lst [.int wa, .int wb, .int wc]) := by rw [upd_ne (ne_of_none (x35.k _ _ hw3 nw) hlp)]; exact x35.k _ _ hw3 nw
    generalize upd H5 lp (.lst [.int m1, .int m2]) = H6 at x6 gp6 gw6
    have gl6 := x6.k _ _ hln nln
    have nb1 : Nb m1 := ⟨m1a, m1b⟩
    have nb2 : Nb m2 := ⟨m2a, m2b⟩
    have new0 : ∀ {H9 t}, Dw H H9 p d5 c n5 → H9 t = none → H t = none := fun {H9 t} x h => by
      cases e : H t with
      | none => rfl
      | some o =>
        by_cases z : t = p
        · rw [z] at h; rw [x.src] at h; cases h
        · rw [x.k _ _ e z] at h; cases h
    have fin : ∀ {rw : Rw} {t : Addr}, H6 t = none → rw.ok ss low e → Q (.ref t) (upd H6 t (.tup rw.v)) := fun {rw t} ht ok => q d5 n5 t rw _ (by omega) ok (x6.new ht) (new0 x6 ht) upd_same
    -- set
    refine ⟨fun σ' H' => σ' = rost p ln lw e low wd at_ lways lp none none none ∧ H' = H6 ∧ wd ∈ words.drop 1, ?_, ?_⟩
    · refine ⟨_, rfl, rfl, _, rfl, ?_⟩
      cases hc : decide (V.str wd = V.str "set") with
      | true =>
        have := vs_eq hc; subst this
        exact iteT ⟨_, rfl, _, rfl, _, rfl, ln, _, _, _, rfl, rfl, SqL.of gl6, hra, _, rfl, lp, _, _, _, rfl, rfl, SqL.of gp6, atI_nat (j := 0) rfl, by show 3 ≤ sizeLine; omega, fun t ht => fin (rw := .set r m1) ht ⟨hr_, nb1⟩⟩
      | false =>
        have := vs_ne hc
        exact iteF ⟨rfl, rfl, (List.mem_cons.mp hwd).resolve_left this⟩
    rintro _ H6 ⟨rfl, rfl, hwd⟩
    -- add, cas, swap
    refine ⟨fun σ' H' => σ' = rost p ln lw e low wd at_ lways lp none none none ∧ H' = H6 ∧ wd ∈ words.drop 4, ?_, ?_⟩
    · refine ⟨_, rfl, rfl, _, rfl, ?_⟩
      cases hc : decide (V.str wd = V.str "add") with
      | true =>
        have := vs_eq hc; subst this
        exact iteT (iteT ⟨_, rfl, _, rfl, _, rfl, ln, _, _, _, rfl, rfl, SqL.of gl6, hra, _, rfl, lp, _, _, _, rfl, rfl, SqL.of gp6, atI_nat (j := 0) rfl, _, rfl, lp, _, _, _, rfl, rfl, SqL.of gp6, atI_nat (j := 1) rfl, _, rfl, lways, _, _, _, rfl, rfl, SqL.of gw6, atI_nat (j := 0) rfl, (by show 5 ≤ sizeLine; omega), fun t ht => fin (rw := .add r m1 m2 wa) ht ⟨hr_, nb1, nb2, pa⟩⟩)
      | false =>
        have hwd := (List.mem_cons.mp hwd).resolve_left (vs_ne hc)
        refine iteF ⟨_, rfl, rfl, _, rfl, ?_⟩
        cases hc : decide (V.str wd = V.str "cas") with
        | true =>
          have := vs_eq hc; subst this
          exact iteT (iteT ⟨_, rfl, _, rfl, _, rfl, ln, _, _, _, rfl, rfl, SqL.of gl6, hra, _, rfl, lp, _, _, _, rfl, rfl, SqL.of gp6, atI_nat (j := 0) rfl, _, rfl, lp, _, _, _, rfl, rfl, SqL.of gp6, atI_nat (j := 1) rfl, _, rfl, lways, _, _, _, rfl, rfl, SqL.of gw6, atI_nat (j := 0) rfl, (by show 5 ≤ sizeLine; omega), fun t ht => fin (rw := .cas r m1 m2 wa) ht ⟨hr_, nb1, nb2, pa⟩⟩)
        | false =>
          have hwd := (List.mem_cons.mp hwd).resolve_left (vs_ne hc)
          refine iteF ⟨_, rfl, rfl, _, rfl, ?_⟩
          cases hc : decide (V.str wd = V.str "swap") with
          | true =>
            have := vs_eq hc; subst this
            exact iteT ⟨_, rfl, _, rfl, _, rfl, ln, _, _, _, rfl, rfl, SqL.of gl6, hra, _, rfl, lp, _, _, _, rfl, rfl, SqL.of gp6, atI_nat (j := 0) rfl, _, rfl, lp, _, _, _, rfl, rfl, SqL.of gp6, atI_nat (j := 1) rfl, _, rfl, lways, _, _, _, rfl, rfl, SqL.of gw6, atI_nat (j := 0) rfl, (by show 5 ≤ sizeLine; omega), fun t ht => fin (rw := .swap r m1 m2 wa) ht ⟨hr_, nb1, nb2, pa⟩⟩
          | false => exact iteF ⟨rfl, rfl, (List.mem_cons.mp hwd).resolve_left (vs_ne hc)⟩
    rintro _ H6 ⟨rfl, rfl, hwd⟩
    -- take
    refine ⟨fun σ' H' => σ' = rost p ln lw e low wd at_ lways lp none none none ∧ H' = H6 ∧ wd ∈ words.drop 5, ?_, ?_⟩
    · refine ⟨_, rfl, rfl, _, rfl, ?_⟩
      cases hc : decide (V.str wd = V.str "take") with
      | true =>
        have := vs_eq hc; subst this
        exact iteT ⟨_, rfl, _, rfl, _, rfl, ln, _, _, _, rfl, rfl, SqL.of gl6, hra, _, rfl, lways, _, _, _, rfl, rfl, SqL.of gw6, atI_nat (j := 0) rfl, (by show 3 ≤ sizeLine; omega), fun t ht => fin (rw := .take r wa) ht ⟨hr_, pa⟩⟩
      | false => exact iteF ⟨rfl, rfl, (List.mem_cons.mp hwd).resolve_left (vs_ne hc)⟩
    rintro _ H6 ⟨rfl, rfl, hwd⟩
    -- if
    refine ⟨fun σ' H' => σ' = rost p ln lw e low wd at_ lways lp none none none ∧ H' = H6 ∧ wd ∈ words.drop 6, ?_, ?_⟩
    · refine ⟨_, rfl, rfl, _, rfl, ?_⟩
      cases hc : decide (V.str wd = V.str "if") with
      | true =>
        have := vs_eq hc; subst this
        exact iteT ⟨_, rfl, _, rfl, _, rfl, ln, _, _, _, rfl, rfl, SqL.of gl6, hra, _, rfl, lp, _, _, _, rfl, rfl, SqL.of gp6, atI_nat (j := 0) rfl, _, rfl, lways, _, _, _, rfl, rfl, SqL.of gw6, atI_nat (j := 0) rfl, (by show 4 ≤ sizeLine; omega), fun t ht => fin (rw := .iff r m1 wa) ht ⟨hr_, nb1, pa⟩⟩
      | false => exact iteF ⟨rfl, rfl, (List.mem_cons.mp hwd).resolve_left (vs_ne hc)⟩
    rintro _ H6 ⟨rfl, rfl, hwd⟩
    -- load
    refine ⟨fun σ' H' => σ' = rost p ln lw e low wd at_ lways lp none none none ∧ H' = H6 ∧ wd ∈ words.drop 7, ?_, ?_⟩
    · refine ⟨_, rfl, rfl, _, rfl, ?_⟩
      cases hc : decide (V.str wd = V.str "load") with
      | true =>
        have := vs_eq hc; subst this
        exact iteT ⟨_, rfl, _, rfl, _, rfl, ln, _, _, _, rfl, rfl, SqL.of gl6, hra, (by show 2 ≤ sizeLine; omega), fun t ht => fin (rw := .load r) ht hr_⟩
      | false => exact iteF ⟨rfl, rfl, (List.mem_cons.mp hwd).resolve_left (vs_ne hc)⟩
    rintro _ H6 ⟨rfl, rfl, hwd⟩
    -- late
    refine ⟨_, rfl, lways, _, _, _, rfl, rfl, SqL.of gw6, atI_nat (j := 2) rfl, _, rfl, (by show 2 ≤ sizeLine; omega), fun ll hll => ?_⟩
    have nll : ll ≠ p := (ne_of_none x6.src hll).symm
    have x7 := x6.new (o := .lst [.int wc, .int (-1)]) hll
    have kp7 : ∀ b o, H6 b = some o → upd H6 ll (.lst [.int wc, .int (-1)]) b = some o := fun b o e => by rw [upd_ne (ne_of_none e hll)]; exact e
    have gL7 : (upd H6 ll (.lst [.int wc, .int (-1)])) ll = some (.lst [.int wc, .int (-1)]) := upd_same
    generalize upd H6 ll (.lst [.int wc, .int (-1)]) = H7 at x7 kp7 gL7
    refine ⟨_, rfl, p, d5, c, n5, 2, rfl, x7.src, x7.sb, by omega, by decide, log_small (by decide) (by decide), fun d8 r8 z0 z1 sb8 => ?_⟩
    have x8 := x7.draw sb8
    have kp8 : ∀ b o, b ≠ p → H6 b = some o → upd H7 p (srcO d8 c (n5 + 1)) b = some o := fun b o hb e => by rw [upd_ne hb]; exact kp7 _ _ e
    have gL8 : (upd H7 p (srcO d8 c (n5 + 1))) ll = some (.lst [.int wc, .int (-1)]) := by rw [upd_ne nll]; exact gL7
    generalize upd H7 p (srcO d8 c (n5 + 1)) = H8 at x8 kp8 gL8
    have gl6 := kp8 _ _ nln gl6
    have gp6 := kp8 _ _ nlp gp6
    have gw6 := kp8 _ _ nw gw6
    have hlate : ∃ l : Int, (Pl low e l ∨ l = -1) ∧ atI [V.int wc, V.int (-1)] r8 = some (.int l) := by
      rcases (show r8 = 0 ∨ r8 = 1 by omega) with rfl | rfl
      · exact ⟨wc, .inl pc, atI_nat (j := 0) rfl⟩
      · exact ⟨-1, .inr rfl, atI_nat (j := 1) rfl⟩
    obtain ⟨late, hlt, hla⟩ := hlate
    refine ⟨ll, _, _, _, rfl, rfl, SqL.of gL8, hla, ?_⟩
    clear fin
    have fin : ∀ {rw : Rw} {t : Addr}, H8 t = none → rw.ok ss low e → Q (.ref t) (upd H8 t (.tup rw.v)) := fun {rw t} ht ok => by
      refine q d8 (n5 + 1) t rw _ (by omega) ok (x8.new ht) ?_ upd_same
      cases e0 : H t with
      | none => rfl
      | some o =>
        by_cases z : t = p
        · rw [z] at ht; rw [x8.src] at ht; cases ht
        · rw [x8.k _ _ e0 z] at ht; cases ht
    -- wait
    refine ⟨fun σ' H' => σ' = rost p ln lw e low wd at_ lways lp none (some (.int late)) none ∧ H' = H8 ∧ wd ∈ words.drop 8, ?_, ?_⟩
    · refine ⟨_, rfl, rfl, _, rfl, ?_⟩
      cases hc : decide (V.str wd = V.str "wait") with
      | true =>
        have := vs_eq hc; subst this
        exact iteT ⟨_, rfl, _, rfl, _, rfl, ln, _, _, _, rfl, rfl, SqL.of gl6, hra, _, rfl, lp, _, _, _, rfl, rfl, SqL.of gp6, atI_nat (j := 0) rfl, _, rfl, lways, _, _, _, rfl, rfl, SqL.of gw6, atI_nat (j := 0) rfl, _, rfl, lways, _, _, _, rfl, rfl, SqL.of gw6, atI_nat (j := 1) rfl, _, rfl, (by show 6 ≤ sizeLine; omega), fun t ht => fin (rw := .wait r m1 wa wb late) ht ⟨hr_, nb1, pa, pb, hlt⟩⟩
      | false => exact iteF ⟨rfl, rfl, (List.mem_cons.mp hwd).resolve_left (vs_ne hc)⟩
    rintro _ H8 ⟨rfl, rfl, hwd⟩
    -- still
    refine ⟨fun σ' H' => σ' = rost p ln lw e low wd at_ lways lp none (some (.int late)) none ∧ H' = H8 ∧ wd ∈ words.drop 9, ?_, ?_⟩
    · refine ⟨_, rfl, rfl, _, rfl, ?_⟩
      cases hc : decide (V.str wd = V.str "still") with
      | true =>
        have := vs_eq hc; subst this
        exact iteT ⟨_, rfl, _, rfl, _, rfl, ln, _, _, _, rfl, rfl, SqL.of gl6, hra, _, rfl, lways, _, _, _, rfl, rfl, SqL.of gw6, atI_nat (j := 0) rfl, _, rfl, lways, _, _, _, rfl, rfl, SqL.of gw6, atI_nat (j := 1) rfl, _, rfl, (by show 5 ≤ sizeLine; omega), fun t ht => fin (rw := .still r wa wb late) ht ⟨hr_, pa, pb, hlt⟩⟩
      | false => exact iteF ⟨rfl, rfl, (List.mem_cons.mp hwd).resolve_left (vs_ne hc)⟩
    rintro _ H8 ⟨rfl, rfl, hwd⟩
    -- two counts
    refine ⟨_, rfl, p, d8, c, n5 + 1, rfl, x8.src, x8.sb, by omega, fun d9 n9 c1 H9 hn9 c1a c1b x9 => ?_⟩
    refine ⟨_, rfl, p, d9, c, n9, rfl, x9.src, x9.sb, by omega, fun dx nx c2 Hx hnx c2a c2b xx => ?_⟩
    have x9x := x9.trans xx
    have x0x := x8.trans x9x
    refine ⟨by show 2 ≤ sizeLine; omega, fun lq hlq => ?_⟩
    have nlq : lq ≠ p := (ne_of_none x0x.src hlq).symm
    have xy := x0x.new (o := .lst [.int c1, .int c2]) hlq
    have kpy : ∀ b o, b ≠ p → H8 b = some o → upd Hx lq (.lst [.int c1, .int c2]) b = some o := fun b o hb e => by
      have h := x9x.k _ _ e hb
      rw [upd_ne (ne_of_none h hlq)]; exact h
    have gq : (upd Hx lq (.lst [.int c1, .int c2])) lq = some (.lst [.int c1, .int c2]) := upd_same
    generalize upd Hx lq (.lst [.int c1, .int c2]) = Hy at xy kpy gq
    have gl6 := kpy _ _ nln gl6
    clear fin
    have new0 : ∀ {d' n' : Int} {H9 : Hp} {t : Addr}, Dw H H9 p d' c n' → H9 t = none → H t = none := fun {d' n' H9 t} x h => by
      cases e0 : H t with
      | none => rfl
      | some o =>
        by_cases z : t = p
        · rw [z] at h; rw [x.src] at h; cases h
        · rw [x.k _ _ e0 z] at h; cases h
    -- wake
    refine ⟨fun σ' H' => σ' = rost p ln lw e low wd at_ lways lq none (some (.int late)) none ∧ H' = Hy ∧ wd = "move" ∧ 1 < ss.length, ?_, ?_⟩
    · refine ⟨_, rfl, rfl, _, rfl, ?_⟩
      have wake : ∀ t, Hy t = none → Q (.ref t) (upd Hy t (.tup (Rw.wake r c1).v)) := fun t ht => q dx nx t (.wake r c1) _ (by omega) ⟨hr_, c1a, c1b⟩ (xy.new ht) (new0 xy ht) upd_same
      cases hc : decide (V.str wd = V.str "wake") with
      | true =>
        exact iteT (iteT ⟨_, rfl, _, rfl, ln, _, _, _, rfl, rfl, SqL.of gl6, hra, _, rfl, lq, _, _, _, rfl, rfl, SqL.of gq, atI_nat (j := 0) rfl, (by show 3 ≤ sizeLine; omega), fun t ht => wake t ht⟩)
      | false =>
        have hwd := (List.mem_cons.mp hwd).resolve_left (vs_ne hc)
        refine iteF ⟨_, rfl, ln, _, rfl, .inl (SqL.of gl6), rfl, _, rfl, ?_⟩
        rw [lss]
        by_cases h1 : ss.length = 1
        · refine iteT' (by rw [h1]; rfl) ⟨_, rfl, _, rfl, ln, _, _, _, rfl, rfl, SqL.of gl6, hra, _, rfl, lq, _, _, _, rfl, rfl, SqL.of gq, atI_nat (j := 0) rfl, (by show 3 ≤ sizeLine; omega), fun t ht => wake t ht⟩
        · refine iteF' (decide_eq_false fun z => h1 (by injection z; omega)) ⟨rfl, rfl, ?_, by omega⟩
          simpa [words] using hwd
    rintro _ Hy ⟨rfl, rfl, rfl, h1⟩
    -- the other room
    refine ⟨_, rfl, _, rfl, _, _, rfl, rfl, _, rfl, _, rfl, ln, _, rfl, .inl (SqL.of gl6), _, _, rfl, rfl, p, dx, c, nx, _, rfl, xy.src, xy.sb, by omega, by rw [lss]; omega, sm _ (by rw [lss]; omega) (by rw [lss]; omega), fun dz oz o0 o1 sbz => ?_⟩
    rw [lss] at o1
    have xz := xy.draw sbz
    have kpz : ∀ b o, b ≠ p → Hy b = some o → upd Hy p (srcO dz c (nx + 1)) b = some o := fun b o hb e => by rw [upd_ne hb]; exact e
    have gl6 := kpz _ _ nln gl6
    have gq := kpz _ _ nlq gq
    generalize upd Hy p (srcO dz c (nx + 1)) = Hz at xz gl6 gq
    have m0 := Int.emod_nonneg (at_ + 1 + oz) (show (ss.length : Int) ≠ 0 by omega)
    have m1 := Int.emod_lt_of_pos (at_ + 1 + oz) (show (0 : Int) < ss.length by omega)
    obtain ⟨r2, hr2_, hr2a, hr2n⟩ := str_at m0 m1
    have ne : r ≠ r2 := fun z => by
      rw [← z] at hr2n
      have la : at_.toNat < ss.length := by omega
      have := (List.getElem?_inj la snd).mp (hrn.trans hr2n.symm)
      have e2 : at_ = (at_ + 1 + oz) % ss.length := by omega
      have d1 := Int.emod_add_mul_ediv (at_ + 1 + oz) ss.length
      rw [← e2] at d1
      have hk : (ss.length : Int) * ((at_ + 1 + oz) / ss.length) = 1 + oz := by omega
      rcases Int.lt_or_le ((at_ + 1 + oz) / ss.length) 1 with h | h
      · have : (ss.length : Int) * ((at_ + 1 + oz) / ss.length) ≤ (ss.length : Int) * 0 := Int.mul_le_mul_of_nonneg_left (by omega) (by omega)
        omega
      · have : (ss.length : Int) * 1 ≤ (ss.length : Int) * ((at_ + 1 + oz) / ss.length) := Int.mul_le_mul_of_nonneg_left h (by omega)
        omega
    refine ⟨_, _, rfl, rfl, _, rfl, ln, _, rfl, .inl (SqL.of gl6), _, _, rfl, rfl, (by rw [lss]; omega), ln, _, _, _, rfl, rfl, SqL.of gl6, (by rw [lss]; exact hr2a), ?_⟩
    exact ⟨_, rfl, _, rfl, _, rfl, ln, _, _, _, rfl, rfl, SqL.of gl6, hra, _, rfl, _, rfl, lq, _, _, _, rfl, rfl, SqL.of gq, atI_nat (j := 0) rfl, _, rfl, lq, _, _, _, rfl, rfl, SqL.of gq, atI_nat (j := 1) rfl, (by show 5 ≤ sizeLine; omega), fun t ht =>
      q dz (nx + 1) t (.move r r2 c1 c2) _ (by omega) ⟨hr_, hr2_, ne, c1a, c1b, c2a, c2b⟩ (xz.new ht) (new0 xz ht) upd_same⟩
end
end Wo

set_option Elab.async false
set_option maxRecDepth 100000
set_option linter.all false
set_option maxHeartbeats 4000000
namespace Sd
open PySem PySem.Spec PyProof.Rows L2 Tb
section
variable {prog : Program} {w : World} {A : Around} {E : Value → Shared → Prop} {s : Shared} {T : String} {r d : Addr} {n : Nat} {P : Nat → Value → Prop} {OK : Heap → Prop}
theorem collect_src {Q : List Value → Shared → Prop} (K : PySem.W.KdlSrc prog w T r d n P OK) (hh : A.handled = none) (hok : OK s.heap) (hn : n ≤ sizeLine)
    (hQ : ∀ h' tk acc, (∀ b o, s.heap.get? b = some o → h'.get? b = some o) → s.heap.objs.size < h'.objs.size → ItemsOf P acc n → Q acc.toList { s with heap := h', toks := tk }) : wpAny (model prog w) A (collect (.ref r)) Q E s := by
  unfold collect
  refine wpAny_bind (wpAny_runValue (codeAny_builtin entry_proto_collect' ?_))
  show wpAny _ _ (do again (.builtin "list.__iadd__" ⟨[← newList [], .ref r], []⟩)) _ _ s
  refine wpAny_bind (wpAny_newList (wpAny_pure ⟨Code.quiet_builtin _ (by decide +kernel), codeAny_builtin entry_list_iadd' ?_⟩))
  show wpAny _ _ (Builtin.List.listExtendWith (.ref s.heap.objs.size) (.ref r) (.ref s.heap.objs.size)) _ _ { s with heap := s.heap.push (seqObj "list" #[] 0) }
  have hlt := K.there _ hok
  refine PySem.W.kdl_extend (s := { s with heap := s.heap.push (seqObj "list" #[] 0) }) (R := fun r s' => match r with
      | .ok (.ret v) => wpAny (model prog w) A (match v with
          | .ref a => do
            let o ← load a
            match o.data with
            | .seq xs _ => pure xs.toList
            | _ => unsupported "internal:collect"
          | _ => unsupported "internal:collect") Q E s'
      | .ok _ => False
      | .error e => E e s') K hh (K.keep _ _ hok fun b _ o e => Heap.get?_push_of_some _ e) _ (Nat.ne_of_gt hlt.1) (Nat.ne_of_gt hlt.2) _ 0 (Heap.get?_push_size _ rfl) (fun h' tk acc c k hS hacc => ?_) hn
  show wpAny (model prog w) A (do
      let o ← load s.heap.objs.size
      match o.data with
      | .seq xs _ => pure xs.toList
      | _ => unsupported "internal:collect") Q E { s with heap := h', toks := tk }
  refine wpAny_bind (wpAny_load hS ?_)
  exact wpAny_pure (hQ h' tk acc (fun b o e => k b o (Nat.ne_of_lt (Heap.lt_size e)) (Heap.get?_push_of_some _ e)) (Heap.lt_size hS) hacc)
theorem kv_keys {κ : Type} {kvs : List (κ × V)} {vs : List (κ × Value)} (r : KV kvs vs) : kvs.map (·.1) = vs.map (·.1) := by
  unfold KV at r
  induction r with
  | nil => rfl
  | cons e _ ih => rw [List.map_cons, List.map_cons, e.1, ih]
theorem sorted_srcS {ns : List Str} {Q : Value → Shared → Prop} (K : PySem.W.KdlSrc prog w T r d n P OK) (hh : A.handled = none) (hok : OK s.heap) (h64 : n < 64) (hI : ∀ acc : Array Value, ItemsOf P acc n → StrsAre acc.toList ns)
    (h : ∀ (h' : Heap) (tk : Nat) (D : Addr) (out : Array Value) (ns' : List Str) (c : Nat), (∀ b o, s.heap.get? b = some o → h'.get? b = some o) → s.heap.objs.size ≤ D → StrsAre out.toList ns' → ns'.Perm ns → sortedS ns' = true → h'.get? D = some { cls := .type "list", data := .seq out c } →
      Q (.ref D) { s with heap := h', toks := tk }) :
    wpAny (model prog w) A (call (.builtin "sorted") [.ref r]) Q E s := by
  refine Calls.call_function_entry kind_sorted plain_sorted entry_sorted (args_sorted1 _) ?_
  unfold Builtin.«sorted»
  refine wpAny_bind (m := checkCount "sorted" 1 1 _) (wpAny_pure ?_)
  refine wpAny_bind (collect_src K hh hok (by rw [sizeLine_eq]; omega) fun h1 tk acc k1 hlt1 hacc => ?_)
  have hS := hI acc hacc
  have hlen : acc.toList.length = n := by rw [Array.length_toList]; exact hacc.1
  refine wpAny_bind (wpAny_newList ?_ (by rw [sizeLine_eq, hlen]; omega))
  have hoL : (h1.push (seqObj "list" acc.toList.toArray 0)).get? h1.objs.size = some (seqObj "list" acc.toList.toArray 0) := Heap.get?_push_size _ rfl
  show wpAny _ _ _ _ _ { s with heap := h1.push (seqObj "list" acc.toList.toArray 0), toks := tk }
  refine wpAny_bind (wpAny_holding (wpAny_call_entry slot_list_sort ⟨_, hoL, rfl⟩ entry_list_sort (list_sort_treeK strKind_oneLt hoL hS.keysOf (fun v₁ v₂ rest e => keyKind_strs (by rw [← e]; exact hS)) (by rw [hlen]; exact h64) fun st' hp hs => ⟨_, rfl, ?_⟩) (args_list_sort _)))
  obtain ⟨ns', a1, a2, a3⟩ := sorted_out_str hS hp hs
  obtain ⟨ep, he⟩ := sortedHeap_at (vs := acc.toList) (out := (arrOf st').map (·.2)) hoL
  refine wpAny_pure ⟨_, rfl, h _ _ _ _ ns' ep (fun b o e => ?_) (Nat.le_of_lt hlt1) a1 a2 a3 he⟩
  have lt : b < h1.objs.size := Heap.lt_size (k1 b o e)
  rw [sortedHeap_old (Nat.ne_of_lt lt) (by rw [size_push']; exact Nat.lt_succ_of_lt lt)]
  exact Heap.get?_push_of_some _ (k1 b o e)
end
section
variable {X : Cx}
theorem items_valsS {kvs : List (Key × V)} {vs : List (Key × Value)} {ns : List Str} {P : Program} {w : World} (kv : KV kvs vs) (hk : kvs.map (·.1) = ns.map Sum.inr) {acc : Array Value} (h : ItemsOf (fun i v => ∃ k x, vs[i]? = some (k, x) ∧ (mixKind P w).is k v = true) acc vs.length) : StrsAre acc.toList ns := by
  have hl : vs.length = ns.length := by
    have a := Paired.length kv
    have b := congrArg List.length hk
    rw [List.length_map, List.length_map] at b
    omega
  have hks : vs.map (·.1) = ns.map Sum.inr := by rw [← kv_keys kv]; exact hk
  obtain ⟨h1, h2⟩ := h
  have key : ∀ (l : List Value) (m : List Str), l.length = m.length → (∀ (i : Nat) (v : Value), l[i]? = some v → ∃ z t, m[i]? = some z ∧ v = Value.str z t) → StrsAre l m := by
    intro l
    induction l with
    | nil => intro m hm _; cases m with
      | nil => exact .nil
      | cons => simp at hm
    | cons v r ih =>
      intro m hm hv
      cases m with
      | nil => simp at hm
      | cons z m =>
        obtain ⟨z', t, e1, e2⟩ := hv 0 v rfl
        cases e1
        subst e2
        exact .cons z t (ih m (by simpa using hm) fun i v e => hv (i + 1) v e)
  refine key _ _ (by rw [Array.length_toList, h1, hl]) fun i v e => ?_
  obtain ⟨k, x, e1, e2⟩ := h2 i v (by rw [← Array.getElem?_toList]; exact e)
  have e3 : (vs.map (·.1))[i]? = some k := by rw [List.getElem?_map, e1]; rfl
  rw [hks, List.getElem?_map] at e3
  cases q : ns[i]? with
  | none => rw [q] at e3; cases e3
  | some z =>
    rw [q] at e3
    have e4 : k = Sum.inr z := (Option.some.inj e3).symm
    subst e4
    obtain ⟨t, rfl⟩ := (relV_key (show keyIs (Sum.inr z) v = true from e2) : RelV (kV (Sum.inr z)) v)
    exact ⟨z, t, rfl, rfl⟩
/-- sorted(d), d a dict whose keys are texts, fewer than 64 -/
def rSortedDS : List V → Hp → VK → Prop := fun vs H Q => ∃ (d : Addr) (kvs : List (Key × V)) (ns : List Str), vs = [V.ref d] ∧ H d = some (.dK kvs) ∧ kvs.map (·.1) = ns.map Sum.inr ∧ ns.length < 64 ∧
  ∀ (ns' : List Str) (p : Addr), ns'.Perm ns → sortedS ns' = true → H p = none → Q (.ref p) (upd H p (.lst (ns'.map V.str)))
theorem cr_sortedDS (hc : X.calm = true) : CallR X (.builtin "sorted") rSortedDS := by
  intro pins s σ H vs us Q I r h
  obtain ⟨d, kvs, ns, rfl, hd, hk, h64, q⟩ := h
  rw [Vals.ref1 r]
  obtain ⟨hz, hm, ws, kv, o, es, ep, ho, r2⟩ := (show ObjOk _ _ _ _ _ (.dK kvs) from I.hok d _ hd)
  have hl : ws.length = ns.length := by
    have a := Paired.length kv
    have b := congrArg List.length hk
    rw [List.length_map, List.length_map] at b
    omega
  have hat : s.heap.DictAt (mixKind X.prog X.w) d ws ep := ⟨o, es, ho, r2⟩
  refine sorted_srcS (ns := ns) (PySem.W.kdl_dict hm) (I.ok.hd hc) hat (by omega) (fun acc hacc => items_valsS kv hk hacc) fun h' tk D out ns' c k hD a1 a2 a3 he => ?_
  have hlen : (ns'.map V.str).length ≤ sizeLine := by rw [List.length_map, a2.length_eq]; exact small64 h64
  exact ⟨.ref D, upd H D (.lst (ns'.map V.str)), I.laid (t' := tk) k hD (show ObjOk X.prog X.w _ _ _ (.lst (ns'.map V.str)) from ⟨hlen, out.toList, c, vals_of_strs a1, he⟩), rfl, q ns' D a2 a3 (I.hok.fresh hD)⟩
end
/-! ### a sorted list of texts is told by its members -/
theorem lt_tri : ∀ {a b : List Nat}, ltCps a b = false → ltCps b a = false → a = b
  | [], [], _, _ => rfl
  | [], _ :: _, h, _ => by cases h
  | _ :: _, [], _, h => by cases h
  | a :: r, b :: t, h1, h2 => by
    have h1 : (decide (a < b) || (a == b && ltCps r t)) = false := h1
    have h2 : (decide (b < a) || (b == a && ltCps t r)) = false := h2
    simp only [Bool.or_eq_false_iff, decide_eq_false_iff_not] at h1 h2
    have e : a = b := by omega
    subst e
    have e1 : ltCps r t = false := by simpa using h1.2
    have e2 : ltCps t r = false := by simpa using h2.2
    rw [lt_tri e1 e2]
/-- not below: of two such steps one -/
theorem ge_trans : ∀ {a b c : List Nat}, ltCps b a = false → ltCps c b = false → ltCps c a = false
  | [], [], _, _, h => h
  | [], b :: t, [], _, _ => rfl
  | [], b :: t, c :: u, _, _ => rfl
  | a :: r, [], _, h, _ => by cases h
  | a :: r, b :: t, [], _, h => by cases h
  | a :: r, b :: t, c :: u, h1, h2 => by
    have h1 : (decide (b < a) || (b == a && ltCps t r)) = false := h1
    have h2 : (decide (c < b) || (c == b && ltCps u t)) = false := h2
    show (decide (c < a) || (c == a && ltCps u r)) = false
    simp only [Bool.or_eq_false_iff, decide_eq_false_iff_not] at h1 h2 ⊢
    refine ⟨by omega, ?_⟩
    by_cases e : c = a
    · subst e
      have e2 : b = c := by omega
      subst e2
      have e1 : ltCps t r = false := by simpa using h1.2
      have e3 : ltCps u t = false := by simpa using h2.2
      rw [ge_trans e1 e3]; simp
    · have : (c == a) = false := by simpa using e
      rw [this]; rfl
def leS (a b : Str) : Prop := ltCps b.cps.toList a.cps.toList = false
theorem rising_all : ∀ {l : List Str} {p : Str}, risingS p l = true → (∀ x ∈ l, leS p x) ∧ l.Pairwise leS
  | [], _, _ => ⟨(fun _ z => nomatch z), .nil⟩
  | x :: r, p, h => by
    have h : (!ltCps x.cps.toList p.cps.toList && risingS x r) = true := h
    rw [Bool.and_eq_true] at h
    have hp : leS p x := by have := h.1; simpa [leS] using this
    obtain ⟨a, b⟩ := rising_all h.2
    refine ⟨fun y hy => ?_, List.pairwise_cons.mpr ⟨a, b⟩⟩
    rcases List.mem_cons.mp hy with rfl | hy
    · exact hp
    · exact ge_trans hp (a y hy)
theorem sorted_pw : ∀ {l : List Str}, sortedS l = true → l.Pairwise leS
  | [], _ => .nil
  | x :: r, h => List.pairwise_cons.mpr (rising_all h)
theorem le_anti {a b : Str} (h1 : leS a b) (h2 : leS b a) : a = b := by
  have := lt_tri h2 h1
  cases a; cases b
  have e := congrArg List.toArray this
  simp at e
  rw [e]
theorem pw_one : ∀ {xs ys : List Str}, xs.Perm ys → xs.Pairwise leS → ys.Pairwise leS → xs = ys
  | [], ys, p, _, _ => by simpa using p.symm.eq_nil
  | x :: xs, [], p, _, _ => by simpa using p.eq_nil
  | x :: xs, y :: ys, p, h1, h2 => by
    obtain ⟨a1, a2⟩ := List.pairwise_cons.mp h1
    obtain ⟨b1, b2⟩ := List.pairwise_cons.mp h2
    have e : x = y := by
      have m1 : y ∈ x :: xs := p.symm.mem_iff.mp (List.mem_cons_self ..)
      have m2 : x ∈ y :: ys := p.mem_iff.mp (List.mem_cons_self ..)
      rcases List.mem_cons.mp m1 with e | m1
      · exact e.symm
      rcases List.mem_cons.mp m2 with e | m2
      · exact e
      exact le_anti (a1 y m1) (b1 x m2)
    subst e
    rw [pw_one ((List.perm_cons x).mp p) a2 b2]
theorem sorted_one {xs ys : List Str} (p : xs.Perm ys) (h1 : sortedS xs = true) (h2 : sortedS ys = true) : xs = ys := pw_one p (sorted_pw h1) (sorted_pw h2)
end Sd

set_option Elab.async false
set_option maxRecDepth 100000
set_option linter.all false
set_option maxHeartbeats 8000000
namespace Wo
open PySem L2 TL Rl Tb
/-! ### worlds -/
structure Wrld where
  names : List Str
  nums : List Int
  plans : List (List Rw)
  ords : List Int
  jolt : Bool
def keysR (rm : List (Str × Int)) : List (Key × V) := rm.map fun q => (Sum.inr q.1, V.int q.2)
def valR (rm : List (Str × Int)) (s : Str) : Int := ((rm.find? fun q => decide (q.1 = s)).map (·.2)).getD 0
abbrev rmO (rm : List (Str × Int)) : HO := .dK (keysR rm)
structure Wrld.ok (x : Wrld) (ah : Bool) (rm : List (Str × Int)) : Prop where
  r0 : 0 < rm.length
  r12 : rm.length ≤ 12
  nd : (rm.map (·.1)).Nodup
  lo : ∀ s ∈ rm.map (·.1), Lo s
  nb : ∀ q ∈ rm, Nb q.2
  perm : x.names.Perm (rm.map (·.1))
  srt : PyProof.Rows.sortedS x.names = true
  nums : x.nums = x.names.map (valR rm)
  p8 : x.plans.length ≤ 8
  ol : x.ords.length = x.plans.length
  on : ∀ o ∈ x.ords, Nb o
  rows : ∀ pl ∈ x.plans, pl.length ≤ 10 ∧ ∀ (k : Nat) (r : Rw), pl[k]? = some r → r.ok (rm.map (·.1)) (if ah = true then (k : Int) + 1 else 0) pl.length
theorem keysR_len (rm : List (Str × Int)) : (keysR rm).length = rm.length := List.length_map ..
theorem keysR_val (s : Str) : ∀ rm : List (Str × Int), valV (keysR rm) (Sum.inr s) = (rm.find? fun q => decide (q.1 = s)).map fun q => V.int q.2
  | [] => rfl
  | (a, x) :: rm => by
    by_cases h : a = s
    · subst h
      rw [List.find?_cons_of_pos (by simp)]
      exact valV_pos rfl
    · rw [List.find?_cons_of_neg (by simpa using h), ← keysR_val s rm]
      exact valV_neg fun z => h (by injection z)
theorem find_in {s : Str} : ∀ {rm : List (Str × Int)}, s ∈ rm.map (·.1) → (rm.find? fun q => decide (q.1 = s)).isSome = true
  | (a, x) :: rm, h => by
    by_cases e : a = s
    · rw [List.find?_cons_of_pos (by simpa using e)]; rfl
    · rw [List.find?_cons_of_neg (by simpa using e)]
      refine find_in ?_
      rcases List.mem_cons.mp h with z | z
      · exact absurd z.symm e
      · exact z
theorem keysR_in {s : Str} {rm : List (Str × Int)} (h : s ∈ rm.map (·.1)) : valV (keysR rm) (Sum.inr s) = some (V.int (valR rm s)) := by
  rw [keysR_val]
  unfold valR
  have := find_in h
  cases e : rm.find? fun q => decide (q.1 = s) with
  | none => rw [e] at this; cases this
  | some q => rfl
theorem keysR_out {s : Str} {rm : List (Str × Int)} (h : s ∉ rm.map (·.1)) : valV (keysR rm) (Sum.inr s) = none := by
  rw [keysR_val]
  have : (rm.find? fun q => decide (q.1 = s)) = none := List.find?_eq_none.mpr fun q hq z => h (List.mem_map.mpr ⟨q, hq, by simpa using z⟩)
  rw [this]; rfl
theorem keysR_put {s : Str} {x : Int} {rm : List (Str × Int)} (h : s ∉ rm.map (·.1)) : putK (keysR rm) (Sum.inr s) (V.int x) = keysR (rm ++ [(s, x)]) := by
  rw [putK_new _ (keysR_out h)]
  unfold keysR
  rw [List.map_append]; rfl
theorem pr_mono {α β : Type} {R S : α → β → Prop} (h : ∀ a b, R a b → S a b) : ∀ {xs : List α} {ys : List β}, Paired R xs ys → Paired S xs ys
  | _, _, .nil => .nil
  | _, _, .cons r t => .cons (h _ _ r) (pr_mono h t)
theorem pr_memL {α β : Type} {R : α → β → Prop} : ∀ {xs : List α} {ys : List β}, Paired R xs ys → Paired (fun a b => R a b ∧ a ∈ xs) xs ys
  | _, _, .nil => .nil
  | _, _, .cons r t => .cons ⟨r, List.mem_cons_self ..⟩ (pr_mono (fun _ _ h => ⟨h.1, List.mem_cons_of_mem _ h.2⟩) (pr_memL t))
theorem pr_len {α β : Type} {R : α → β → Prop} : ∀ {xs : List α} {ys : List β}, Paired R xs ys → xs.length = ys.length
  | _, _, .nil => rfl
  | _, _, .cons _ t => congrArg (· + 1) (pr_len t)
theorem pr_add {α β : Type} {R : α → β → Prop} {a : α} {b : β} : ∀ {xs : List α} {ys : List β}, Paired R xs ys → R a b → Paired R (xs ++ [a]) (ys ++ [b])
  | _, _, .nil, h => .cons h .nil
  | _, _, .cons r t, h => .cons r (pr_add t h)
theorem sameNew {H : Hp} {a : Addr} {o : HO} (h : H a = none) : Same H (upd H a o) := fun b u e => by rw [upd_ne (ne_of_none e h)]; exact e
def RwAt (H : Hp) (a : Addr) (r : Rw) : Prop := H a = some (.tup r.v)
def PlanAt (H : Hp) (p : Addr) (rs : List Rw) : Prop := ∃ as : List Addr, H p = some (.lst (as.map V.ref)) ∧ Paired (RwAt H) as rs
def WAt (H : Hp) (t : Addr) (x : Wrld) : Prop := ∃ (ln lv lp lo : Addr) (ps : List Addr), H t = some (.tup [.ref ln, .ref lv, .ref lp, .ref lo, .bl x.jolt]) ∧ H ln = some (.lst (x.names.map V.str)) ∧ H lv = some (.lst (x.nums.map V.int)) ∧
  H lp = some (.lst (ps.map V.ref)) ∧ Paired (PlanAt H) ps x.plans ∧ H lo = some (.lst (x.ords.map V.int))
theorem PlanAt.same {H H' : Hp} {p : Addr} {rs : List Rw} (s : Same H H') (h : PlanAt H p rs) : PlanAt H' p rs := let ⟨as, a, b⟩ := h; ⟨as, s _ _ a, pr_mono (fun _ _ h => s _ _ h) b⟩
theorem WAt.same {H H' : Hp} {t : Addr} {x : Wrld} (s : Same H H') (h : WAt H t x) : WAt H' t x := let ⟨ln, lv, lp, lo, ps, a, b, c, d, e, f⟩ := h
  ⟨ln, lv, lp, lo, ps, s _ _ a, s _ _ b, s _ _ c, s _ _ d, pr_mono (fun _ _ h => h.same s) e, s _ _ f⟩
/-- only the list at p is changed -/
theorem PlanAt.chg {H H' : Hp} {p q : Addr} {rs : List Rw} {xs : List V} (hp : H p = some (.lst xs)) (k : ∀ b o, H b = some o → b ≠ p → H' b = some o) (n : q ≠ p) (h : PlanAt H q rs) : PlanAt H' q rs :=
  let ⟨as, a, b⟩ := h; ⟨as, k _ _ a n, pr_mono (fun _ _ h => k _ _ h fun z => by rw [z, hp] at h; cases h) b⟩
structure Bld (H0 H : Hp) (p ln dR lp lo : Addr) (d c n : Int) (ss : List Str) (rm : List (Str × Int)) (ps : List Addr) (pls : List (List Rw)) (os : List Int) : Prop where
  sm : Same H0 H
  src : H p = some (srcO d c n)
  sb : Sb d c n
  ls : H ln = some (.lst (ss.map V.str))
  dr : H dR = some (rmO rm)
  hp : H lp = some (.lst (ps.map V.ref))
  ho : H lo = some (.lst (os.map V.int))
  pl : Paired (PlanAt H) ps pls
  nq : ∀ x ∈ ps, x ≠ p ∧ x ≠ lp ∧ x ≠ lo
  ap : p ≠ ln ∧ p ≠ lp ∧ p ≠ lo ∧ ln ≠ lp ∧ ln ≠ lo ∧ lp ≠ lo
  f0 : H0 p = none ∧ H0 lp = none ∧ H0 lo = none
section
variable {H0 H H' : Hp} {p ln dR lp lo : Addr} {d c n : Int} {ss : List Str} {rm : List (Str × Int)} {ps : List Addr} {pls : List (List Rw)} {os : List Int}
theorem Bld.same (x : Bld H0 H p ln dR lp lo d c n ss rm ps pls os) (s : Same H H') : Bld H0 H' p ln dR lp lo d c n ss rm ps pls os :=
  ⟨x.sm.trans s, s _ _ x.src, x.sb, s _ _ x.ls, s _ _ x.dr, s _ _ x.hp, s _ _ x.ho, pr_mono (fun _ _ h => h.same s) x.pl, x.nq, x.ap, x.f0⟩
theorem Bld.draw {d' n' : Int} (x : Bld H0 H p ln dR lp lo d c n ss rm ps pls os) (y : Dw H H' p d' c n') : Bld H0 H' p ln dR lp lo d' c n' ss rm ps pls os :=
  ⟨fun b o e => y.k b o (x.sm b o e) (fun z => by rw [z, x.f0.1] at e; cases e), y.src, y.sb, y.k _ _ x.ls x.ap.1.symm, y.k _ _ x.dr (ne_of x.dr x.src (by intro z; cases z)), y.k _ _ x.hp x.ap.2.1.symm, y.k _ _ x.ho x.ap.2.2.1.symm,
    pr_mono (fun _ _ h => h.1.chg x.src y.k (x.nq _ h.2).1) (pr_memL x.pl), x.nq, x.ap, x.f0⟩
theorem Bld.addO (x : Bld H0 H p ln dR lp lo d c n ss rm ps pls os) (i : Int) : Bld H0 (upd H lo (.lst (os.map V.int ++ [V.int i]))) p ln dR lp lo d c n ss rm ps pls (os ++ [i]) := by
  have k : ∀ b o, H b = some o → b ≠ lo → upd H lo (.lst (os.map V.int ++ [V.int i])) b = some o := fun b o e hb => by rw [upd_ne hb]; exact e
  exact ⟨fun b o e => k b o (x.sm b o e) (fun z => by rw [z, x.f0.2.2] at e; cases e), k _ _ x.src x.ap.2.2.1, x.sb, k _ _ x.ls x.ap.2.2.2.2.1, k _ _ x.dr (ne_of x.dr x.ho (by intro z; cases z)), k _ _ x.hp x.ap.2.2.2.2.2, by rw [upd_same, List.map_append]; rfl,
    pr_mono (fun _ _ h => h.1.chg x.ho k (x.nq _ h.2).2.2) (pr_memL x.pl), x.nq, x.ap, x.f0⟩
theorem Bld.addP {q : Addr} {rs : List Rw} (x : Bld H0 H p ln dR lp lo d c n ss rm ps pls os) (h : PlanAt H q rs) (h1 : q ≠ p) (h2 : q ≠ lp) (h3 : q ≠ lo) : Bld H0 (upd H lp (.lst (ps.map V.ref ++ [V.ref q]))) p ln dR lp lo d c n ss rm (ps ++ [q]) (pls ++ [rs]) os := by
  have k : ∀ b o, H b = some o → b ≠ lp → upd H lp (.lst (ps.map V.ref ++ [V.ref q])) b = some o := fun b o e hb => by rw [upd_ne hb]; exact e
  refine ⟨fun b o e => k b o (x.sm b o e) (fun z => by rw [z, x.f0.2.1] at e; cases e), k _ _ x.src x.ap.2.1, x.sb, k _ _ x.ls x.ap.2.2.2.1, k _ _ x.dr (ne_of x.dr x.hp (by intro z; cases z)), by rw [upd_same, List.map_append]; rfl, k _ _ x.ho x.ap.2.2.2.2.2.symm,
    pr_add (pr_mono (fun _ _ h => h.1.chg x.hp k (x.nq _ h.2).2.1) (pr_memL x.pl)) (h.chg x.hp k h2), fun y hy => ?_, x.ap, x.f0⟩
  rcases List.mem_append.mp hy with hy | hy
  · exact x.nq y hy
  · rw [List.mem_singleton.mp hy]; exact ⟨h1, h2, h3⟩
end
def lowsI (ah : Bool) (k : Nat) : List Int := (List.range k).map fun (j : Nat) => if ah = true then (j : Int) + 1 else 0
theorem lowsI_len (ah : Bool) (k : Nat) : (lowsI ah k).length = k := by unfold lowsI; rw [List.length_map, List.length_range]
theorem lowsI_add (ah : Bool) (k : Nat) : lowsI ah (k + 1) = lowsI ah k ++ [if ah = true then (k : Int) + 1 else 0] := by unfold lowsI; rw [List.range_succ, List.map_append]; rfl
theorem lowsI_at (ah : Bool) {k j : Nat} (h : j < k) : (lowsI ah k)[j]? = some (if ah = true then (j : Int) + 1 else 0) := by unfold lowsI; rw [List.getElem?_map, List.getElem?_range h]; rfl
def spWorld (K : PySem.W.Frag) : Sp := fun vs H Q _ => ∃ (a : Addr) (ns : List Int) (lw : Addr) (ws : List Str) (ah : Bool), vs = [.ref a, .ref lw, .bl ah] ∧ SqL K H a (ns.map V.int) ∧ ns.length ≤ 63 ∧ H lw = some (.lst (ws.map V.str)) ∧ 0 < ws.length ∧ ws.length ≤ 11 ∧ (∀ x ∈ ws, x ∈ words) ∧
  ∀ (t dR tw : Addr) (x : Wrld) (rm : List (Str × Int)) (H' : Hp), x.ok ah rm → Same H H' → H' t = some (.tup [.ref dR, .ref tw]) → H' dR = some (rmO rm) → WAt H' tw x → Q (.ref t) H'
section
variable {P : Program} {w : World} {K : PySem.W.Frag} {mg : Str → Option Value} {base : Heap}
theorem scLWorld : FnScope ["_law_script", "_law_words", "_law_ahead", "_law_source_here", "_law_names_here", "_law_rooms", "_law_name", "_law_plans", "_law_orders", "_law_even", "_law_guest", "_law_rows", "_law_size", "_law_lows", "_law_k", "_law_low", "_law_plan", "_law_numbers"] ["_law_script", "_law_words", "_law_ahead"] (defScope sLWorld) := ⟨rfl, rfl, rfl, by decide +kernel, rfl, by decide +kernel, by decide +kernel⟩
theorem ok_world {f fD fN fS fNA fRO : Addr} {fd fdD fdN fdS fdNA fdRO : FuncData} (F : Fun K "_law_world" "_law_world" sLWorld f fd) (G : Glb mg) (GD : FnOk P w K mg base CX0 1 fD fdD ["_law_source_here", "_law_many"] spDraw) (mgD : mg "_law_draw" = some (.ref fD)) (kpD : PySem.W.keepIn K (.ref fD) = true) (bD : Binds K fdD ["_law_source_here", "_law_many"] [])
    (GN : FnOk P w K mg base CX0 2 fN fdN ["_law_source_here"] spNumber) (mgN : mg "_law_number" = some (.ref fN)) (kpN : PySem.W.keepIn K (.ref fN) = true) (bN : Binds K fdN ["_law_source_here"] [])
    (GS : FnOk P w K mg base CX0 1 fS fdS ["_law_script", "_law_k"] (spSource K)) (mgS : mg "_law_source" = some (.ref fS)) (kpS : PySem.W.keepIn K (.ref fS) = true) (bS : Binds K fdS ["_law_script", "_law_k"] [])
    (GNA : FnOk P w K mg base CX0 2 fNA fdNA ["_law_source_here", "_law_many"] spNames) (mgNA : mg "_law_names" = some (.ref fNA)) (kpNA : PySem.W.keepIn K (.ref fNA) = true) (bNA : Binds K fdNA ["_law_source_here", "_law_many"] [])
    (GRO : FnOk P w K mg base CX0 3 fRO fdRO ["_law_source_here", "_law_names_here", "_law_size", "_law_words", "_law_low"] spRowOf) (mgRO : mg "_law_row_of" = some (.ref fRO)) (kpRO : PySem.W.keepIn K (.ref fRO) = true) (bRO : Binds K fdRO ["_law_source_here", "_law_names_here", "_law_size", "_law_words", "_law_low"] []) : FnOk P w K mg base CX0 4 f fd ["_law_script", "_law_words", "_law_ahead"] (spWorld K) := by
  refine F.ok scLWorld (fun vs H Q E h => ?_) (fun cdv A outer s H vs Q E hr h => ?_)
  · obtain ⟨a, nsc, lw, ws, ah, rfl, _⟩ := h
    rfl
  · obtain ⟨a, nsc, lw, ws, ah, rfl, hS, hl63, hlw, w0, w11, hws, q⟩ := h
    have hu := hu_of hr
    have hr3 : Room 3 _ := hr
    have hr2 : Room 2 _ := hr.mono (by decide)
    have hr1 : Room 1 _ := hr.mono (by decide)
    have zz : 300 < sizeLine := by rw [sizeLine_eq]; decide
    have sm : ∀ m : Int, 0 < m → m ≤ 1000 → m.natAbs.log2 < 9000 := fun m h0 h1 => log_small h0 (by omega)
    have pa_cons := @pa_cons
    have pa_nil := @pa_nil
    have pe_bm := @pe_bm
    have pe_call := @pe_call
    have pe_callB := @pe_callB
    have pe_callTy := @pe_callTy
    have pe_cmpR := @pe_cmpR
    have pe_dget := @pe_dget
    have pe_dnewK := @pe_dnewK
    have pe_int := @pe_int
    have pe_ix := @pe_ix
    have pe_lc := @pe_lc
    have pe_lst := @pe_lst
    have pe_op := @pe_op
    have pe_tup := @pe_tup
    have pg_name := @pg_name
    have pi_list := @pi_list
    have pi_range1 := @pi_range1
    have ps_dput := @ps_dput
    have ps_expr := @ps_expr
    have ps_for := @ps_for
    have ps_if := @ps_if
    have ps_ret := @ps_ret
    have ps_set := @ps_set
    have ps_setLc := @ps_setLc
    have pss_cons := @pss_cons
    have pss_cut := @pss_cut
    have pss_nil := @pss_nil
    have pss_one := @pss_one
    have pt_val := @pt_val
    have pts_nil := @pts_nil
    have pv := @pv
    revert pa_cons pa_nil pe_bm pe_call pe_callB pe_callTy pe_cmpR pe_dget pe_dnewK pe_int pe_ix pe_lc pe_lst pe_op pe_tup pg_name pi_list pi_range1 ps_dput ps_expr ps_for ps_if ps_ret ps_set ps_setLc pss_cons pss_cut pss_nil pss_one pt_val pts_nil pv
    generalize @L2.PS = vPS
    generalize @L2.PSs = vPSs
    generalize @L2.PE = vPE
    generalize @L2.PT = vPT
    generalize @L2.PW = vPW
    generalize @L2.PC = vPC
    generalize @L2.PA = vPA
    generalize @L2.PG = vPG
    generalize @L2.PI = vPI
    generalize @L2.PO = vPO
    generalize @L2.PTs = vPTs
    generalize @L2.PPs = vPPs
    generalize @L2.PGs = vPGs
    generalize @L2.PK = vPK
    intro pa_cons pa_nil pe_bm pe_call pe_callB pe_callTy pe_cmpR pe_dget pe_dnewK pe_int pe_ix pe_lc pe_lst pe_op pe_tup pg_name pi_list pi_range1 ps_dput ps_expr ps_for ps_if ps_ret ps_set ps_setLc pss_cons pss_cut pss_nil pss_one pt_val pts_nil pv
    refine ⟨_, (pss_cons (ps_set (i := 3) scLWorld.nd rfl (Or.inl rfl) (pe_call GS hr1 (by rfl) mgS kpS bS .nil pass0 (pa_cons (pv 0) (pa_cons pe_int pa_nil))))
      (pss_cons (ps_set (i := 4) scLWorld.nd rfl (Or.inr rfl) (pe_call GNA hr2 (by rfl) mgNA kpNA bNA .nil pass0 (pa_cons (pv 3) (pa_cons (pe_op op_add pe_int (pe_call GD hr1 (by rfl) mgD kpD bD .nil pass0 (pa_cons (pv 3) (pa_cons (pe_ix ix_list (pe_lst (pa_cons pe_int (pa_cons pe_int (pa_cons pe_int (pa_cons pe_int pa_nil))))) (pe_call GD hr1 (by rfl) mgD kpD bD .nil pass0 (pa_cons (pv 3) (pa_cons pe_int pa_nil))) (fun _ _ => rfl)) pa_nil)))) pa_nil))))
      (pss_cons (ps_set (i := 5) scLWorld.nd rfl (Or.inr rfl) pe_dnewK)
      (pss_cut (ps_for PassesOwn.never rfl (pi_list (pv 4)) (pg_name (i := 6) scLWorld.nd rfl (Or.inl rfl)) (pss_one (ps_dput hu (pv 5) (pv 6) (pe_call GN hr2 (by rfl) mgN kpN bN .nil pass0 (pa_cons (pv 3) pa_nil)) rfl)))
      (pss_cons (ps_set (i := 7) scLWorld.nd rfl (Or.inl rfl) (pe_lst pa_nil))
      (pss_cons (ps_set (i := 8) scLWorld.nd rfl (Or.inl rfl) (pe_lst pa_nil))
      (pss_cons (ps_set (i := 9) scLWorld.nd rfl (Or.inl rfl) (pe_cmpR op_eq (pe_call GD hr1 (by rfl) mgD kpD bD .nil pass0 (pa_cons (pv 3) (pa_cons pe_int pa_nil))) pe_int (nomark _)))
      (pss_cut (ps_for PassesOwn.never rfl (pi_range1 rfl G.range (pa_cons (pe_ix ix_list (pe_lst (pa_cons pe_int (pa_cons pe_int (pa_cons pe_int (pa_cons pe_int (pa_cons pe_int (pa_cons pe_int (pa_cons pe_int (pa_cons pe_int pa_nil))))))))) (pe_call GD hr1 (by rfl) mgD kpD bD .nil pass0 (pa_cons (pv 3) (pa_cons pe_int pa_nil))) (fun _ _ => rfl)) pa_nil)) (pg_name (i := 10) scLWorld.nd rfl (Or.inl rfl)) (pss_cons (ps_set (i := 11) scLWorld.nd rfl (Or.inr rfl) (pe_call GS hr1 (by rfl) mgS kpS bS .nil pass0 (pa_cons (pv 0) (pa_cons (pe_op op_add pe_int (pv 10)) pa_nil))))
      (pss_cons (ps_set (i := 12) scLWorld.nd rfl (Or.inr rfl) (pe_call GD hr1 (by rfl) mgD kpD bD .nil pass0 (pa_cons (pv 11) (pa_cons pe_int pa_nil))))
      (pss_cut (ps_setLc (i := 13) (own := [("_law_k", 14)]) (g := (gName 14)) (by rfl) scLWorld.nd rfl rfl (sw_true rfl rfl rfl (by decide +kernel)) (pi_range1 rfl G.range (pa_cons (pv 12) pa_nil)) (blkOk_by (own := [("_law_k", 14)]) (N := ["_law_script", "_law_words", "_law_ahead", "_law_source_here", "_law_names_here", "_law_rooms", "_law_name", "_law_plans", "_law_orders", "_law_even", "_law_guest", "_law_rows", "_law_size", "_law_lows", "_law_k", "_law_low", "_law_plan", "_law_numbers"]) (sc := defScope sLWorld) (by decide +kernel)) (fun _ _ _ _ _ => (pg_name (i := 14) scLWorld.nd rfl (Or.inl rfl))) (fun _ _ _ _ _ => pts_nil) (fun _ _ _ _ _ => (pe_op op_mul (pe_op op_add (pv 14) pe_int) (pe_callTy call_int1 (by rfl) G.int (by decide +kernel) (pa_cons (pv 2) pa_nil)))))
      (pss_cut (ps_expr (pe_bm PySem.F.plainAttrs_list PySem.F.slot_list_append PySem.F.type_list_append mt_append (pv 7) (pa_cons (pe_lc (own := [("_law_low", 15)]) (g := (gName 15)) (by rfl) scLWorld.nd (pi_list (pv 13)) (blkOk_by (own := [("_law_low", 15)]) (N := ["_law_script", "_law_words", "_law_ahead", "_law_source_here", "_law_names_here", "_law_rooms", "_law_name", "_law_plans", "_law_orders", "_law_even", "_law_guest", "_law_rows", "_law_size", "_law_lows", "_law_k", "_law_low", "_law_plan", "_law_numbers"]) (sc := defScope sLWorld) (by decide +kernel)) (fun _ _ _ _ _ => (pg_name (i := 15) scLWorld.nd rfl (Or.inl rfl))) (fun _ _ _ _ _ => pts_nil) (fun _ _ _ _ _ => (pe_call GRO hr3 (by rfl) mgRO kpRO bRO .nil pass0 (pa_cons (pv 11) (pa_cons (pv 4) (pa_cons (pv 12) (pa_cons (pv 1) (pa_cons (pv 15) pa_nil)))))))) pa_nil)))
      (pss_one (ps_expr (pe_bm PySem.F.plainAttrs_list PySem.F.slot_list_append PySem.F.type_list_append mt_append (pv 8) (pa_cons (pe_ix ix_list (pe_lst (pa_cons (pe_op op_sub (pe_call GD hr1 (by rfl) mgD kpD bD .nil pass0 (pa_cons (pv 3) (pa_cons pe_int pa_nil))) pe_int) (pa_cons (pe_call GN hr2 (by rfl) mgN kpN bN .nil pass0 (pa_cons (pv 3) pa_nil)) (pa_cons pe_int pa_nil)))) (pe_call GD hr1 (by rfl) mgD kpD bD .nil pass0 (pa_cons (pv 3) (pa_cons pe_int pa_nil))) (fun _ _ => rfl)) pa_nil)))))))))
      (pss_cut (ps_if (pt_val (pv 9)) (pss_one (ps_setLc (i := 8) (own := [("_law_plan", 16)]) (g := (gName 16)) (by rfl) scLWorld.nd rfl rfl (sw_true rfl rfl rfl (by decide +kernel)) (pi_list (pv 7)) (blkOk_by (own := [("_law_plan", 16)]) (N := ["_law_script", "_law_words", "_law_ahead", "_law_source_here", "_law_names_here", "_law_rooms", "_law_name", "_law_plans", "_law_orders", "_law_even", "_law_guest", "_law_rows", "_law_size", "_law_lows", "_law_k", "_law_low", "_law_plan", "_law_numbers"]) (sc := defScope sLWorld) (by decide +kernel)) (fun _ _ _ _ _ => (pg_name (i := 16) scLWorld.nd rfl (Or.inl rfl))) (fun _ _ _ _ _ => pts_nil) (fun _ _ _ _ _ => pe_int))) pss_nil)
      (pss_cut (ps_setLc (i := 17) (own := [("_law_name", 6)]) (g := (gName 6)) (by rfl) scLWorld.nd rfl rfl (sw_true rfl rfl rfl (by decide +kernel)) (pi_list (pe_callB cr_sortedS (by rfl) G.sorted PyProof.Rows.boot_sorted (pa_cons (pv 4) pa_nil))) (blkOk_by (own := [("_law_name", 6)]) (N := ["_law_script", "_law_words", "_law_ahead", "_law_source_here", "_law_names_here", "_law_rooms", "_law_name", "_law_plans", "_law_orders", "_law_even", "_law_guest", "_law_rows", "_law_size", "_law_lows", "_law_k", "_law_low", "_law_plan", "_law_numbers"]) (sc := defScope sLWorld) (by decide +kernel)) (fun _ _ _ _ _ => (pg_name (i := 6) scLWorld.nd rfl (Or.inl rfl))) (fun _ _ _ _ _ => pts_nil) (fun _ _ _ _ _ => (pe_dget hu (pv 5) (pv 6) (fun _ _ => rfl))))
      (pss_one (ps_ret (pe_tup (pa_cons (pv 5) (pa_cons (pe_tup (pa_cons (pe_callB cr_sortedS (by rfl) G.sorted PyProof.Rows.boot_sorted (pa_cons (pv 4) pa_nil)) (pa_cons (pv 17) (pa_cons (pv 7) (pa_cons (pv 8) (pa_cons (pe_cmpR op_eq (pe_call GD hr1 (by rfl) mgD kpD bD .nil pass0 (pa_cons (pv 3) (pa_cons pe_int pa_nil))) pe_int (nomark _)) pa_nil)))))) pa_nil))))))))))))))), ?_⟩
    -- the source
    refine ⟨_, rfl, a, nsc, 0, rfl, hS, hl63, by decide, by decide, fun p d c hp sb => ?_⟩
    have s1 : Same H (upd H p (srcO d c 0)) := sameNew hp
    have g1 : (upd H p (srcO d c 0)) p = some (srcO d c 0) := upd_same
    generalize upd H p (srcO d c 0) = H1 at s1 g1
    -- the names
    refine ⟨_, rfl, _, rfl, by show 4 ≤ sizeLine; omega, fun l0 hl0 => ?_⟩
    have x2 := (Dw.refl g1 sb).new (o := .lst [.int 12, .int 3, .int 4, .int 5]) hl0
    have g2 : (upd H1 l0 (.lst [.int 12, .int 3, .int 4, .int 5])) l0 = some (.lst [.int 12, .int 3, .int 4, .int 5]) := upd_same
    have n0 : l0 ≠ p := (ne_of_none g1 hl0).symm
    generalize upd H1 l0 (.lst [.int 12, .int 3, .int 4, .int 5]) = H2 at x2 g2
    refine ⟨_, rfl, p, d, c, 0, 4, rfl, x2.src, x2.sb, by decide, by decide, sm _ (by decide) (by decide), fun d3 r3 y0 y1 sb3 => ?_⟩
    have x3 := x2.draw sb3
    have g3 : (upd H2 p (srcO d3 c (0 + 1))) l0 = some (.lst [.int 12, .int 3, .int 4, .int 5]) := by rw [upd_ne n0]; exact g2
    generalize upd H2 p (srcO d3 c (0 + 1)) = H3 at x3 g3
    have hm : ∃ m : Int, 0 < m ∧ m ≤ 12 ∧ atI [V.int 12, V.int 3, V.int 4, V.int 5] r3 = some (.int m) := by
      rcases (show r3 = 0 ∨ r3 = 1 ∨ r3 = 2 ∨ r3 = 3 by omega) with rfl | rfl | rfl | rfl
      · exact ⟨12, by decide, by decide, atI_nat (j := 0) rfl⟩
      · exact ⟨3, by decide, by decide, atI_nat (j := 1) rfl⟩
      · exact ⟨4, by decide, by decide, atI_nat (j := 2) rfl⟩
      · exact ⟨5, by decide, by decide, atI_nat (j := 3) rfl⟩
    obtain ⟨m, m0, m12, hma⟩ := hm
    refine ⟨l0, _, _, _, rfl, rfl, SqL.of g3, hma, p, d3, c, 0 + 1, m, rfl, x3.src, x3.sb, by decide, m0, sm _ m0 (by omega), fun d4 r4 z0 z1 sb4 => ⟨_, _, rfl, rfl, ?_⟩⟩
    have x4 := x3.draw sb4
    generalize upd H3 p (srcO d4 c (0 + 1 + 1)) = H4 at x4
    refine ⟨p, d4, c, 0 + 1 + 1, _, rfl, x4.src, x4.sb, by decide, by omega, by omega, fun ln d5 n5 ss H5 hln hn5 x5 hss => ?_⟩
    have s5 : Same H H5 := fun b o e => by
      have nb : b ≠ p := fun z => by rw [z, hp] at e; cases e
      exact x5.kp b o (x4.k b o (s1 b o e) nb) nb
    have f5 : H p = none := hp
    have nln : ln ≠ p := (ne_of_none x4.src hln).symm
    have ss12 : ss.length ≤ 12 := by omega
    have ss0 : 0 < ss.length := by omega
    -- the rooms
    intro dR hdR
    have ndp : dR ≠ p := (ne_of_none x5.src hdR).symm
    have ndl : dR ≠ ln := (ne_of_none x5.ls hdR).symm
    have s6 : Same H (upd H5 dR (.dK [])) := s5.trans (sameNew hdR)
    refine ⟨fun σ' H' => ∃ (v6 : Option V) (d6 n6 : Int) (rm : List (Str × Int)), σ' = [some (.ref a), some (.ref lw), some (.bl ah), some (.ref p), some (.ref ln), some (.ref dR), v6, none, none, none, none, none, none, none, none, none, none, none] ∧ Same H H' ∧ H' p = some (srcO d6 c n6) ∧ Sb d6 c n6 ∧ n6 ≤ 300 ∧ H' ln = some (.lst (ss.map V.str)) ∧ H' dR = some (rmO rm) ∧ rm.map (·.1) = ss ∧ ∀ z ∈ rm, Nb z.2, ?_, ?_⟩
    · refine ⟨_, rfl, ln, rfl, ⟨_, SqL.of (by rw [upd_ne ndl.symm]; exact x5.ls)⟩, for_list (xs := ss.map V.str) (fun i σ' H' => ∃ (v6 : Option V) (d6 n6 : Int) (rm : List (Str × Int)), σ' = [some (.ref a), some (.ref lw), some (.bl ah), some (.ref p), some (.ref ln), some (.ref dR), v6, none, none, none, none, none, none, none, none, none, none, none] ∧ Same H H' ∧ H' p = some (srcO d6 c n6) ∧ Sb d6 c n6 ∧ n6 ≤ n5 + 2 * i ∧ H' ln = some (.lst (ss.map V.str)) ∧ H' dR = some (rmO rm) ∧ rm.map (·.1) = ss.take i ∧ ∀ z ∈ rm, Nb z.2)
        ⟨none, d5, n5, [], rfl, s6, by rw [upd_ne ndp.symm]; exact x5.src, x5.sb, by omega, by rw [upd_ne ndl.symm]; exact x5.ls, upd_same, rfl, fun _ z => nomatch z⟩ ?_ ?_ ?_⟩
      · rintro i σ' H' _ ⟨v6, d6, n6, rm, rfl, _, _, _, _, h, _⟩
        exact SqL.of h
      · rintro i x _ H' hi ⟨v6, d6, n6, rm, rfl, sH, gs, sb6, hn6, gl, gd, er, hnb⟩
        obtain ⟨s, rfl, hsi⟩ : ∃ s, x = V.str s ∧ ss[i]? = some s := by
          rw [List.getElem?_map] at hi
          cases e : ss[i]? with
          | none => rw [e] at hi; cases hi
          | some s => rw [e] at hi; exact ⟨s, (Option.some.inj hi).symm, rfl⟩
        have li : i < ss.length := (List.getElem?_eq_some_iff.mp hsi).1
        refine ⟨_, rfl, p, d6, c, n6, rfl, gs, sb6, by omega, fun d7 n7 r7 H7 hn7 ra rb x7 => ?_⟩
        have gd7 := x7.k _ _ gd ndp
        have gl7 := x7.k _ _ gl nln
        have hout : s ∉ rm.map (·.1) := by
          rw [er]
          intro z
          obtain ⟨j, hj⟩ := List.getElem?_of_mem z
          rw [List.getElem?_take] at hj
          split at hj
          · rename_i lt
            have := (List.getElem?_inj li x5.nd).mp (hsi.trans hj.symm)
            omega
          · cases hj
        have e7 := keysR_put (x := r7) hout
        have k7 : ∀ b o, H7 b = some o → b ≠ dR → upd H7 dR (.dK (putK (keysR rm) (Sum.inr s) (V.int r7))) b = some o := fun b o e hb => by rw [upd_ne hb]; exact e
        refine ⟨_, rfl, _, rfl, dR, _, rfl, DPut.k (k := Sum.inr s) gd7 (by rw [keysR_len]; have := congrArg List.length er; rw [List.length_map, List.length_take] at this; omega), ?_⟩
        refine ⟨_, d7, n7, rm ++ [(s, r7)], rfl, fun b o e => k7 b o (x7.k b o (sH b o e) (fun z => by rw [z, hp] at e; cases e)) (fun z => by rw [z, s5.free hdR] at e; cases e), k7 _ _ x7.src ndp.symm, x7.sb, by omega, k7 _ _ gl7 ndl.symm, by rw [upd_same, e7], ?_, fun z hz => ?_⟩
        · rw [List.map_append, er]
          show ss.take i ++ [s] = ss.take (i + 1)
          rw [List.take_succ, hsi]; rfl
        · rcases List.mem_append.mp hz with hz | hz
          · exact hnb z hz
          · rw [List.mem_singleton.mp hz]; exact ⟨ra, rb⟩
      · rintro _ H' ⟨v6, d6, n6, rm, rfl, sH, gs, sb6, hn6, gl, gd, er, hnb⟩
        rw [List.length_map] at hn6 er
        exact ⟨v6, d6, n6, rm, rfl, sH, gs, sb6, by omega, gl, gd, by rw [er, List.take_length], hnb⟩
    rintro _ H6 ⟨v6, d6, n6, rm, rfl, s6', g6, sb6, hn6, gl6, gd6, er, hnb⟩
    -- the plans, the orders
    refine ⟨Nat.zero_le _, fun lp hlp => ⟨Nat.zero_le _, fun lo hlo => ?_⟩⟩
    have nlp1 := ne_of_none g6 hlp
    have nlp2 := ne_of_none gl6 hlp
    have s7 := sameNew (o := .lst []) hlp
    have g7 : (upd H6 lp (.lst [])) lp = some (.lst []) := upd_same
    have f7 := s6'.free hlp
    generalize upd H6 lp (.lst []) = H7 at s7 g7 hlo
    have s8 := sameNew (o := .lst []) hlo
    have g8 : (upd H7 lo (.lst [])) lo = some (.lst []) := upd_same
    have s78 : Same H6 (upd H7 lo (.lst [])) := s7.trans s8
    have f8 := s6'.free (s7.free hlo)
    have n1 := ne_of_none (s7 _ _ g6) hlo
    have n2 := ne_of_none (s7 _ _ gl6) hlo
    have n3 := ne_of_none g7 hlo
    have g7 := s8 _ _ g7
    generalize upd H7 lo (.lst []) = H8 at s78 g8 g7
    have b8 : Bld H H8 p ln dR lp lo d6 c n6 ss rm [] [] [] := ⟨s6'.trans s78, s78 _ _ g6, sb6, s78 _ _ gl6, s78 _ _ gd6, g7, g8, .nil, (fun _ z => nomatch z), ⟨nln.symm, nlp1, n1, nlp2, n2, n3⟩, ⟨hp, f7, f8⟩⟩
    clear s78 g7 g8 s7 s8
    -- even
    refine ⟨_, rfl, p, d6, c, n6, 3, rfl, b8.src, b8.sb, by omega, by decide, sm _ (by decide) (by decide), fun d9 r9 _ _ sb9 => ⟨rfl, ?_⟩⟩
    have b9 := b8.draw ((Dw.refl b8.src b8.sb).draw sb9)
    generalize upd H8 p (srcO d9 c (n6 + 1)) = H9 at b9
    generalize decide (V.int r9 = V.int 0) = ev
    -- the guests
    refine ⟨fun σ' H' => ∃ (v10 v11 v12 v13 : Option V) (d n : Int) (ps : List Addr) (pls : List (List Rw)) (os : List Int), σ' = [some (.ref a), some (.ref lw), some (.bl ah), some (.ref p), some (.ref ln), some (.ref dR), v6, some (.ref lp), some (.ref lo), some (.bl ev), v10, v11, v12, v13, none, none, none, none] ∧ Bld H H' p ln dR lp lo d c n ss rm ps pls os ∧ n ≤ 1000 ∧ pls.length ≤ 8 ∧ os.length = pls.length ∧ (∀ o ∈ os, Nb o) ∧
      (∀ pl ∈ pls, pl.length ≤ 10 ∧ ∀ (k : Nat) (r : Rw), pl[k]? = some r → r.ok ss (if ah = true then (k : Int) + 1 else 0) pl.length), ?_, ?_⟩
    · refine ⟨by show 8 ≤ sizeLine; omega, fun l8 hl8 => ?_⟩
      have b10 := b9.same (sameNew (o := .lst [.int 0, .int 1, .int 2, .int 3, .int 4, .int 5, .int 6, .int 8]) hl8)
      have g10 : (upd H9 l8 (.lst [.int 0, .int 1, .int 2, .int 3, .int 4, .int 5, .int 6, .int 8])) l8 = some (.lst [.int 0, .int 1, .int 2, .int 3, .int 4, .int 5, .int 6, .int 8]) := upd_same
      have n10 : l8 ≠ p := (ne_of_none b9.src hl8).symm
      generalize upd H9 l8 (.lst [.int 0, .int 1, .int 2, .int 3, .int 4, .int 5, .int 6, .int 8]) = H10 at b10 g10
      refine ⟨_, rfl, p, d9, c, n6 + 1, 8, rfl, b10.src, b10.sb, by omega, by decide, sm _ (by decide) (by decide), fun d11 r11 y0 y1 sb11 => ?_⟩
      have b11 := b10.draw ((Dw.refl b10.src b10.sb).draw sb11)
      have g11 : (upd H10 p (srcO d11 c (n6 + 1 + 1))) l8 = some (.lst [.int 0, .int 1, .int 2, .int 3, .int 4, .int 5, .int 6, .int 8]) := by rw [upd_ne n10]; exact g10
      generalize upd H10 p (srcO d11 c (n6 + 1 + 1)) = H11 at b11 g11
      have hm : ∃ m : Int, 0 ≤ m ∧ m ≤ 8 ∧ atI [V.int 0, V.int 1, V.int 2, V.int 3, V.int 4, V.int 5, V.int 6, V.int 8] r11 = some (.int m) := by
        rcases (show r11 = 0 ∨ r11 = 1 ∨ r11 = 2 ∨ r11 = 3 ∨ r11 = 4 ∨ r11 = 5 ∨ r11 = 6 ∨ r11 = 7 by omega) with rfl | rfl | rfl | rfl | rfl | rfl | rfl | rfl
        · exact ⟨0, by decide, by decide, atI_nat (j := 0) rfl⟩
        · exact ⟨1, by decide, by decide, atI_nat (j := 1) rfl⟩
        · exact ⟨2, by decide, by decide, atI_nat (j := 2) rfl⟩
        · exact ⟨3, by decide, by decide, atI_nat (j := 3) rfl⟩
        · exact ⟨4, by decide, by decide, atI_nat (j := 4) rfl⟩
        · exact ⟨5, by decide, by decide, atI_nat (j := 5) rfl⟩
        · exact ⟨6, by decide, by decide, atI_nat (j := 6) rfl⟩
        · exact ⟨8, by decide, by decide, atI_nat (j := 7) rfl⟩
      obtain ⟨m, m0, m8, hma⟩ := hm
      refine ⟨l8, _, _, _, rfl, rfl, SqL.of g11, hma, m, rfl, by omega, by omega, for_range (lo := 0) (n := m.toNat) (fun i σ' H' => ∃ (v10 v11 v12 v13 : Option V) (d n : Int) (ps : List Addr) (pls : List (List Rw)) (os : List Int), σ' = [some (.ref a), some (.ref lw), some (.bl ah), some (.ref p), some (.ref ln), some (.ref dR), v6, some (.ref lp), some (.ref lo), some (.bl ev), v10, v11, v12, v13, none, none, none, none] ∧ Bld H H' p ln dR lp lo d c n ss rm ps pls os ∧ n ≤ 400 + 10 * i ∧ pls.length = i ∧ os.length = i ∧ (∀ o ∈ os, Nb o) ∧
        (∀ pl ∈ pls, pl.length ≤ 10 ∧ ∀ (k : Nat) (r : Rw), pl[k]? = some r → r.ok ss (if ah = true then (k : Int) + 1 else 0) pl.length))
        ⟨none, none, none, none, d11, n6 + 1 + 1, [], [], [], rfl, b11, by omega, rfl, rfl, (fun _ z => nomatch z), fun _ z => nomatch z⟩ ?_ ?_⟩
      · rintro i _ H12 hi ⟨v10, v11, v12, v13, d12, n12, ps, pls, os, rfl, b12, hn12, hpl, hos, hno, hrows⟩
        have i8 : i < 8 := by omega
        -- the rows' source
        refine ⟨_, rfl, _, rfl, _, _, rfl, rfl, a, nsc, _, rfl, b12.sm.seq hS, hl63, by omega, by omega, fun p2 d2 c2 hp2 sb2 => ?_⟩
        have t1 := sameNew (o := srcO d2 c2 0) hp2
        have u1 : (upd H12 p2 (srcO d2 c2 0)) p2 = some (srcO d2 c2 0) := upd_same
        generalize upd H12 p2 (srcO d2 c2 0) = H13 at t1 u1
        refine ⟨_, rfl, p2, d2, c2, 0, 11, rfl, u1, sb2, by decide, by decide, sm _ (by decide) (by decide), fun d3 sz z0 z1 sb3 => ?_⟩
        have x13 := (Dw.refl u1 sb2).draw sb3
        have np2 : ∀ b o, H12 b = some o → b ≠ p2 := fun b o e z => by rw [z, hp2] at e; cases e
        have t2 : Same H12 (upd H13 p2 (srcO d3 c2 (0 + 1))) := fun b o e => x13.k b o (t1 b o e) (np2 b o e)
        generalize upd H13 p2 (srcO d3 c2 (0 + 1)) = H14 at x13 t2
        -- the lows
        refine ⟨fun σ' H' => ∃ lc : Addr, σ' = [some (.ref a), some (.ref lw), some (.bl ah), some (.ref p), some (.ref ln), some (.ref dR), v6, some (.ref lp), some (.ref lo), some (.bl ev), some (.int (0 + (i : Int))), some (.ref p2), some (.int sz), some (.ref lc), none, none, none, none] ∧ Same H12 H' ∧ H' p2 = some (srcO d3 c2 (0 + 1)) ∧ lc ≠ p2 ∧ H' lc = some (.lst ((lowsI ah sz.toNat).map V.int)), ?_, ?_⟩
        · refine ⟨_, rfl, sz, rfl, by omega, by omega, fun D hD => ?_⟩
          refine lc_range (lo := 0) (n := sz.toNat) (fun j H' => Same H14 H' ∧ H' D = some (.lst ((lowsI ah j).map V.int))) ⟨sameNew hD, upd_same⟩ ?_ ?_
          · rintro j H' hj ⟨sj, gj⟩
            refine ⟨rfl, ?_⟩
            dsimp only [tYes]
            refine iteT ⟨_, rfl, _, _, rfl, rfl, _, rfl, .inr ⟨_, rfl, _, _, rfl, rfl, .inl ⟨by omega, by omega⟩, _, gj, by rw [List.length_map, lowsI_len]; omega, fun b o e => by rw [upd_ne (ne_of_none e hD)]; exact sj b o e, ?_⟩⟩
            rw [upd_same, lowsI_add, List.map_append]
            cases ah
            · show some (HO.lst (_ ++ [V.int ((0 + (j : Int) + 1) * 0)])) = some (HO.lst (_ ++ [V.int 0]))
              rw [Int.mul_zero]
            · show some (HO.lst (_ ++ [V.int ((0 + (j : Int) + 1) * 1)])) = some (HO.lst (_ ++ [V.int ((j : Int) + 1)]))
              rw [Int.mul_one, Int.zero_add]
          · rintro H' ⟨sj, gj⟩
            exact ⟨D, rfl, t2.trans sj, sj _ _ x13.src, (ne_of_none x13.src hD).symm, gj⟩
        rintro _ H15 ⟨lc, rfl, t3, u3, nlc, g15⟩
        -- the rows
        have b15 := b12.same t3
        refine ⟨fun σ' H' => ∃ pl, σ' = [some (.ref a), some (.ref lw), some (.bl ah), some (.ref p), some (.ref ln), some (.ref dR), v6, some (.ref lp), some (.ref lo), some (.bl ev), some (.int (0 + (i : Int))), some (.ref p2), some (.int sz), some (.ref lc), none, none, none, none] ∧ (∃ q, Bld H H' p ln dR lp lo d12 c n12 ss rm (ps ++ [q]) (pls ++ [pl]) os) ∧ pl.length ≤ 10 ∧ ∀ (k : Nat) (r : Rw), pl[k]? = some r → r.ok ss (if ah = true then (k : Int) + 1 else 0) pl.length, ?_, ?_⟩
        · refine ⟨_, rfl, .inl ⟨rfl, _, SqL.of b15.hp⟩, _, rfl, lc, rfl, ⟨_, SqL.of g15⟩, fun D hD => ?_⟩
          have nDp2 : D ≠ p2 := (ne_of_none u3 hD).symm
          have nDlc : D ≠ lc := (ne_of_none g15 hD).symm
          have l15 : (lowsI ah sz.toNat).length = sz.toNat := lowsI_len _ _
          refine lc_list (K := K) (a := lc) (xs := (lowsI ah sz.toNat).map V.int) (fun j H' => ∃ (as : List Addr) (rs : List Rw) (d4 n4 : Int), Same H12 H' ∧ H' p2 = some (srcO d4 c2 n4) ∧ Sb d4 c2 n4 ∧ n4 ≤ 1 + 20 * j ∧ H' lc = some (.lst ((lowsI ah sz.toNat).map V.int)) ∧ H' D = some (.lst (as.map V.ref)) ∧ Paired (RwAt H') as rs ∧ rs.length = j ∧ ∀ (k : Nat) (r : Rw), rs[k]? = some r → r.ok ss (if ah = true then (k : Int) + 1 else 0) sz)
            ⟨[], [], d3, 0 + 1, t3.trans (sameNew hD), by rw [upd_ne nDp2.symm]; exact u3, sb3, by omega, by rw [upd_ne nDlc.symm]; exact g15, upd_same, .nil, rfl, fun k r z => by cases z⟩ ?_ ?_ ?_
          · rintro j H' _ ⟨as, rs, d4, n4, _, _, _, _, h, _⟩
            exact SqL.of h
          · rintro j x H' hx ⟨as, rs, d4, n4, sj, sp, sbj, hnj, gc, gD, pr, lj, ok⟩
            have lj' : j < sz.toNat := by
              have := (List.getElem?_eq_some_iff.mp hx).1
              rw [List.length_map, l15] at this; exact this
            obtain rfl : x = V.int (if ah = true then (j : Int) + 1 else 0) := by
              rw [List.getElem?_map, lowsI_at _ lj'] at hx
              exact (Option.some.inj hx).symm
            refine ⟨rfl, ?_⟩
            dsimp only [tYes]
            have bj := b12.same sj
            have hlw' := b12.sm.trans sj _ _ hlw
            have nlw : lw ≠ p2 := np2 _ _ (b12.sm _ _ hlw)
            refine iteT ⟨_, rfl, _, rfl, _, rfl, _, rfl, _, rfl, p2, ln, lw, d4, c2, n4, _, sz, ss, ws, rfl, sp, sbj, by omega, bj.ls, np2 _ _ b12.ls, hlw', nlw, ss0, ss12, x5.nd, w0, w11, hws, by split <;> omega, by split <;> omega, by omega, fun d5' n5' ra rw H'' hn5' hok x16 hra gra => ?_⟩
            have gD16 := x16.k _ _ gD nDp2
            refine ⟨_, gD16, by rw [List.length_map, pr_len pr, lj]; omega, as ++ [ra], rs ++ [rw], d5', n5', fun b o e => ?_, ?_, x16.sb, by omega, ?_, by rw [upd_same, List.map_append]; rfl, ?_, by rw [List.length_append, lj]; rfl, fun k r hk => ?_⟩
            · have h1 := sj b o e
              rw [upd_ne (fun z => by rw [z, t3.free hD] at e; cases e)]
              exact x16.k _ _ h1 (np2 b o e)
            · rw [upd_ne nDp2.symm]; exact x16.src
            · rw [upd_ne nDlc.symm]; exact x16.k _ _ gc nlc
            · refine pr_add (pr_mono (fun b r h => ?_) pr) ?_
              · have nb : b ≠ p2 := ne_of h sp (by intro z; cases z)
                have h2 := x16.k _ _ h nb
                show upd H'' D _ b = _
                rw [upd_ne (ne_of h2 gD16 (by intro z; cases z))]; exact h2
              · show upd H'' D _ ra = _
                rw [upd_ne (ne_of gra gD16 (by intro z; cases z))]; exact gra
            · rcases Nat.lt_or_ge k rs.length with h | h
              · rw [List.getElem?_append_left h] at hk; exact ok k r hk
              · rw [List.getElem?_append_right h] at hk
                have hk0 : k - rs.length = 0 := by
                  rcases Nat.eq_zero_or_pos (k - rs.length) with z | z
                  · exact z
                  · rw [List.getElem?_eq_none (by simp; omega)] at hk; cases hk
                rw [hk0] at hk
                cases hk
                have : k = j := by omega
                subst this
                exact hok
          · rintro H' ⟨as, rs, d4, n4, sj, sp, sbj, hnj, gc, gD, pr, lj, ok⟩
            rw [List.length_map, l15] at lj
            have bj := b12.same sj
            have fD := t3.free hD
            have lz : ((rs.length : Nat) : Int) = sz := by omega
            refine ⟨lp, _, _, rfl, rfl, bj.hp, by rw [List.length_map, pr_len b12.pl]; omega, rs, rfl, ⟨D, bj.addP ⟨as, gD, pr⟩ (ne_of_none b12.src fD).symm (ne_of_none b12.hp fD).symm (ne_of_none b12.ho fD).symm⟩, by omega, fun k r hk => by rw [lz]; exact ok k r hk⟩
        rintro _ H16 ⟨pl, rfl, ⟨qa, b16⟩, lpl, okpl⟩
        -- the orders
        refine ⟨_, rfl, .inl ⟨rfl, _, SqL.of b16.ho⟩, _, rfl, p, d12, c, n12, 4, rfl, b16.src, b16.sb, by omega, by decide, sm _ (by decide) (by decide), fun d17 r17 e0 e1 sb17 => ⟨_, _, rfl, rfl, ?_⟩⟩
        have b17 := b16.draw ((Dw.refl b16.src b16.sb).draw sb17)
        generalize upd H16 p (srcO d17 c (n12 + 1)) = H17 at b17
        refine ⟨_, rfl, p, d17, c, n12 + 1, rfl, b17.src, b17.sb, by omega, fun d18 n18 r18 H18 hn18 ra rb x18 => ?_⟩
        have b18 := b17.draw x18
        refine ⟨by show 3 ≤ sizeLine; omega, fun l3 hl3 => ?_⟩
        have b19 := b18.same (sameNew (o := .lst [.int (r17 - 1), .int r18, .int 0]) hl3)
        have g19 : (upd H18 l3 (.lst [.int (r17 - 1), .int r18, .int 0])) l3 = some (.lst [.int (r17 - 1), .int r18, .int 0]) := upd_same
        have n19 : l3 ≠ p := (ne_of_none b18.src hl3).symm
        generalize upd H18 l3 (.lst [.int (r17 - 1), .int r18, .int 0]) = H19 at b19 g19
        refine ⟨_, rfl, p, d18, c, n18, 3, rfl, b19.src, b19.sb, by omega, by decide, sm _ (by decide) (by decide), fun d20 r20 f0 f1 sb20 => ?_⟩
        have b20 := b19.draw ((Dw.refl b19.src b19.sb).draw sb20)
        have g20 : (upd H19 p (srcO d20 c (n18 + 1))) l3 = some (.lst [.int (r17 - 1), .int r18, .int 0]) := by rw [upd_ne n19]; exact g19
        generalize upd H19 p (srcO d20 c (n18 + 1)) = H20 at b20 g20
        have b60 : (100 : Int) < 10 ^ 60 := by decide +kernel
        have ho : ∃ o : Int, Nb o ∧ atI [V.int (r17 - 1), V.int r18, V.int 0] r20 = some (.int o) := by
          rcases (show r20 = 0 ∨ r20 = 1 ∨ r20 = 2 by omega) with rfl | rfl | rfl
          · exact ⟨r17 - 1, ⟨by omega, by omega⟩, atI_nat (j := 0) rfl⟩
          · exact ⟨r18, ⟨ra, rb⟩, atI_nat (j := 1) rfl⟩
          · exact ⟨0, ⟨by omega, by omega⟩, atI_nat (j := 2) rfl⟩
        obtain ⟨o, hno', hoa⟩ := ho
        refine ⟨l3, _, _, _, rfl, rfl, SqL.of g20, hoa, lo, _, _, rfl, rfl, b20.ho, by rw [List.length_map, hos]; omega, _, _, _, _, d20, n18 + 1, ps ++ [qa], pls ++ [pl], os ++ [o], rfl, b20.addO o, by omega, by rw [List.length_append, hpl]; rfl, by rw [List.length_append, hos]; rfl, fun z hz => ?_, fun z hz => ?_⟩
        · rcases List.mem_append.mp hz with hz | hz
          · exact hno z hz
          · rw [List.mem_singleton.mp hz]; exact hno'
        · rcases List.mem_append.mp hz with hz | hz
          · exact hrows z hz
          · rw [List.mem_singleton.mp hz]; exact ⟨lpl, okpl⟩
      · rintro _ H12 ⟨v10, v11, v12, v13, d12, n12, ps, pls, os, rfl, b12, hn12, hpl, hos, hno, hrows⟩
        exact ⟨v10, v11, v12, v13, d12, n12, ps, pls, os, rfl, b12, by omega, by omega, by omega, hno, hrows⟩
    rintro _ H12 ⟨v10, v11, v12, v13, d12, n12, ps, pls, os, rfl, b12, hn12, hpl, hos, hno, hrows⟩
    -- all of one order
    refine ⟨fun σ' H' => ∃ (lo2 : Addr) (os2 : List Int), σ' = [some (.ref a), some (.ref lw), some (.bl ah), some (.ref p), some (.ref ln), some (.ref dR), v6, some (.ref lp), some (.ref lo2), some (.bl ev), v10, v11, v12, v13, none, none, none, none] ∧ Bld H H' p ln dR lp lo d12 c n12 ss rm ps pls os ∧ lo2 ≠ p ∧ H' lo2 = some (.lst (os2.map V.int)) ∧ os2.length = pls.length ∧ ∀ o ∈ os2, Nb o, ?_, ?_⟩
    · refine ⟨_, rfl, ev, rfl, ?_⟩
      cases ev with
      | false => exact iteF ⟨lo, os, rfl, b12, b12.ap.2.2.1.symm, b12.ho, hos, hno⟩
      | true =>
        refine iteT ⟨_, rfl, lp, rfl, ⟨_, SqL.of b12.hp⟩, fun D hD => ?_⟩
        have nD : D ≠ lp := (ne_of_none b12.hp hD).symm
        have lps : ps.length = pls.length := pr_len b12.pl
        refine lc_list (K := K) (a := lp) (xs := ps.map V.ref) (fun j H' => Same H12 H' ∧ H' D = some (.lst ((List.replicate j (0 : Int)).map V.int))) ⟨sameNew hD, upd_same⟩ ?_ ?_ ?_
        · rintro j H' _ ⟨sj, _⟩
          exact SqL.of (sj _ _ b12.hp)
        · rintro j x H' hx ⟨sj, gj⟩
          refine ⟨rfl, ?_⟩
          dsimp only [tYes]
          have lj := (List.getElem?_eq_some_iff.mp hx).1
          rw [List.length_map] at lj
          refine iteT ⟨_, gj, by rw [List.length_map, List.length_replicate]; omega, fun b o e => by rw [upd_ne (ne_of_none e hD)]; exact sj b o e, ?_⟩
          rw [upd_same, List.replicate_succ', List.map_append]; rfl
        · rintro H' ⟨sj, gj⟩
          rw [List.length_map] at gj
          refine ⟨D, _, rfl, b12.same sj, (ne_of_none b12.src hD).symm, gj, by rw [List.length_replicate, lps], fun o ho => ?_⟩
          rw [List.eq_of_mem_replicate ho]
          have b60 : (0 : Int) < 10 ^ 60 := by decide +kernel
          exact ⟨by omega, b60⟩
    rintro _ H13 ⟨lo2, os2, rfl, b13, nlo2, g13, ho2, hno2⟩
    -- the numbers
    refine ⟨fun σ' H' => ∃ (lv : Addr) (nm : List Str), σ' = [some (.ref a), some (.ref lw), some (.bl ah), some (.ref p), some (.ref ln), some (.ref dR), v6, some (.ref lp), some (.ref lo2), some (.bl ev), v10, v11, v12, v13, none, none, none, some (.ref lv)] ∧ Same H13 H' ∧ lv ≠ p ∧ H' lv = some (.lst ((nm.map (valR rm)).map V.int)) ∧ nm.Perm ss ∧ PyProof.Rows.sortedS nm = true, ?_, ?_⟩
    · refine ⟨_, rfl, ln, ss, rfl, SqL.of b13.ls, by omega, fun nm l14 pm srt hl14 => ?_⟩
      have s14 := sameNew (o := .lst (nm.map V.str)) hl14
      have g14 : (upd H13 l14 (.lst (nm.map V.str))) l14 = some (.lst (nm.map V.str)) := upd_same
      generalize upd H13 l14 (.lst (nm.map V.str)) = H14 at s14 g14
      refine ⟨l14, rfl, ⟨_, SqL.of g14⟩, fun D hD => ?_⟩
      refine lc_list (K := K) (a := l14) (xs := nm.map V.str) (fun j H' => Same H14 H' ∧ H' D = some (.lst (((nm.take j).map (valR rm)).map V.int))) ⟨sameNew hD, upd_same⟩ ?_ ?_ ?_
      · rintro j H' _ ⟨sj, _⟩
        exact SqL.of (sj _ _ g14)
      · rintro j x H' hx ⟨sj, gj⟩
        obtain ⟨s, rfl, hsi⟩ : ∃ s, x = V.str s ∧ nm[j]? = some s := by
          rw [List.getElem?_map] at hx
          cases e : nm[j]? with
          | none => rw [e] at hx; cases hx
          | some s => rw [e] at hx; exact ⟨s, (Option.some.inj hx).symm, rfl⟩
        have lj := (List.getElem?_eq_some_iff.mp hsi).1
        have lnm : nm.length = ss.length := pm.length_eq
        refine ⟨rfl, ?_⟩
        dsimp only [tYes]
        have hin : s ∈ rm.map (·.1) := by rw [er]; exact pm.mem_iff.mp (List.mem_of_getElem? hsi)
        have gdr := sj _ _ (s14 _ _ b13.dr)
        refine iteT ⟨_, rfl, _, rfl, dR, _, rfl, (by have := DGet.k (k := Sum.inr s) gdr; rw [keysR_in hin] at this; exact this), _, gj, by rw [List.length_map, List.length_map, List.length_take]; omega, fun b o e => by rw [upd_ne (ne_of_none e hD)]; exact sj b o e, ?_⟩
        rw [upd_same, List.take_succ, hsi, List.map_append, List.map_append]; rfl
      · rintro H' ⟨sj, gj⟩
        rw [List.length_map, List.take_length] at gj
        exact ⟨D, nm, rfl, s14.trans sj, (ne_of_none (s14 _ _ b13.src) hD).symm, gj, pm, srt⟩
    rintro _ H14 ⟨lv, nm, rfl, s14, nlv, g14, pm, srt⟩
    have b14 := b13.same s14
    have go14 := s14 _ _ g13
    refine ⟨_, rfl, _, rfl, ln, ss, rfl, SqL.of b14.ls, by omega, fun nm2 l15 pm2 srt2 hl15 => ?_⟩
    have e2 : nm2 = nm := Sd.sorted_one (pm2.trans pm.symm) srt2 srt
    subst e2
    have b15 := b14.same (sameNew (o := .lst (nm2.map V.str)) hl15)
    have nl15 : l15 ≠ p := (ne_of_none b14.src hl15).symm
    have g15 : (upd H14 l15 (.lst (nm2.map V.str))) l15 = some (.lst (nm2.map V.str)) := upd_same
    have gv15 := sameNew (o := .lst (nm2.map V.str)) hl15 _ _ g14
    have go15 := sameNew (o := .lst (nm2.map V.str)) hl15 _ _ go14
    generalize upd H14 l15 (.lst (nm2.map V.str)) = H15 at b15 g15 gv15 go15
    refine ⟨_, rfl, _, rfl, _, rfl, _, rfl, p, d12, c, n12, 2, rfl, b15.src, b15.sb, by omega, by decide, sm _ (by decide) (by decide), fun d16 r16 _ _ sb16 => ⟨rfl, by show 5 ≤ sizeLine; omega, fun tw htw => ⟨by show 2 ≤ sizeLine; omega, fun t ht => ?_⟩⟩⟩
    have x16 := (Dw.refl b15.src b15.sb).draw sb16
    have b16 := b15.draw x16
    have g15 := x16.k _ _ g15 nl15
    have gv15 := x16.k _ _ gv15 nlv
    have go15 := x16.k _ _ go15 nlo2
    generalize upd H15 p (srcO d16 c (n12 + 1)) = H16 at b16 g15 gv15 go15 htw ht
    generalize decide (V.int r16 = V.int 1) = jl at *
    have st := sameNew (o := .tup [.ref l15, .ref lv, .ref lp, .ref lo2, .bl jl]) htw
    have gt : (upd H16 tw (.tup [.ref l15, .ref lv, .ref lp, .ref lo2, .bl jl])) tw = some (.tup [.ref l15, .ref lv, .ref lp, .ref lo2, .bl jl]) := upd_same
    have b17 := b16.same st
    have g17 := st _ _ g15
    have gv17 := st _ _ gv15
    have go17 := st _ _ go15
    generalize upd H16 tw (.tup [.ref l15, .ref lv, .ref lp, .ref lo2, .bl jl]) = H17 at gt b17 g17 gv17 go17 ht
    have sT := sameNew (o := .tup [.ref dR, .ref tw]) ht
    have er' : (rm.map (·.1)).length = ss.length := by rw [er]
    rw [List.length_map] at er'
    refine q t dR tw ⟨nm2, nm2.map (valR rm), pls, os2, jl⟩ rm _ ⟨by omega, by omega, by rw [er]; exact x5.nd, by rw [er]; exact x5.so, hnb, by rw [er]; exact pm2, srt2, rfl, hpl, ho2, hno2, by rw [er]; exact hrows⟩ (b17.sm.trans sT) upd_same (sT _ _ b17.dr) ?_
    exact WAt.same sT ⟨l15, lv, lp, lo2, ps, gt, g17, gv17, b17.hp, b17.pl, go17⟩
end
end Wo

set_option Elab.async false
set_option linter.all false
set_option maxRecDepth 100000
set_option maxHeartbeats 4000000
namespace Zp
open PySem
section
variable {prog : Program} {w : World} {A : Around} {E : Value → Shared → Prop} {s : Shared}
/-! ### a tuple's items, one by one, as zip asks for them -/
theorem next_tup {it t : Addr} {i : Nat} {items} {x : Value} {Q : Value → Shared → Prop} (hit : s.heap.IsTupleIter it t i) (ht : s.heap.IsTuple t items) (hx : items[i]? = some x)
    (hQ : ∀ h', h'.IsTupleIter it t (i + 1) → Heap.SameBut it s.heap h' → Q x { s with heap := h' }) : wpAny (model prog w) A (Builtin.SmallTypes.nextOf (.ref it)) Q E s := by
  obtain ⟨o, ho, hc, hd⟩ := id hit
  obtain ⟨ol, hol, _, nl, hdl⟩ := ht
  unfold Builtin.SmallTypes.nextOf
  refine wpAny_bind (wpAny_callSpecial?_slot (name := Str.ofString "__next__") hit.typeIs F.slot_tuple_iterator_next
    (wpAny_call_entry F.slot_tuple_iterator_next hit.typeIs F.entry_tuple_iterator_next ?_ (F.args_tuple_iterator_next_1 _)))
  show wpAny _ _ (field (.ref it) 0 >>= _) _ _ s
  refine wpAny_bind (wpAny_field ho hd (x := .ref t) rfl ?_)
  show wpAny _ _ (if (Value.ref t == Value.none) = true then _ else _) _ _ s
  rw [if_neg (show ¬ ((Value.ref t == Value.none) = true) from Bool.false_ne_true)]
  show wpAny _ _ (field (.ref it) 1 >>= _) _ _ s
  refine wpAny_bind (wpAny_field ho hd (x := .int i 0) rfl ?_)
  show wpAny _ _ (seqItems? (.ref t) >>= _) _ _ s
  refine wpAny_bind (wpAny_seqItems hol hdl ?_)
  simp only [Int.toNat_natCast, hx]
  refine wpAny_bind (wpAny_setField ho hd (by simp) (wpAny_pure ⟨x, rfl, wpAny_pure (hQ _ ?_ (Heap.SameBut.update ..))⟩))
  exact ⟨_, Heap.get?_update_self _ ho (Obj.isFreed_of_fields (Obj.data_mapFields hd _)), (Obj.cls_mapFields ..).trans hc, by
    rw [Obj.data_mapFields hd]; simp [rawInt]⟩

theorem next_tup_end {it t : Addr} {i : Nat} {items} {Q : Value → Shared → Prop} (hh : A.handled = none) (hit : s.heap.IsTupleIter it t i) (ht : s.heap.IsTuple t items) (hx : items[i]? = none)
    (hE : ∀ h' e, Heap.ExtBut it s.heap h' → (∃ o, h'.get? e = some o ∧ o.cls = .type "StopIteration") → E (.ref e) { s with heap := h' }) :
    wpAny (model prog w) A (Builtin.SmallTypes.nextOf (.ref it)) Q E s := by
  obtain ⟨o, ho, hc, hd⟩ := id hit
  obtain ⟨ol, hol, _, nl, hdl⟩ := ht
  unfold Builtin.SmallTypes.nextOf
  refine wpAny_bind (wpAny_callSpecial?_slot (name := Str.ofString "__next__") hit.typeIs F.slot_tuple_iterator_next
    (wpAny_call_entry F.slot_tuple_iterator_next hit.typeIs F.entry_tuple_iterator_next ?_ (F.args_tuple_iterator_next_1 _)))
  show wpAny _ _ (field (.ref it) 0 >>= _) _ _ s
  refine wpAny_bind (wpAny_field ho hd (x := .ref t) rfl ?_)
  show wpAny _ _ (if (Value.ref t == Value.none) = true then _ else _) _ _ s
  rw [if_neg (show ¬ ((Value.ref t == Value.none) = true) from Bool.false_ne_true)]
  show wpAny _ _ (field (.ref it) 1 >>= _) _ _ s
  refine wpAny_bind (wpAny_field ho hd (x := .int i 0) rfl ?_)
  show wpAny _ _ (seqItems? (.ref t) >>= _) _ _ s
  refine wpAny_bind (wpAny_seqItems hol hdl ?_)
  simp only [Int.toNat_natCast, hx]
  refine wpAny_bind (wpAny_rule (wpAny_bind (wpAny_setField ho hd (by simp) ?_)))
  show wpAny _ _ (newExc (.type "StopIteration") [] >>= _) _ _ _
  refine wpAny_bind ?_
  simp only [newExc, newTuple]
  refine wpAny_bind (wpAny_newObj_type ?_ (by size_fits))
  refine wpAny_bind (m := firstArgMember _ _) (wpAny_of_eq (a := Value.none) (by first | rfl | (simp only [firstArgMember]; rfl)) ?_)
  refine wpAny_newObj_type ?_ (by size_fits)
  simp only [raiseNew]
  refine wpAny_bind (wpAny_handled ?_)
  first | rw [show A.in1.handled = none from hh] | rw [hh]
  refine wpAny_bind (wpAny_pure (wpAny_throw ?_))
  exact hE _ _ (((Heap.SameBut.update ..).extBut.push _).push _) ⟨_, Heap.get?_push_size _ rfl, rfl⟩
end
theorem drawsTup {prog : Program} {w : World} {A : Around} (hh : A.handled = none) (it t : Addr) (hne : t ≠ it) (items : Array Value) :
    Draws prog w A it [it, t] items.size (fun i x => items[i]? = some x) (fun i h => h.IsTupleIter it t i ∧ h.IsTuple t items) where
  live := fun i h st => by obtain ⟨⟨o, e, _⟩, _⟩ := st; exact ⟨o, e⟩
  frame := fun i h h' st k => by
    obtain ⟨h1, o, e, r⟩ := st
    exact ⟨h1.at fun o e => k it (by simp) o e, o, k t (by simp) o e, r⟩
  item := fun i s Q E hi st hQ => next_tup st.1 st.2 (Array.getElem?_eq_getElem hi) fun h' a b => hQ _ h' s.toks (Array.getElem?_eq_getElem hi) ⟨a, st.2.extBut b.extBut hne⟩ b
  done := fun s Q E st hE => next_tup_end hh st.1 st.2 (Array.getElem?_eq_none (Nat.le_refl _)) hE
end Zp

set_option Elab.async false
set_option linter.all false
set_option maxRecDepth 100000
set_option maxHeartbeats 4000000
namespace Zp
open PySem
/-! ### zip of two sources of any kind -/
structure Ap2 (z TI TO i1 i2 : Addr) (f1 f2 : List Addr) : Prop where
  TIz : TI ≠ z
  TOz : TO ≠ z
  TITO : TI ≠ TO
  TIi1 : TI ≠ i1
  TIi2 : TI ≠ i2
  i1z : i1 ≠ z
  i2z : i2 ≠ z
  TOi1 : TO ≠ i1
  TOi2 : TO ≠ i2
  f1z : ∀ b ∈ f1, b ≠ z
  f2z : ∀ b ∈ f2, b ≠ z
  f1TO : ∀ b ∈ f1, b ≠ TO
  f2TO : ∀ b ∈ f2, b ≠ TO
  f12 : ∀ b ∈ f1, b ≠ i2
  f21 : ∀ b ∈ f2, b ≠ i1
section
variable {prog : Program} {w : World} {A : Around} {E : Value → Shared → Prop} {s : Shared} {z TI TO i1 i2 : Addr} {f1 f2 : List Addr} {n1 n2 : Nat} {P1 P2 : Nat → Value → Prop} {S1 S2 : Nat → Heap → Prop}
theorem keepF {it : Addr} {fp : List Addr} {n : Nat} {P : Nat → Value → Prop} {St : Nat → Heap → Prop} {A' : Around} (D : Draws prog w A' it fp n P St) {i : Nat} {h h' : Heap} {c : Addr} (st : St i h) (k : Heap.ExtBut c h h') (a : ∀ b ∈ fp, b ≠ c) : St i h' :=
  D.frame i h h' st fun b hb o e => k b o (a b hb) e
theorem keepP {h h' : Heap} {c T : Addr} {a b : Value} (st : IsPair h T a b) (k : Heap.ExtBut c h h') (n : T ≠ c) : IsPair h' T a b := k T _ n st

theorem zip2_item {k : Nat} {a b : Value} {Q : Value → Shared → Prop} (D1 : Draws prog w A i1 f1 n1 P1 S1) (D2 : Draws prog w A i2 f2 n2 P2 S2) (D : Ap2 z TI TO i1 i2 f1 f2)
    (hz : IsZip s.heap z TI TO .none) (hTI : IsPair s.heap TI (.ref i1) (.ref i2)) (hTO : IsPair s.heap TO a b) (s1 : S1 k s.heap) (s2 : S2 k s.heap) (k1 : k < n1) (k2 : k < n2)
    (hQ : ∀ h' tk x y, P1 k x → P2 k y → IsZip h' z TI TO (rawInt s.heap.objs.size) → IsPair h' TO x y → S1 (k + 1) h' → S2 (k + 1) h' → IsPair h' s.heap.objs.size x y → h'.objs.size = s.heap.objs.size + 1 →
      (∀ c o, c ≠ z → c ≠ TO → c ≠ i1 → c ≠ i2 → s.heap.get? c = some o → h'.get? c = some o) → Q (.ref s.heap.objs.size) { s with heap := h', toks := tk }) :
    wpAny (model prog w) A (Builtin.«zip.__next__» ⟨[.ref z], []⟩) (fun fin s' => ∃ v, fin = .done (.ret v) ∧ Q v s') E s := by
  show wpAny _ _ (field (.ref z) 2 >>= _) _ _ _
  refine wpAny_bind (wpAny_field hz rfl (x := .bool false) rfl ?_)
  show wpAny _ _ (field (.ref z) 3 >>= _) _ _ _
  refine wpAny_bind (wpAny_field hz rfl (x := .ref TI) rfl ?_)
  refine wpAny_bind (wpAny_seqItems hTI rfl ?_)
  show wpAny _ _ (Builtin.SmallTypes.ownedTupleIsFree (.ref z) >>= _) _ _ _
  refine wpAny_bind ?_
  unfold Builtin.SmallTypes.ownedTupleIsFree
  refine wpAny_bind (wpAny_field hz rfl (x := .none) rfl (wpAny_pure ?_))
  simp only [if_true]
  refine wpAny_bind (wpAny_rule ?_)
  refine wpAny_bind (wpAny_field hz rfl (x := .ref TO) rfl ?_)
  refine wpAny_bind (wpAny_setField_rec hz (by simp) fun h₁ hz₁ hs₁ => ?_)
  replace hz₁ : IsZip h₁ z TI TO .ellipsis := hz₁
  refine wpAny_bind ?_
  simp only [List.zipIdx_cons, List.zipIdx_nil, List.forIn_cons, List.forIn_nil]
  refine wpAny_bind (wpAny_bind (wpAny_onRaise ?_))
  show wpAny _ _ (Builtin.SmallTypes.nextOf (.ref i1) >>= _) _ _ _
  refine wpAny_bind (D1.item k _ _ _ k1 (keepF D1 s1 hs₁.extBut D.f1z) fun x h₂ t₂ p1 s1₂ hs₂ => wpAny_pure ?_)
  have hTO₂ : IsPair h₂ TO a b := keepP (keepP hTO hs₁.extBut D.TOz) hs₂.extBut D.TOi1
  refine wpAny_bind (wpAny_seqItems hTO₂ rfl ?_)
  refine wpAny_bind (wpAny_updateSeq_pair hTO₂ fun h₃ hTO₃ hs₃ => ?_)
  replace hTO₃ : IsPair h₃ TO x b := hTO₃
  refine wpAny_bind (wpAny_letGo (wpAny_pure ?_))
  refine wpAny_bind (wpAny_bind (wpAny_onRaise ?_))
  show wpAny _ _ (Builtin.SmallTypes.nextOf (.ref i2) >>= _) _ _ _
  refine wpAny_bind (D2.item k _ _ _ k2 (keepF D2 (keepF D2 (keepF D2 s2 hs₁.extBut D.f2z) hs₂.extBut D.f21) hs₃.extBut D.f2TO) fun y h₄ t₄ p2 s2₄ hs₄ => wpAny_pure ?_)
  have hTO₄ : IsPair h₄ TO x b := keepP hTO₃ hs₄.extBut D.TOi2
  refine wpAny_bind (wpAny_seqItems hTO₄ rfl ?_)
  refine wpAny_bind (wpAny_updateSeq_pair hTO₄ fun h₅ hTO₅ hs₅ => ?_)
  replace hTO₅ : IsPair h₅ TO x y := hTO₅
  refine wpAny_bind (wpAny_letGo (wpAny_pure (wpAny_pure ?_)))
  refine wpAny_bind (wpAny_seqItems hTO₅ rfl ?_)
  refine wpAny_bind (wpAny_newTuple ?_)
  have hsz : h₅.objs.size = s.heap.objs.size := by rw [hs₅.1, hs₄.1, hs₃.1, hs₂.1, hs₁.1]
  have hk₅ : ∀ c o, c ≠ z → c ≠ TO → c ≠ i1 → c ≠ i2 → s.heap.get? c = some o → h₅.get? c = some o := fun c o c1 c2 c3 c4 e =>
    hs₅.extBut _ _ c2 (hs₄.extBut _ _ c4 (hs₃.extBut _ _ c2 (hs₂.extBut _ _ c3 (hs₁.extBut _ _ c1 e))))
  have hz₅ : IsZip h₅ z TI TO .ellipsis := hs₅.extBut _ _ D.TOz.symm (hs₄.extBut _ _ D.i2z.symm (hs₃.extBut _ _ D.TOz.symm (hs₂.extBut _ _ D.i1z.symm hz₁)))
  have s1₅ : S1 (k + 1) h₅ := keepF D1 (keepF D1 (keepF D1 s1₂ hs₃.extBut D.f1TO) hs₄.extBut D.f12) hs₅.extBut D.f1TO
  have s2₅ : S2 (k + 1) h₅ := keepF D2 s2₄ hs₅.extBut D.f2TO
  have hzlt : z < h₅.objs.size := Heap.lt_size hz₅
  show wpAny _ _ (Builtin.SmallTypes.ownedTupleHandOut (.ref z) (.ref h₅.objs.size) >>= _) _ _ _
  refine wpAny_bind ?_
  unfold Builtin.SmallTypes.ownedTupleHandOut
  have hz₆ : IsZip (h₅.push { cls := .type "tuple", data := .seq #[x, y] }) z TI TO .ellipsis := Heap.get?_push_of_some _ hz₅
  refine wpAny_bind (wpAny_setField_rec hz₆ (by simp) fun h₇ hz₇ hs₇ => ?_)
  replace hz₇ : IsZip h₇ z TI TO (rawInt h₅.objs.size) := hz₇
  refine wpAny_setField_rec hz₇ (by simp) fun h₈ hz₈ hs₈ => ?_
  replace hz₈ : IsZip h₈ z TI TO (rawInt h₅.objs.size) := hz₈
  have up : ∀ c o, c ≠ z → h₅.get? c = some o → h₈.get? c = some o := fun c o c1 e => hs₈.extBut _ _ c1 (hs₇.extBut _ _ c1 (Heap.get?_push_of_some _ e))
  have hT₈ : IsPair h₈ h₅.objs.size x y := hs₈.extBut _ _ (Nat.ne_of_gt hzlt) (hs₇.extBut _ _ (Nat.ne_of_gt hzlt) (Heap.get?_push_size _ rfl))
  have hz8 : h₈.objs.size = h₅.objs.size + 1 := by rw [hs₈.1, hs₇.1, Heap.size_push]
  rw [hsz] at hz₈ hT₈ hz8
  refine wpAny_pure ⟨_, rfl, ?_⟩
  show Q (.ref h₅.objs.size) _
  rw [hsz]
  exact hQ h₈ _ x y p1 p2 hz₈ (up _ _ D.TOz hTO₅) (D1.frame _ _ _ s1₅ fun b hb o e => up b o (D.f1z b hb) e) (D2.frame _ _ _ s2₅ fun b hb o e => up b o (D.f2z b hb) e) hT₈ hz8 fun c o c1 c2 c3 c4 e => up c o c1 (hk₅ c o c1 c2 c3 c4 e)
end
end Zp

set_option Elab.async false
set_option linter.all false
set_option maxRecDepth 100000
set_option maxHeartbeats 4000000
namespace Zp
open PySem
section
variable {prog : Program} {w : World} {A : Around} {E : Value → Shared → Prop} {s : Shared} {z TI TO i1 i2 : Addr} {f1 f2 : List Addr} {n1 n2 : Nat} {P1 P2 : Nat → Value → Prop} {S1 S2 : Nat → Heap → Prop}
theorem zip2_end {a b : Value} {k : Nat} {Q : Fin → Shared → Prop} (D1 : Draws prog w A i1 f1 n1 P1 S1) (D2 : Draws prog w A i2 f2 n2 P2 S2) (D : Ap2 z TI TO i1 i2 f1 f2)
    (hz : IsZip s.heap z TI TO .none) (hTI : IsPair s.heap TI (.ref i1) (.ref i2)) (hTO : IsPair s.heap TO a b) (s1 : S1 k s.heap) (s2 : S2 k s.heap) (hend : k = n1 ∨ (k < n1 ∧ k = n2))
    (hE : ∀ h' tk e, (∀ c o, c ≠ z → c ≠ TO → c ≠ i1 → c ≠ i2 → s.heap.get? c = some o → h'.get? c = some o) → (∃ o, h'.get? e = some o ∧ o.cls = .type "StopIteration") → E (.ref e) { s with heap := h', toks := tk }) :
    wpAny (model prog w) A (Builtin.«zip.__next__» ⟨[.ref z], []⟩) Q E s := by
  show wpAny _ _ (field (.ref z) 2 >>= _) _ _ _
  refine wpAny_bind (wpAny_field hz rfl (x := .bool false) rfl ?_)
  show wpAny _ _ (field (.ref z) 3 >>= _) _ _ _
  refine wpAny_bind (wpAny_field hz rfl (x := .ref TI) rfl ?_)
  refine wpAny_bind (wpAny_seqItems hTI rfl ?_)
  show wpAny _ _ (Builtin.SmallTypes.ownedTupleIsFree (.ref z) >>= _) _ _ _
  refine wpAny_bind ?_
  unfold Builtin.SmallTypes.ownedTupleIsFree
  refine wpAny_bind (wpAny_field hz rfl (x := .none) rfl (wpAny_pure ?_))
  simp only [if_true]
  refine wpAny_bind (wpAny_rule ?_)
  refine wpAny_bind (wpAny_field hz rfl (x := .ref TO) rfl ?_)
  refine wpAny_bind (wpAny_setField_rec hz (by simp) fun h₁ hz₁ hs₁ => ?_)
  replace hz₁ : IsZip h₁ z TI TO .ellipsis := hz₁
  refine wpAny_bind ?_
  simp only [List.zipIdx_cons, List.zipIdx_nil, List.forIn_cons, List.forIn_nil]
  refine wpAny_bind (wpAny_bind (wpAny_onRaise ?_))
  show wpAny _ _ (Builtin.SmallTypes.nextOf (.ref i1) >>= _) _ _ _
  rcases hend with k1 | ⟨k1, k2⟩
  · subst k1
    refine wpAny_bind (D1.done _ _ _ (keepF D1 s1 hs₁.extBut D.f1z) fun h₂ e hs₂ he => ?_)
    obtain ⟨oe, hoe, hce⟩ := he
    have hz₂ : IsZip h₂ z TI TO .ellipsis := hs₂ _ _ D.i1z.symm hz₁
    have hez : e ≠ z := fun x => by subst x; rw [hz₂] at hoe; cases hoe; simp at hce
    refine wpAny_setField_rec hz₂ (by simp) fun h₃ _ hs₃ => hE h₃ _ e (fun c o c1 _ c3 _ x => hs₃.extBut _ _ c1 (hs₂ _ _ c3 (hs₁.extBut _ _ c1 x))) ⟨oe, hs₃.extBut _ _ hez hoe, hce⟩
  · refine wpAny_bind (D1.item k _ _ _ k1 (keepF D1 s1 hs₁.extBut D.f1z) fun x h₂ t₂ p1 s1₂ hs₂ => wpAny_pure ?_)
    have hTO₂ : IsPair h₂ TO a b := keepP (keepP hTO hs₁.extBut D.TOz) hs₂.extBut D.TOi1
    refine wpAny_bind (wpAny_seqItems hTO₂ rfl ?_)
    refine wpAny_bind (wpAny_updateSeq_pair hTO₂ fun h₃ hTO₃ hs₃ => ?_)
    refine wpAny_bind (wpAny_letGo (wpAny_pure ?_))
    refine wpAny_bind (wpAny_bind (wpAny_onRaise ?_))
    show wpAny _ _ (Builtin.SmallTypes.nextOf (.ref i2) >>= _) _ _ _
    subst k2
    refine wpAny_bind (D2.done _ _ _ (keepF D2 (keepF D2 (keepF D2 s2 hs₁.extBut D.f2z) hs₂.extBut D.f21) hs₃.extBut D.f2TO) fun h₄ e hs₄ he => ?_)
    obtain ⟨oe, hoe, hce⟩ := he
    have hz₄ : IsZip h₄ z TI TO .ellipsis := hs₄ _ _ D.i2z.symm (hs₃.extBut _ _ D.TOz.symm (hs₂.extBut _ _ D.i1z.symm hz₁))
    have hez : e ≠ z := fun x => by subst x; rw [hz₄] at hoe; cases hoe; simp at hce
    refine wpAny_setField_rec hz₄ (by simp) fun h₅ _ hs₅ => hE h₅ _ e (fun c o c1 c2 c3 c4 x => hs₅.extBut _ _ c1 (hs₄ _ _ c4 (hs₃.extBut _ _ c2 (hs₂.extBut _ _ c3 (hs₁.extBut _ _ c1 x))))) ⟨oe, hs₅.extBut _ _ hez hoe, hce⟩

theorem next2_item {k : Nat} {a b : Value} {Q : Option Value → Shared → Prop} (D1 : ∀ A : Around, A.handled = none → Draws prog w A i1 f1 n1 P1 S1) (D2 : ∀ A : Around, A.handled = none → Draws prog w A i2 f2 n2 P2 S2) (hh : A.handled = none) (D : Ap2 z TI TO i1 i2 f1 f2)
    (hz : IsZip s.heap z TI TO .none) (hTI : IsPair s.heap TI (.ref i1) (.ref i2)) (hTO : IsPair s.heap TO a b) (s1 : S1 k s.heap) (s2 : S2 k s.heap) (k1 : k < n1) (k2 : k < n2)
    (hQ : ∀ h' tk x y, P1 k x → P2 k y → IsZip h' z TI TO (rawInt s.heap.objs.size) → IsPair h' TO x y → S1 (k + 1) h' → S2 (k + 1) h' → IsPair h' s.heap.objs.size x y → h'.objs.size = s.heap.objs.size + 1 →
      (∀ c o, c ≠ z → c ≠ TO → c ≠ i1 → c ≠ i2 → s.heap.get? c = some o → h'.get? c = some o) → Q (some (.ref s.heap.objs.size)) { s with heap := h', toks := tk }) :
    wpAny (model prog w) A (pyNext (.ref z)) Q E s := by
  have hT : s.TypeIs (.ref z) "zip" := ⟨_, hz, rfl⟩
  unfold pyNext
  exact wpAny_bind (wpAny_attempt (wpAny_callSpecial?_slot (name := Str.ofString "__next__") hT F.slot_zip_next
    (wpAny_call_entry F.slot_zip_next hT F.entry_zip_next
      (zip2_item (D1 _ (by first | exact hh | assumption)) (D2 _ (by first | exact hh | assumption)) D hz hTI hTO s1 s2 k1 k2 fun h' tk x y b1 b2 a1 a2 a3 a4 a5 a6 a7 => wpAny_pure (hQ h' tk x y b1 b2 a1 a2 a3 a4 a5 a6 a7)) (F.args_zip_next_1 _))))

theorem next2_end {k : Nat} {a b : Value} {Q : Option Value → Shared → Prop} (D1 : ∀ A : Around, A.handled = none → Draws prog w A i1 f1 n1 P1 S1) (D2 : ∀ A : Around, A.handled = none → Draws prog w A i2 f2 n2 P2 S2) (hh : A.handled = none) (D : Ap2 z TI TO i1 i2 f1 f2)
    (hz : IsZip s.heap z TI TO .none) (hTI : IsPair s.heap TI (.ref i1) (.ref i2)) (hTO : IsPair s.heap TO a b) (s1 : S1 k s.heap) (s2 : S2 k s.heap) (hend : k = n1 ∨ (k < n1 ∧ k = n2))
    (hQ : ∀ h' tk, (∀ c o, c ≠ z → c ≠ TO → c ≠ i1 → c ≠ i2 → s.heap.get? c = some o → h'.get? c = some o) → Q none { s with heap := h', toks := tk }) : wpAny (model prog w) A (pyNext (.ref z)) Q E s := by
  have hT : s.TypeIs (.ref z) "zip" := ⟨_, hz, rfl⟩
  unfold pyNext
  refine wpAny_bind (wpAny_attempt (wpAny_callSpecial?_slot (name := Str.ofString "__next__") hT F.slot_zip_next
    (wpAny_call_entry F.slot_zip_next hT F.entry_zip_next (zip2_end (D1 _ (by first | exact hh | assumption)) (D2 _ (by first | exact hh | assumption)) D hz hTI hTO s1 s2 hend fun h' tk e hk he => ?_) (F.args_zip_next_1 _))))
  obtain ⟨o, ho, hc⟩ := he
  refine wpAny_bind (wpAny_isInstance (T := "StopIteration") (b := true) ⟨o, ho, hc⟩ isSubtype_stop ?_)
  exact wpAny_pure (hQ _ _ hk)
end
end Zp

set_option Elab.async false
set_option linter.all false
set_option maxRecDepth 100000
set_option maxHeartbeats 8000000
namespace Zp
open PySem L2
/-- the heap behind zip's making -/
abbrev zH (h : Heap) (o1 o2 : Obj) : Heap := (((h.push o1).push o2).push { cls := .type "tuple", data := .seq #[.ref h.objs.size, .ref (h.push o1).objs.size] }).push { cls := .type "tuple", data := .seq #[.none, .none] }
abbrev tupIt (a : Addr) : Obj := { cls := .type "tuple_iterator", data := .fields #[.ref a, .int 0 0] }
abbrev zHz (h : Heap) (o1 o2 : Obj) : Heap := (zH h o1 o2).push { cls := .type "zip", data := .fields #[.none, .bool false, .bool false, .ref ((h.push o1).push o2).objs.size, .ref (((h.push o1).push o2).push { cls := .type "tuple", data := .seq #[.ref h.objs.size, .ref (h.push o1).objs.size] }).objs.size] }
end Zp

set_option Elab.async false
set_option maxRecDepth 100000
set_option linter.all false
set_option maxHeartbeats 4000000
namespace Wf
open PySem PySem.Spec PyProof.Rows L2
def top (i : Nat) : Stmt := PySem.Challenge.pw_dozehall_k41_moves_told_in_order.main.body.getD i (.Pass ⟨0, 0, 0, 0⟩)
abbrev sFits : Stmt := top 7
/-- does a part of a row fit its kind -/
def fitP (names : Str → Bool) (e : Int) (kd : Str) (v : V) : Bool :=
  match v with
  | .str n => names n
  | .int p => if (kd == "place") = true then decide (0 ≤ p) && decide (p ≤ e) else if (kd == "late") = true then decide (-1 ≤ p) && decide (p ≤ e) else if (kd == "count") = true then decide (0 ≤ p) else true
  | _ => true
def KindOk (kd : Str) (v : V) : Prop := ((kd == "room") = true ∧ ∃ n, v = .str n) ∨ ((kd == "room") = false ∧ ∃ p, v = .int p)
section
variable {prog : Program} {w : World} {A : Around} {E : Value → Shared → Prop}
theorem fits_body {env : Env} {s0 s : Shared} {L dC : Addr} {m : Str → Option Value} {kd : Str} {t1 t4 : Tok} {u : Value} {v : V} {e : Int} {vs : List (Key × Value)} {names : Str → Bool} (hk : env.scope.kind = .function) (hL : env.locals = L)
    (k1 : env.kindOf "kind" = some .local) (k2 : env.kindOf "part" = some .local) (k3 : env.kindOf "rooms" = some .local) (k4 : env.kindOf "end" = some .local) (x : InCall s0 L m s)
    (m1 : m "kind" = some (.str kd t1)) (m2 : m "part" = some u) (r : RelV v u) (m3 : m "rooms" = some (.ref dC)) (m4 : m "end" = some (.int e t4)) (hkv : KindOk kd v)
    (hd : (dC == sysModules) = false) (hm : s0.heap.DictOf (mixKind prog w) dC vs) (hn : ∀ n, (valueAt vs (Sum.inr n)).isSome = names n) {Q : Flow → Shared → Prop}
    (q : ∀ s', Keeps s0 s' → Q (.ret (.bool (fitP names e kd v))) s') : wpAny (model prog w) A (execs (defBody sFits) env) Q E s := by
  have ld : ∀ {y : Str} {pos : Pos} {u' : Value} {s' : Shared} {Q' : Value → Shared → Prop}, InCall s0 L m s' → env.kindOf y = some .local → m y = some u' → (y == ("__debug__" : Str)) = false → Q' u' s' → wpAny (model prog w) A (eval (.Name y pos) env) Q' E s' :=
    fun x hy hm hd q => wpAny_Name (wpAny_loadName_local hk hy (by rw [hL]; exact x.ns) hm q) hd
  have tst : ∀ {c : Str} {p1 p2 p3 : Pos} {j : Nat} {whole : Sem Value} {s' : Shared} {Q' : Bool → Shared → Prop}, InCall s0 L m s' → (∀ s'', InCall s0 L m s'' → Q' (kd == c) s'') → wpAny (model prog w) A (isTrue (.Compare (.Name "kind" p1) [.Eq] [.Constant (.str c) j p2] p3) env whole) Q' E s' :=
    fun x q => wpAny_isTrue_Compare1 (ld x k1 m1 rfl (Calls.Constant_str (PyProof.Rows.eq_str (wpAny_truthy_bool (q _ (x.tok _))))))
  have fin : ∀ {b : Bool} {s' : Shared}, InCall s0 L m s' → b = fitP names e kd v → Q (.ret (.bool b)) s' := fun {b s'} x e => by
    rw [e]
    obtain ⟨h, tk, rfl⟩ := x.same
    exact q _ ⟨h, tk, rfl, x.keep⟩
  refine wpAny_execs_cons (wpAny_If (tst x fun s x => ?_))
  rcases hkv with ⟨h1, n, rfl⟩ | ⟨h1, p, rfl⟩
  · rw [h1]
    obtain ⟨t, rfl⟩ := r
    refine ite_tt (wpAny_execs_cons (wpAny_Return_some (wpAny_Compare1 (ld x k2 m2 rfl (ld x k3 m3 rfl ?_)))))
    refine wpAny_in_of (mixKind_str prog w n t) hd (hm.keep x.keep).mapOf ?_
    rw [hn]
    exact fin (x.tok _) rfl
  · rw [h1]
    obtain ⟨t, rfl⟩ := r
    refine ite_ff (wpAny_execs_nil (wpAny_execs_cons (wpAny_If (tst x fun s x => ?_))))
    cases h2 : (kd == "place") with
    | true =>
      refine ite_tt (wpAny_execs_cons (wpAny_Return_some (Compare_chain (wpAny_Constant_int (chain_link (ld (x.tok _) k2 m2 rfl (PyProof.Rows.le_int (wpAny_truthy_bool ?_))))))))
      by_cases h : (0 : Int) ≤ p
      · rw [decide_eq_true h]
        exact ite_tt (chain_last (ld (x.tok _) k4 m4 rfl (PyProof.Rows.le_int (fin (x.tok _) (by simp [fitP, h2, h])))))
      · rw [decide_eq_false h]
        exact ite_ff (fin (x.tok _) (by simp [fitP, h2, h]))
    | false =>
      refine ite_ff (wpAny_execs_nil (wpAny_execs_cons (wpAny_If (tst x fun s x => ?_))))
      cases h3 : (kd == "late") with
      | true =>
        refine ite_tt (wpAny_execs_cons (wpAny_Return_some (Compare_chain (UnaryOp_ (wpAny_Constant_int (neg_int (chain_link (ld ((x.tok _).tok _) k2 m2 rfl (PyProof.Rows.le_int (wpAny_truthy_bool ?_))))))))))
        by_cases h : (-1 : Int) ≤ p
        · rw [decide_eq_true h]
          exact ite_tt (chain_last (ld ((x.tok _).tok _) k4 m4 rfl (PyProof.Rows.le_int (fin ((x.tok _).tok _) (by simp [fitP, h2, h3, h])))))
        · rw [decide_eq_false h]
          exact ite_ff (fin ((x.tok _).tok _) (by simp [fitP, h2, h3, h]))
      | false =>
        refine ite_ff (wpAny_execs_nil (wpAny_execs_cons (wpAny_If (tst x fun s x => ?_))))
        cases h4 : (kd == "count") with
        | true =>
          exact ite_tt (wpAny_execs_cons (wpAny_Return_some (wpAny_Compare1 (ld x k2 m2 rfl (wpAny_Constant_int (PyProof.Rows.ge_int (fin (x.tok _) (by simp [fitP, h2, h3, h4]))))))))
        | false =>
          exact ite_ff (wpAny_execs_nil (wpAny_execs_cons (wpAny_Return_some (Constant_bool (fin x (by simp [fitP, h2, h3, h4]))))))
end
end Wf

set_option Elab.async false
set_option linter.all false
set_option maxRecDepth 100000
set_option maxHeartbeats 8000000
namespace Zp
open PySem L2
/-! ### zip(tuple, list) -/
end Zp

set_option Elab.async false
set_option linter.all false
set_option maxRecDepth 100000
set_option maxHeartbeats 8000000
namespace Zp
open PySem L2
end Zp

set_option Elab.async false
set_option linter.all false
set_option maxRecDepth 100000
set_option maxHeartbeats 4000000
namespace Zp
open PySem PySem.Spec PyProof.Rows L2 PySem.W
section
variable {prog : Program} {w : World} {A : Around} {E : Value → Shared → Prop} {s : Shared}
end
theorem ap2_new (I a b : Nat) (h1 : a < I) (h2 : b < I) : Ap2 (I + 4) (I + 2) (I + 3) I (I + 1) [I, a] [I + 1, b] := by
  constructor <;> first
    | (intro c hc; rcases List.mem_cons.mp hc with q | q
       · rw [q]; exact Nat.ne_of_lt (by omega)
       · rw [List.mem_singleton.mp q]; exact Nat.ne_of_lt (by omega))
    | (intro c hc; rcases List.mem_cons.mp hc with q | q
       · rw [q]; exact Nat.ne_of_gt (by omega)
       · rw [List.mem_singleton.mp q]; exact Nat.ne_of_lt (by omega))
    | exact Nat.ne_of_lt (by omega)
    | exact Nat.ne_of_gt (by omega)
end Zp

set_option Elab.async false
set_option linter.all false
set_option maxRecDepth 100000
set_option maxHeartbeats 8000000
namespace Zp
open PySem L2
theorem meets_ztt (a b : Addr) (xs ys : Array Value) :
    Meets (Builtin.«zip.__new__» ⟨[.type "zip", .ref a, .ref b], []⟩) (fun _ R s => s.heap.IsTuple a xs ∧ s.heap.IsTuple b ys ∧ R (.ok (.ret (.ref (zH s.heap (tupIt a) (tupIt b)).objs.size))) { s with heap := zHz s.heap (tupIt a) (tupIt b) }) :=
  .of_wp fun prog w A R s h => by
    obtain ⟨hp, g, d, tk, os⟩ := s; obtain ⟨hl1, hl2, h⟩ := h
    have hsub := sub_zip
    have hL1 : Heap.IsTuple (Shared.heap ⟨hp, g, d, tk, os⟩) a xs := hl1
    have hL2 : Heap.IsTuple (Shared.heap ⟨hp.push { cls := .type "tuple_iterator", data := .fields #[.ref a, .int 0 0] }, g, d, tk, os⟩) b ys := (let ⟨o, e, r⟩ := hl2; ⟨o, Heap.get?_push_of_some _ e, r⟩)
    wp_walk using wpAny_pyIter_tuple hL1, wpAny_pyIter_tuple hL2
    exact ⟨_, rfl, h⟩
end Zp
namespace Zp
open PySem PySem.Spec PyProof.Rows L2 PySem.W
section
variable {prog : Program} {w : World} {A : Around} {E : Value → Shared → Prop} {s : Shared}
theorem call_ztt {a b : Addr} {xs ys : Array Value} {Q : Value → Shared → Prop} (h1 : s.heap.IsTuple a xs) (h2 : s.heap.IsTuple b ys)
    (q : ∀ h', IsZip h' (s.heap.objs.size + 4) (s.heap.objs.size + 2) (s.heap.objs.size + 3) .none → IsPair h' (s.heap.objs.size + 2) (.ref s.heap.objs.size) (.ref (s.heap.objs.size + 1)) →
      IsPair h' (s.heap.objs.size + 3) .none .none → h'.IsTupleIter s.heap.objs.size a 0 → h'.IsTupleIter (s.heap.objs.size + 1) b 0 →
      (∀ c o, s.heap.get? c = some o → h'.get? c = some o) → Q (.ref (s.heap.objs.size + 4)) { s with heap := h' }) :
    wpAny (model prog w) A (call (.type "zip") [.ref a, .ref b]) Q E s := by
  refine callType_new F.called_zip (by decide) (F.typeCall_zip_2 _ _) (F.newCall_zip_2 _ _) (fun obj => F.args_object_init_3 obj _ _) F.entry_zip_new (meets_ztt a b xs ys) ⟨h1, h2, ?_⟩
  have z1 : (s.heap.push (tupIt a)).objs.size = s.heap.objs.size + 1 := Heap.size_push ..
  have z2 : ((s.heap.push (tupIt a)).push (tupIt b)).objs.size = s.heap.objs.size + 2 := by rw [Heap.size_push, z1]
  have z3 : (((s.heap.push (tupIt a)).push (tupIt b)).push { cls := .type "tuple", data := .seq #[.ref s.heap.objs.size, .ref (s.heap.push (tupIt a)).objs.size] }).objs.size = s.heap.objs.size + 3 := by rw [Heap.size_push, z2]
  have z4 : (zH s.heap (tupIt a) (tupIt b)).objs.size = s.heap.objs.size + 4 := by rw [Heap.size_push, z3]
  have g5 : (zHz s.heap (tupIt a) (tupIt b)).get? (zH s.heap (tupIt a) (tupIt b)).objs.size = some _ := Heap.get?_push_size _ rfl
  have g4 : (zHz s.heap (tupIt a) (tupIt b)).get? (((s.heap.push (tupIt a)).push (tupIt b)).push { cls := .type "tuple", data := .seq #[.ref s.heap.objs.size, .ref (s.heap.push (tupIt a)).objs.size] }).objs.size = some _ := Heap.get?_push_of_some _ (Heap.get?_push_size _ rfl)
  have g3 : (zHz s.heap (tupIt a) (tupIt b)).get? ((s.heap.push (tupIt a)).push (tupIt b)).objs.size = some _ := Heap.get?_push_of_some _ (Heap.get?_push_of_some _ (Heap.get?_push_size _ rfl))
  have g2 : (zHz s.heap (tupIt a) (tupIt b)).get? (s.heap.push (tupIt a)).objs.size = some _ := Heap.get?_push_of_some _ (Heap.get?_push_of_some _ (Heap.get?_push_of_some _ (Heap.get?_push_size _ rfl)))
  have g1 : (zHz s.heap (tupIt a) (tupIt b)).get? s.heap.objs.size = some _ := Heap.get?_push_of_some _ (Heap.get?_push_of_some _ (Heap.get?_push_of_some _ (Heap.get?_push_of_some _ (Heap.get?_push_size _ rfl))))
  show _ ∧ _
  rw [z2, z3, z4] at g5
  rw [z1, z2] at g3
  rw [z3] at g4
  rw [z1] at g2
  rw [z4]
  exact ⟨⟨_, g5, rfl⟩, q _ g5 g3 g4 ⟨_, g1, rfl, rfl⟩ ⟨_, g2, rfl, rfl⟩ fun c o x =>
    Heap.get?_push_of_some _ (Heap.get?_push_of_some _ (Heap.get?_push_of_some _ (Heap.get?_push_of_some _ (Heap.get?_push_of_some _ x))))⟩
end
section
variable {prog : Program} {w : World} {z TI TO i1 i2 : Addr} {f1 f2 : List Addr} {n : Nat} {P1 P2 : Nat → Value → Prop} {S1 S2 : Nat → Heap → Prop}
/-- zip of two sources that are of one length, as a walk whose items are pairs -/
theorem walks2 (D1 : ∀ A : Around, A.handled = none → Draws prog w A i1 f1 n P1 S1) (D2 : ∀ A : Around, A.handled = none → Draws prog w A i2 f2 n P2 S2) (m1 : i1 ∈ f1) (m2 : i2 ∈ f2) (D : Ap2 z TI TO i1 i2 f1 f2) {A : Around} (hh : A.handled = none) :
    WalksU prog w A z (z :: TI :: TO :: (f1 ++ f2)) [z, TO, i1, i2] n (fun i vals => ∃ x y, P1 i x ∧ P2 i y ∧ vals = #[x, y])
      (fun i h => IsZip h z TI TO .none ∧ IsPair h TI (.ref i1) (.ref i2) ∧ (∃ a b, IsPair h TO a b) ∧ S1 i h ∧ S2 i h)
      (fun i T h => IsZip h z TI TO (rawInt T) ∧ IsPair h TI (.ref i1) (.ref i2) ∧ (∃ a b, IsPair h TO a b) ∧ S1 (i + 1) h ∧ S2 (i + 1) h ∧ T ∉ [z, TO, i1, i2]) where
  sub := fun b hb => by
    simp only [List.mem_cons, List.not_mem_nil, or_false] at hb
    rcases hb with rfl | rfl | rfl | rfl
    · simp
    · simp
    · simp [m1]
    · simp [m2]
  frame := fun i h h' ⟨a1, a2, ⟨a, b, a3⟩, a4, a5⟩ k => ⟨k z (by simp) _ a1, k TI (by simp) _ a2, ⟨a, b, k TO (by simp) _ a3⟩, (D1 A hh).frame _ _ _ a4 fun b hb o e => k b (by simp [hb]) o e, (D2 A hh).frame _ _ _ a5 fun b hb o e => k b (by simp [hb]) o e⟩
  item := fun i s Q E hi ⟨a1, a2, ⟨a, b, a3⟩, a4, a5⟩ q => by
    refine next2_item D1 D2 hh D a1 a2 a3 a4 a5 hi hi fun h' tk x y p1 p2 b1 b2 b3 b4 b5 b6 b7 => ?_
    obtain ⟨o1, e1⟩ := (D1 A hh).live _ _ a4
    obtain ⟨o2, e2⟩ := (D2 A hh).live _ _ a5
    have n1 : s.heap.objs.size ≠ z := Nat.ne_of_gt (Heap.lt_size a1)
    have n2 : s.heap.objs.size ≠ TO := Nat.ne_of_gt (Heap.lt_size a3)
    have n3 : s.heap.objs.size ≠ i1 := Nat.ne_of_gt (Heap.lt_size e1)
    have n4 : s.heap.objs.size ≠ i2 := Nat.ne_of_gt (Heap.lt_size e2)
    refine q _ #[x, y] h' tk ⟨x, y, p1, p2, rfl⟩ ⟨_, b5, rfl, _, rfl⟩ ⟨b1, b7 _ _ D.TIz D.TITO D.TIi1 D.TIi2 a2, ⟨x, y, b2⟩, b3, b4, by simp [n1, n2, n3, n4]⟩ fun c o hc e => ?_
    simp only [List.mem_cons, List.not_mem_nil, or_false, not_or] at hc
    exact b7 c o hc.1 hc.2.1 hc.2.2.1 hc.2.2.2 e
  go := fun elts k pos i T s Q E ⟨a1, a2, ⟨a, b, a3⟩, a4, a5, _⟩ q => wpAny_letOwnedTupleGo_zip a1 fun h' b1 sb => by
    refine q h' ⟨b1, (sb.2 _ D.TIz).trans a2, ⟨a, b, (sb.2 _ D.TOz).trans a3⟩, (D1 A hh).frame _ _ _ a4 fun b hb o e => sb.extBut b o (D.f1z b hb) e, (D2 A hh).frame _ _ _ a5 fun b hb o e => sb.extBut b o (D.f2z b hb) e⟩ fun b o hb e => sb.extBut b o (fun q => hb (by simp [q])) e
  apart := fun i T h a => a.2.2.2.2.2
  done := fun s Q E ⟨a1, a2, ⟨a, b, a3⟩, a4, a5⟩ q => next2_end D1 D2 hh D a1 a2 a3 a4 a5 (.inl rfl) fun h' tk k => q h' tk fun c o hc e => by
    simp only [List.mem_cons, List.not_mem_nil, or_false, not_or] at hc
    exact k c o hc.1 hc.2.1 hc.2.2.1 hc.2.2.2 e
  self := fun i s Q E ⟨a1, _⟩ q => wpAny_pyIter_zip a1 q
end
end Zp

set_option Elab.async false
set_option maxRecDepth 100000
set_option linter.all false
set_option maxHeartbeats 4000000
namespace Wf
open PySem PySem.Spec PyProof.Rows L2 Tb Zp
section
variable {prog : Program} {w : World} {A : Around} {E : Value → Shared → Prop} {s : Shared} {K : PySem.W.Frag}
theorem kinds4 (a b c d : Value) : (([("kind", a), ("part", b), ("rooms", c), ("end", d)] : List (Str × Value)).all fun y => (defScope sFits).names.lookup y.1 == some .local || (defScope sFits).names.lookup y.1 == some .cell) = true := by
  have h : ∀ n ∈ (["kind", "part", "rooms", "end"] : List Str), ((defScope sFits).names.lookup n == some .local || (defScope sFits).names.lookup n == some .cell) = true := by decide +kernel
  rw [List.all_eq_true]
  intro y hy
  refine h _ ?_
  simp only [List.mem_cons, List.not_mem_nil, or_false] at hy ⊢
  rcases hy with rfl | rfl | rfl | rfl <;> simp
/-- part_fits, called over any heap: nothing is written -/
theorem fits_call {f dC : Addr} {kd : Str} {t1 t4 : Tok} {u : Value} {v : V} {e : Int} {vs : List (Key × Value)} {names : Str → Bool} {kV doc pm cdv ct oc : Value} {an od : Option Addr} {osl : Array (Option Value)}
    (X : K.In s.heap) (hlim : s.heap.NoLimit) (lk : K.lookup f = some ⟨oc, od, .func (PySem.W.fnOf "part_fits" "part_fits" (defArgs sFits) (defBody sFits) (defScope sFits) .none kV doc pm an cdv ct), osl⟩) (hcd : PySem.W.codeIn K cdv "part_fits" = true) (hroom : A.depth < recursionLimit)
    (r : RelV v u) (hkv : KindOk kd v) (hd : (dC == sysModules) = false) (hm : s.heap.DictOf (mixKind prog w) dC vs) (hn : ∀ n, (valueAt vs (Sum.inr n)).isSome = names n) :
    wpAny (model prog w) A (call (.ref f) [.str kd t1, u, .ref dC, .int e t4]) (fun y s' => y = .bool (fitP names e kd v) ∧ Keeps s s') E s := by
  refine wpAny_call (Att.call_fn (binds := [("kind", .str kd t1), ("part", u), ("rooms", .ref dC), ("end", .int e t4)]) X hlim lk hcd hroom (.of_eq rfl) (kinds4 _ _ _ _) (fun s1 x => ?_) rfl rfl rfl)
  exact fits_body rfl rfl rfl rfl rfl rfl x.toInCall rfl rfl r rfl rfl hkv hd hm hn fun s' k => ⟨rfl, k⟩
end
end Wf

set_option Elab.async false
set_option maxRecDepth 100000
set_option linter.all false
set_option maxHeartbeats 4000000
namespace Wf
open PySem PySem.Spec PyProof.Rows L2 Tb Zp
/-- all the parts fit -/
def fitsAll (names : Str → Bool) (e : Int) : List Str → List V → Bool
  | kd :: kds, x :: xs => fitP names e kd x && fitsAll names e kds xs
  | _, _ => true
def namesOf (kvs : List (Key × V)) : Str → Bool := fun n => (valV kvs (.inr n)).isSome
/-- all(part_fits(kind, part, rooms, end) for kind, part in zip(..)) -/
def tAllFit (K : PySem.W.Frag) (ta : TA) (iR iE : Nat) (P : Addr) (pos : Pos) (qual : Str) : TE := fun σ H Q => ta σ H fun vs H1 => ∃ (a b : Addr) (kds : List Str) (xs : List V) (d : Addr) (kvs : List (Key × V)) (e : Int), vs = [.ref a, .ref b] ∧
  SqT K H1 a (kds.map V.str) ∧ SqT K H1 b xs ∧ Paired KindOk kds xs ∧ σ[iR]? = some (some (.ref d)) ∧ Rd H1 d (.dK kvs) ∧ σ[iE]? = some (some (.int e)) ∧ LamT H1 P pos qual ∧
  ∀ H', (∀ b o, H1 b = some o → b ≠ P → H' b = some o) → LamT H' P pos qual → Q (.bl (fitsAll (namesOf kvs) e kds xs)) H'
section
variable {X : Cx}
theorem paired_at {α β : Type} {R : α → β → Prop} : ∀ {xs : List α} {ys : List β}, Paired R xs ys → ∀ {i : Nat} {x : α} {y : β}, xs[i]? = some x → ys[i]? = some y → R x y
  | _, _, .nil, _, _, _, h, _ => by simp at h
  | _, _, .cons r t, 0, _, _, h1, h2 => by cases h1; cases h2; exact r
  | _, _, .cons r t, i + 1, _, _, h1, h2 => paired_at t (i := i) h1 h2
theorem o1 {N P : Nat} (h : P < N) (j : Nat) : N + j ≠ P := by omega
theorem o2 {N c : Nat} (h : c < N) : ¬ (c = N + 4 ∨ c = N + 3 ∨ c = N ∨ c = N + 1) := by omega
theorem o3 {N c a b S : Nat} (e : c = N + 4 ∨ c = N + 2 ∨ c = N + 3 ∨ c = N ∨ c = a ∨ c = N + 1 ∨ c = b) (ha : a < N) (hb : b < N) (hz : N + 4 < S) : c < S := by omega
theorem o4 {N c : Nat} (e : c = N + 4 ∨ c = N + 3 ∨ c = N ∨ c = N + 1) : N ≤ c ∧ c ≤ N + 4 := by omega
theorem pr_len {α β : Type} {R : α → β → Prop} : ∀ {xs : List α} {ys : List β}, Paired R xs ys → xs.length = ys.length
  | _, _, .nil => rfl
  | _, _, .cons _ t => congrArg (· + 1) (pr_len t)
theorem fitsAll_range (nm : Str → Bool) (e : Int) : ∀ (kds : List Str) (xs : List V), kds.length = xs.length → ((List.range xs.length).all fun j => match kds[j]?, xs[j]? with | some k, some x => fitP nm e k x | _, _ => true) = fitsAll nm e kds xs
  | [], [], _ => rfl
  | k :: kds, x :: xs, h => by
    rw [List.length_cons, List.range_succ_eq_map, List.all_cons, List.all_map]
    show (fitP nm e k x && _) = (fitP nm e k x && fitsAll nm e kds xs)
    rw [← fitsAll_range nm e kds xs (by simpa using h)]
    rfl
  | [], _ :: _, h => by simp at h
  | _ :: _, [], h => by simp at h
theorem pe_all_fit {ea eb : Expr} {ta : TA} {scope : Scope} {c P f cR cE : Addr} {cl : List (Str × Addr)} {kt iR iE : Nat} {p q0 q1 q2 q3 q4 q5 q6 q7 pa pb pt pos cpos : Pos} {kV doc pm cdv ct oc : Value} {an od : Option Addr} {osl : Array (Option Value)}
    (hr : Room 3 X.A) (hbm : BM X.mg X.base) (hcode : X.env.code = .ref c) (hC : PySem.W.codeHdIn X.K c P = true)
    (lk : X.K.lookup f = some ⟨oc, od, .func (PySem.W.fnOf "part_fits" "part_fits" (defArgs sFits) (defBody sFits) (defScope sFits) .none kV doc pm an cdv ct), osl⟩) (hcd : PySem.W.codeIn X.K cdv "part_fits" = true) (kp : PySem.W.keepIn X.K (.ref f) = true)
    (hcl : closureFor scope X.env = pure cl) (hcR : cl.lookup ("rooms" : Str) = some cR) (hcE : cl.lookup ("end" : Str) = some cE) (hxR : X.env.cells.lookup ("rooms" : Str) = some cR) (hxE : X.env.cells.lookup ("end" : Str) = some cE)
    (hNR : X.N[iR]? = some "rooms") (hNE : X.N[iE]? = some "end") (hvR : X.env.scope.names.lookup ("rooms" : Str) = some .cell) (hvE : X.env.scope.names.lookup ("end" : Str) = some .cell) (hkR : X.env.kindOf "rooms" = some .cell) (hkE : X.env.kindOf "end" = some .cell)
    (hco : scope.isCoroutine = false) (hcell : ∀ z ∈ scope.names, z.2 ≠ .cell) (h0 : scope.names.lookup (".0" : Str) = some NameKind.local) (hya : scope.names.lookup ("kind" : Str) = some .local) (hyb : scope.names.lookup ("part" : Str) = some .local) (hkind : scope.kind = .function)
    (ky : ∀ C code bi, (genEnv scope cl C code bi X.env).kindOf "kind" = some .local) (kz : ∀ C code bi, (genEnv scope cl C code bi X.env).kindOf "part" = some .local) (kR : ∀ C code bi, (genEnv scope cl C code bi X.env).kindOf "rooms" = some .free)
    (kE : ∀ C code bi, (genEnv scope cl C code bi X.env).kindOf "end" = some .free) (kf : ∀ C code bi, (genEnv scope cl C code bi X.env).kindOf "part_fits" = some .globalImplicit)
    (hg : Gl X "all") (hm : X.mg "all" = none) (hgz : Gl X "zip") (hmz : X.mg "zip" = none) (hmf : X.mg "part_fits" = some (.ref f))
    (hs : ∀ x, genFold (.Call (.Name "zip" q6) [ea, eb] [] q7) X.env x = pure x) (ha : PA X [ea, eb] ta)
    (hsa : starEach [ea, eb] X.env = (false, eval ea X.env) :: starEach [eb] X.env := by rfl) (hpl : (backTo q7 (starEach [eb] X.env)).any (·.1) = false := by rfl) :
    PE X (.Call (.Name "all" p) [.GeneratorExp (.Call (.Name "part_fits" q0) [.Name "kind" q1, .Name "part" q2, .Name "rooms" q3, .Name "end" q4] [] q5) [⟨.Tuple [.Name "kind" pa, .Name "part" pb] kt pt, .Call (.Name "zip" q6) [ea, eb] [] q7, [], 0⟩] scope pos] [] cpos) (tAllFit X.K ta iR iE P pos (X.env.qual ++ "<genexpr>")) := by
  intro pins s σ H Q I h
  refine wpAny_Call_Name_kw (ld_blt (u := .builtin "all") I hg hm boot_all ?_)
  generalize eG : (Expr.GeneratorExp (.Call (.Name "part_fits" q0) [.Name "kind" q1, .Name "part" q2, .Name "rooms" q3, .Name "end" q4] [] q5) [⟨.Tuple [.Name "kind" pa, .Name "part" pb] kt pt, .Call (.Name "zip" q6) [ea, eb] [] q7, [], 0⟩] scope pos) = G
  have hst : starEach [G] X.env = [(false, eval G X.env)] := by subst eG; rfl
  refine PyProof.Rows.callWith_builtin1 ?_ hst rfl
  rw [hst]
  show wpAny _ _ (spliced ((false, _) :: [])) _ _ s
  refine Calls.spliced_cons ?_
  subst eG
  have hdep : X.A.depth < recursionLimit := by have := hr.dp; omega
  refine wpAny_GeneratorExp_walksQTD hr.hd hco hcl hcell h0 hya hyb (by decide +kernel) hkind hdep ?_ hs
  refine Call_ (ld_blt I hgz hmz boot_zip5 (PyProof.Rows.callWith_type1 (thn (ha q7 pins s σ H _ I h) fun us s1 ⟨vs, H1, I1, r1, q1⟩ => ?_) hsa hpl))
  obtain ⟨a, b, kds, xs, d, kvs, e, ex, hqa, hqb, hpr, hσR, hdd, hσE, hT, q⟩ := q1
  subst ex
  cases r1 with
  | cons r rr =>
    cases rr with
    | cons r' rr =>
      cases rr
      cases r
      cases r'
      obtain ⟨its, rv, p1, _⟩ := I1.tuple hqa
      obtain ⟨its2, rv2, p2, _⟩ := I1.tuple hqb
      have la : a < s1.heap.objs.size := by
        obtain ⟨o, e, _⟩ := (show s1.heap.IsTuple a its.toArray from p1)
        exact Heap.lt_size e
      have lb : b < s1.heap.objs.size := by
        obtain ⟨o, e, _⟩ := (show s1.heap.IsTuple b its2.toArray from p2)
        exact Heap.lt_size e
      have hlen : kds.length = xs.length := pr_len hpr
      have hl1 : its.toArray.size = xs.length := by rw [List.size_toArray, ← rv.length, List.length_map, hlen]
      have hl2 : its2.toArray.size = xs.length := by rw [List.size_toArray, ← rv2.length]
      refine call_ztt p1 p2 fun h' hz hTI hTO h1 h2 hk => wpAny_pyIter_zip hz ?_
      have I2 : Inv X pins σ H1 { s1 with heap := h' } := I1.kept (t' := s1.toks) hk
      refine ⟨I2.nolimit, gen_code hcode hC I2 hT fun c' H3 s3 I3 kp3 hT3 sz3 k3 eg3 eo3 kn3 => ?_⟩
      obtain ⟨bm, ob, b1, b2, b3, b4, b5, b6⟩ := hbm
      refine wpAny_builtinsFor (by rw [I.ok.glob]; exact I3.mod.glob.keeps I3.bk) b1 b2 (I3.bk _ _ b3) b4 b5 b6 ?_
      obtain ⟨tps, hPt⟩ := hT.is
      have gP : s1.heap.get? P = some { cls := .none, data := .fields tps } := I1.hok P _ hPt
      have hPs : P < s1.heap.objs.size := Heap.lt_size gP
      have nIP : ∀ j, s1.heap.objs.size + j ≠ P := fun j => o1 hPs j
      have nP : ∀ b o, s1.heap.get? b = some o → (∀ vs, o.data ≠ .fields vs) → b ≠ P := fun b o e n z => by rw [z, gP] at e; cases e; exact n _ rfl
      have old3 : ∀ b o, s1.heap.get? b = some o → b ≠ P → s3.heap.get? b = some o := fun b o e n => k3 b o (hk b o e) n
      have z3 : IsZip s3.heap (s1.heap.objs.size + 4) (s1.heap.objs.size + 2) (s1.heap.objs.size + 3) .none := k3 _ _ hz (nIP 4)
      have TI3 : IsPair s3.heap (s1.heap.objs.size + 2) (.ref s1.heap.objs.size) (.ref (s1.heap.objs.size + 1)) := k3 _ _ hTI (nIP 2)
      have TO3 : IsPair s3.heap (s1.heap.objs.size + 3) .none .none := k3 _ _ hTO (nIP 3)
      have i13 : s3.heap.IsTupleIter s1.heap.objs.size a 0 := let ⟨o, e, r⟩ := h1; ⟨o, k3 _ o e (nIP 0), r⟩
      have i23 : s3.heap.IsTupleIter (s1.heap.objs.size + 1) b 0 := let ⟨o, e, r⟩ := h2; ⟨o, k3 _ o e (nIP 1), r⟩
      have ta3 : s3.heap.IsTuple a its.toArray := let ⟨o, e, c, n, d⟩ := p1; ⟨o, old3 _ o e (nP _ _ e fun vs z => by rw [d] at z; cases z), c, n, d⟩
      have tb3 : s3.heap.IsTuple b its2.toArray := let ⟨o, e, c, n, d⟩ := p2; ⟨o, old3 _ o e (nP _ _ e fun vs z => by rw [d] at z; cases z), c, n, d⟩
      have D1 : ∀ A : Around, A.handled = none → Draws X.prog X.w A s1.heap.objs.size [s1.heap.objs.size, a] xs.length (fun i x => its.toArray[i]? = some x) (fun i h => h.IsTupleIter s1.heap.objs.size a i ∧ h.IsTuple a its.toArray) := fun A hh => by
        rw [← hl1]; exact drawsTup hh _ _ (Nat.ne_of_lt la) _
      have D2 : ∀ A : Around, A.handled = none → Draws X.prog X.w A (s1.heap.objs.size + 1) [s1.heap.objs.size + 1, b] xs.length (fun i x => its2.toArray[i]? = some x) (fun i h => h.IsTupleIter (s1.heap.objs.size + 1) b i ∧ h.IsTuple b its2.toArray) := fun A hh => by
        rw [← hl2]; exact drawsTup hh _ _ (Nat.ne_of_lt (Nat.lt_succ_of_lt lb)) _
      refine ⟨s1.heap.objs.size + 4, _, _, xs.length, _, _, _, fun _ => true, fun i y => ∃ k x, kds[i]? = some k ∧ xs[i]? = some x ∧ y = .bool (fitP (namesOf kvs) e k x), rfl,
        fun A' hA => walks2 D1 D2 (by simp) (by simp) (ap2_new _ a b la lb) hA, fun i vals ⟨x, y, _, _, e⟩ => ⟨x, y, e⟩, ⟨z3, TI3, ⟨_, _, TO3⟩, ⟨i13, ta3⟩, ⟨i23, tb3⟩⟩, ?_, I3.nolimit, ?_, ?_, ?_⟩
      · intro c hc
        have hz4 := Heap.lt_size z3
        have e' : c = s1.heap.objs.size + 4 ∨ c = s1.heap.objs.size + 2 ∨ c = s1.heap.objs.size + 3 ∨ c = s1.heap.objs.size ∨ c = a ∨ c = s1.heap.objs.size + 1 ∨ c = b := by simpa using hc
        exact o3 e' la lb hz4
      · intro hc
        have lt : cStatics < s1.heap.objs.size := let ⟨_, hn, _⟩ := I1.nolimit; hn.lt
        have e' : cStatics = s1.heap.objs.size + 4 ∨ cStatics = s1.heap.objs.size + 3 ∨ cStatics = s1.heap.objs.size ∨ cStatics = s1.heap.objs.size + 1 := by simpa using hc
        exact o2 lt e'
      · intro href hkr
        refine ⟨fun A' E' i va vb s2 m2 hA _ _ hP hns hm2 hm3 hk2 => wpAny_pure ⟨rfl, s2.heap, s2.toks, rfl, fun _ _ e => e⟩, fun A' E' i va vb s2 m2 hA hD hU hP _ hns hma hmb hk2 => ?_⟩
        obtain ⟨va', vb', hx, hy, ee⟩ := hP
        have e1 : va = va' ∧ vb = vb' := by simpa using congrArg Array.toList ee
        obtain ⟨rfl, rfl⟩ := e1
        have old2 : ∀ b o, s1.heap.get? b = some o → b ≠ P → s2.heap.get? b = some o := fun c o e n => by
          have e3 := old3 c o e n
          have lt := Heap.lt_size e
          refine hk2 c (List.mem_range.mpr (Heap.lt_size e3)) (fun z => ?_) o (hkr _ _ e3)
          have e' : c = s1.heap.objs.size + 4 ∨ c = s1.heap.objs.size + 3 ∨ c = s1.heap.objs.size ∨ c = s1.heap.objs.size + 1 := by simpa using z
          exact o2 lt e'
        have base2 : ∀ b o, X.base.get? b = some o → s2.heap.get? b = some o := fun c o e => by
          have e1 := I1.bk c o e
          have e3 := I3.bk c o e
          have lt := Heap.lt_size e1
          refine hk2 c (List.mem_range.mpr (Heap.lt_size e3)) (fun z => ?_) o (hkr _ _ e3)
          have e' : c = s1.heap.objs.size + 4 ∨ c = s1.heap.objs.size + 3 ∨ c = s1.heap.objs.size ∨ c = s1.heap.objs.size + 1 := by simpa using z
          exact o2 lt e'
        have KX : X.K.In s2.heap := I.ok.mod.kin.keeps base2
        have lim2 : s2.heap.NoLimit := I.ok.mod.nolimit.keeps base2
        have hx' : its[i]? = some va := by simpa using hx
        have hy' : its2[i]? = some vb := by simpa using hy
        have li : i < kds.length := by
          have := (List.getElem?_eq_some_iff.mp hx').1
          have l1 := rv.length
          rw [List.length_map] at l1; omega
        have li2 : i < xs.length := by omega
        obtain ⟨u1, hu1, ru1⟩ := rv.get (show (kds.map V.str)[i]? = some (V.str kds[i]) by rw [List.getElem?_map, List.getElem?_eq_getElem li]; rfl)
        obtain ⟨u2, hu2, ru2⟩ := rv2.get (List.getElem?_eq_getElem li2)
        rw [hx'] at hu1; cases hu1
        rw [hy'] at hu2; cases hu2
        obtain ⟨tk1, rfl⟩ := ru1
        have hko : KindOk kds[i] xs[i] := paired_at hpr (List.getElem?_eq_getElem li) (List.getElem?_eq_getElem li2)
        obtain ⟨m, _, hl⟩ := I1.loc
        obtain ⟨uR, rR, lR⟩ := hl iR "rooms" (.ref d) hNR hσR (.inr (.inl hvR))
        obtain ⟨uE, rE, lE⟩ := hl iE "end" (.int e) hNE hσE (.inr (.inl hvE))
        obtain rfl : uR = .ref d := rR
        obtain ⟨tE, rfl⟩ := rE
        have cellR : s2.heap.IsCell cR (some (.ref d)) := by
          rcases lR with ⟨hk, _⟩ | ⟨_, c, hc, o, ho, hd⟩
          · rw [hkR] at hk; cases hk
          · rw [hxR] at hc; cases hc
            exact ⟨o, old2 _ o ho (nP _ _ ho fun vs z => by rw [hd] at z; cases z), hd⟩
        have cellE : s2.heap.IsCell cE (some (.int e tE)) := by
          rcases lE with ⟨hk, _⟩ | ⟨_, c, hc, o, ho, hd⟩
          · rw [hkE] at hk; cases hk
          · rw [hxE] at hc; cases hc
            exact ⟨o, old2 _ o ho (nP _ _ ho fun vs z => by rw [hd] at z; cases z), hd⟩
        obtain ⟨_, hsys, dvs, rel, dd⟩ := dk_rd I1.hok hdd
        have dP : d ≠ P := fun z => by
          rcases hdd with h | ⟨o, h⟩
          · rw [z, hPt] at h; cases h
          · rw [z, hPt] at h; cases h
        have dd2 : s2.heap.DictOf (mixKind X.prog X.w) d dvs := dd.at fun o e => old2 _ o e dP
        refine wpAny_Call_Name_kw (Calls.Name_function_global hkind (kf _ _ _) (Calls.loadGlobal_global (mg := X.mg) (by show s2.heap.Ns X.env.globals X.mg; rw [I.ok.glob]; exact I.mod.glob.keeps base2) hmf ?_) (by decide +kernel))
        refine PySem.W.callWith_K (h₀ := X.base) I.ok.mod.kin kp ?_
        show wpAny _ _ (spliced ((false, eval (.Name "kind" q1) _) :: (false, eval (.Name "part" q2) _) :: (false, eval (.Name "rooms" q3) _) :: (false, eval (.Name "end" q4) _) :: [])) _ _ _
        refine Calls.spliced_cons (wpAny_Name (wpAny_loadName_local hkind (ky _ _ _) hns hma ?_) (by decide +kernel))
        refine Calls.spliced_cons (wpAny_Name (wpAny_loadName_local hkind (kz _ _ _) hns hmb ?_) (by decide +kernel))
        refine Calls.spliced_cons (wpAny_Name (wpAny_loadName_free hkind (kR _ _ _) hcR cellR ?_ (by decide +kernel)) (by decide +kernel))
        refine Calls.spliced_cons (wpAny_Name (wpAny_loadName_free hkind (kE _ _ _) hcE cellE ?_ (by decide +kernel)) (by decide +kernel))
        refine Calls.spliced_nil ⟨KX, ?_⟩
        have hdA : A'.depth < recursionLimit := by have := hr.dp; omega
        exact wpAny_mono (fits_call KX lim2 lk hcd hdA ru2 hko hsys dd2 (fun n => (rel.val (.inr n)).isSome_eq.symm)) (fun y s3 ⟨ey, k⟩ => ⟨⟨_, _, List.getElem?_eq_getElem li, List.getElem?_eq_getElem li2, ey⟩, k⟩) fun _ _ e => e
      · intro a5 h5 tk gs hgs ha5 h5s hk5 WX hG
        refine Calls.spliced_nil (call_all_walkS ?_)
        have W1 := WX.in4_1
        refine W1.self 0 _ _ _ hG ?_
        rw [passing_all] at W1
        refine ⟨a5, _, _, _, _, _, _, fun j => match kds[j]?, xs[j]? with | some k, some x => fitP (namesOf kvs) e k x | _, _ => true, rfl, W1, hG, fun j v s' Q' E' hP hQ => ?_, fun s' hmv => ?_⟩
        · obtain ⟨i, hi, k, x, hk, hx, rfl⟩ := hP
          have lt : j < xs.length := by
            have := (List.getElem?_eq_some_iff.mp hi).1
            rwa [List.length_range] at this
          rw [List.getElem?_range lt] at hi
          obtain rfl := Option.some.inj hi
          dsimp only at hQ
          rw [hk, hx] at hQ
          exact wpAny_truthy_bool hQ
        · have keep : ∀ b o, b ∉ [s1.heap.objs.size + 4, s1.heap.objs.size + 3, s1.heap.objs.size, s1.heap.objs.size + 1] → s3.heap.get? b = some o → s'.heap.get? b = some o := fun b o nb e => hmv.heap b o (fun z => by
            rcases List.mem_cons.mp z with z | z
            · exact Nat.lt_irrefl _ (z ▸ Heap.lt_size e)
            · exact nb z) (hk5 b o e)
          have I4 : Inv X pins σ H3 { s3 with heap := s'.heap, toks := s'.toks } := I3.turnedL (t' := s'.toks) keep fun c hc => by
            have e' : c = s1.heap.objs.size + 4 ∨ c = s1.heap.objs.size + 3 ∨ c = s1.heap.objs.size ∨ c = s1.heap.objs.size + 1 := by simpa using hc
            have hle : s1.heap.objs.size ≤ c := (o4 e').1
            have hzl : s1.heap.objs.size + 4 < h'.objs.size := Heap.lt_size hz
            exact I1.fpOk hle (kn3 c (Nat.lt_of_le_of_lt (o4 e').2 hzl) (I1.hok.fresh hle))
          have bare : AllBare s'.gens := hmv.gens.bare fun y hy => by
            rcases Array.mem_push.mp hy with hy | rfl
            · exact I3.bare y hy
            · exact hgs
          have I5 : L2.Inv X pins σ H3 s' := ⟨I4.ok, hmv.os.trans I3.os, bare, I4.base, I4.loc, I4.cell, I4.free, I4.freeC, I4.pin, I4.hok, I4.len⟩
          refine ⟨.bl (fitsAll (namesOf kvs) e kds xs), H3, I5, ?_, q H3 kp3 hT3⟩
          show Value.bool _ = Value.bool _
          rw [List.length_range, fitsAll_range _ _ _ _ hlen]
end
end Wf

set_option Elab.async false
set_option maxRecDepth 100000
set_option linter.all false
set_option maxHeartbeats 8000000
namespace U
open PySem L2 TL Rl Tb
/-! ### names, numbers, rows as texts: mathematics -/
/-! parts, read -/
def formsD : List (Str × List Str) :=
  [("set", ["room", "number"]), ("add", ["room", "number", "number", "place"]), ("cas", ["room", "number", "number", "place"]), ("swap", ["room", "number", "number", "place"]),
   ("take", ["room", "place"]), ("if", ["room", "number", "place"]), ("load", ["room"]), ("wait", ["room", "number", "place", "place", "late"]), ("still", ["room", "place", "place", "late"]),
   ("wake", ["room", "count"]), ("move", ["room", "room", "count", "count"])]
def formOf (k : Str) : Option (List Str) := PyProof.Rows.KTD.datumAt k formsD
end U

set_option Elab.async false
set_option maxRecDepth 100000
set_option linter.all false
set_option maxHeartbeats 8000000
namespace U
open PySem L2 TL Rl Tb
/-- the module's forms -/
structure FF (K : PySem.W.Frag) (mg : Str → Option Value) : Prop where
  it : ∃ aF D, mg "FORMS" = some (.ref aF) ∧ TabK K aF D ∧ ∀ k, (formOf k = none ∧ valT D k = none) ∨ ∃ ks b, formOf k = some ks ∧ valT D k = some (.ref b) ∧ ∀ H, SqT K H b (ks.map V.str)
def strAt (K : PySem.W.Frag) (x v : Str) : Bool := match PySem.W.nsIn K mainGlobals x with
  | some (some (.str y _)) => y == v
  | _ => false
def strV : Value → Option Str
  | .str x _ => some x
  | _ => none
def strsV : List Value → Option (List Str)
  | [] => some []
  | v :: vs => match strV v, strsV vs with
    | some x, some xs => some (x :: xs)
    | _, _ => none
theorem strsV_ok : ∀ {vs : List Value} {xs : List Str}, strsV vs = some xs → Vals (xs.map V.str) vs
  | [], xs, h => by
    have : xs = [] := (Option.some.inj h).symm
    subst this; exact .nil
  | v :: vs, xs, h => by
    have h' : (match strV v, strsV vs with | some x, some xs => some (x :: xs) | _, _ => none) = some xs := h
    cases e1 : strV v with
    | none => rw [e1] at h'; cases h'
    | some x =>
      cases e2 : strsV vs with
      | none => rw [e1, e2] at h'; cases h'
      | some ys =>
        rw [e1, e2] at h'
        have : xs = x :: ys := (Option.some.inj h').symm
        subst this
        refine .cons ?_ (strsV_ok e2)
        cases v <;> first | (cases e1; exact ⟨_, rfl⟩) | cases e1
def tupStrs (K : PySem.W.Frag) (b : Addr) : Option (List Str) := match K.lookup b with
  | some o => match o.cls, o.data with
    | .type T, .seq its _ => if (T == "tuple" && decide (its.size ≤ 100)) = true then strsV its.toList else none
    | _, _ => none
  | none => none
theorem tupStrs_ok {K : PySem.W.Frag} {b : Addr} {ks : List Str} (h : tupStrs K b = some ks) (H : Hp) : SqT K H b (ks.map V.str) := by
  unfold tupStrs at h
  split at h
  · rename_i o e
    split at h
    · rename_i T its n ec ed
      split at h
      · rename_i hh
        rw [Bool.and_eq_true, beq_iff_eq, decide_eq_true_eq] at hh
        obtain ⟨rfl, hz⟩ := hh
        exact .inr ⟨o, its, n, e, ec, ed, by rw [sizeLine_eq]; omega, strsV_ok h⟩
      · cases h
    · cases h
  · cases h
def entV (e : DictEntry) : Option (Str × Addr) := match e.key, e.val with
  | .str x _, .ref b => some (x, b)
  | _, _ => none
def entsV : List DictEntry → Option (List (Str × Addr))
  | [] => some []
  | e :: es => match entV e, entsV es with
    | some x, some xs => some (x :: xs)
    | _, _ => none
theorem entsV_ok : ∀ {es : List DictEntry} {xs : List (Str × Addr)}, entsV es = some xs → PyProof.Rows.KTD.Rows (fun (d : V) v => RelV d v) es (xs.map fun p => (p.1, V.ref p.2))
  | [], xs, h => by
    have : xs = [] := (Option.some.inj h).symm
    subst this; exact .nil
  | e :: es, xs, h => by
    have h' : (match entV e, entsV es with | some x, some xs => some (x :: xs) | _, _ => none) = some xs := h
    cases e1 : entV e with
    | none => rw [e1] at h'; cases h'
    | some x =>
      cases e2 : entsV es with
      | none => rw [e1, e2] at h'; cases h'
      | some ys =>
        rw [e1, e2] at h'
        have : xs = x :: ys := (Option.some.inj h').symm
        subst this
        unfold entV at e1
        split at e1
        · rename_i k t b ek ev
          cases e1
          exact .cons ek (by rw [ev]; rfl) (entsV_ok e2)
        · cases e1
def tabStrs (K : PySem.W.Frag) (a : Addr) : Option (List (Str × Addr)) := match K.lookup a with
  | some ⟨.type T, none, .dict es _, sl⟩ => if (T == "dict" && sl.isEmpty && !(a == sysModules)) = true then entsV es.toList else none
  | _ => none
def formsOk (K : PySem.W.Frag) (a : Addr) : Bool := match tabStrs K a with
  | some l => decide (l.map (fun p => (p.1, tupStrs K p.2)) = formsD.map fun p => (p.1, some p.2))
  | none => false
theorem tab_pair {K : PySem.W.Frag} : ∀ {l : List (Str × Addr)} {D : List (Str × List Str)}, l.map (fun p => (p.1, tupStrs K p.2)) = D.map (fun p => (p.1, some p.2)) →
    ∀ k, (PyProof.Rows.KTD.datumAt k D = none ∧ valT (l.map fun p => (p.1, V.ref p.2)) k = none) ∨ ∃ ks b, PyProof.Rows.KTD.datumAt k D = some ks ∧ valT (l.map fun p => (p.1, V.ref p.2)) k = some (.ref b) ∧ tupStrs K b = some ks
  | [], [], _, _ => .inl ⟨rfl, rfl⟩
  | (x, b) :: l, (y, ks) :: D, h, k => by
    have h1 : (x, tupStrs K b) = (y, some ks) ∧ l.map (fun p => (p.1, tupStrs K p.2)) = D.map (fun p => (p.1, some p.2)) := by simpa using h
    obtain ⟨h0, ht⟩ := h1
    injection h0 with hx hb
    subst hx
    show ((if decide (k = x) = true then some ks else PyProof.Rows.KTD.datumAt k D) = none ∧ (if decide (k = x) = true then some (V.ref b) else valT (l.map fun p => (p.1, V.ref p.2)) k) = none) ∨ ∃ ks' b', (if decide (k = x) = true then some ks else PyProof.Rows.KTD.datumAt k D) = some ks' ∧ (if decide (k = x) = true then some (V.ref b) else valT (l.map fun p => (p.1, V.ref p.2)) k) = some (.ref b') ∧ tupStrs K b' = some ks'
    by_cases hk : k = x
    · rw [if_pos (decide_eq_true hk), if_pos (decide_eq_true hk)]
      exact .inr ⟨ks, b, rfl, rfl, hb⟩
    · rw [if_neg (by rw [decide_eq_false hk]; exact Bool.false_ne_true), if_neg (by rw [decide_eq_false hk]; exact Bool.false_ne_true)]
      exact tab_pair ht k
  | [], _ :: _, h, _ => by simp at h
  | _ :: _, [], h, _ => by simp at h
theorem formsOk_ok {K : PySem.W.Frag} {mg : Str → Option Value} {a : Addr} (hm : mg "FORMS" = some (.ref a)) (h : formsOk K a = true) : FF K mg := by
  unfold formsOk at h
  cases e : tabStrs K a with
  | none => rw [e] at h; cases h
  | some l =>
    rw [e] at h
    have hp := tab_pair (of_decide_eq_true h)
    refine ⟨a, l.map fun p => (p.1, V.ref p.2), hm, ?_, fun k => ?_⟩
    · unfold tabStrs at e
      split at e
      · rename_i T es ep sl el
        split at e
        · rename_i hh
          rw [Bool.and_eq_true, Bool.and_eq_true, beq_iff_eq, Bool.not_eq_true'] at hh
          obtain ⟨⟨rfl, hsl⟩, hs⟩ := hh
          exact ⟨hs, _, es, ep, el, ⟨rfl, rfl, by simpa using hsl⟩, rfl, entsV_ok e⟩
        · cases e
      · cases e
    · rcases hp k with ⟨a1, a2⟩ | ⟨ks, b, a1, a2, a3⟩
      · exact .inl ⟨a1, a2⟩
      · exact .inr ⟨ks, b, a1, a2, fun H => tupStrs_ok a3 H⟩
end U

set_option Elab.async false
set_option maxRecDepth 100000
set_option linter.all false
set_option maxHeartbeats 8000000
namespace Wo
open PySem L2 TL Rl Tb Wf
/-! ### row_fits -/
abbrev gRow : Pos := ⟨16, 15, 16, 96⟩
def LG (H : Hp) (P : Addr) : Prop := LamT H P gRow ("row_fits.<locals>." ++ "<genexpr>")
def Kp (P : Addr) (H H' : Hp) : Prop := ∀ b o, H b = some o → b ≠ P → H' b = some o
section
variable {nm : Str → Bool} {e x : Int} {r kd : Str}
theorem fp_room (h : nm r = true) : fitP nm e kd (.str r) = true := h
theorem fp_num : fitP nm e "number" (.int x) = true := by
  have h1 : (("number" : Str) == "place") = false := by decide +kernel
  have h2 : (("number" : Str) == "late") = false := by decide +kernel
  have h3 : (("number" : Str) == "count") = false := by decide +kernel
  simp only [fitP, h1, h2, h3, Bool.false_eq_true, if_false]
theorem fp_place (h : 0 ≤ x) (h2 : x ≤ e) : fitP nm e "place" (.int x) = true := by
  have h1 : (("place" : Str) == "place") = true := by decide +kernel
  simp only [fitP, h1, if_true, decide_eq_true h, decide_eq_true h2, Bool.and_self]
theorem fp_late (h : -1 ≤ x) (h2 : x ≤ e) : fitP nm e "late" (.int x) = true := by
  have h1 : (("late" : Str) == "place") = false := by decide +kernel
  have h3 : (("late" : Str) == "late") = true := by decide +kernel
  simp only [fitP, h1, h3, Bool.false_eq_true, if_false, if_true, decide_eq_true h, decide_eq_true h2, Bool.and_self]
theorem fp_count (h : 0 ≤ x) : fitP nm e "count" (.int x) = true := by
  have h1 : (("count" : Str) == "place") = false := by decide +kernel
  have h2 : (("count" : Str) == "late") = false := by decide +kernel
  have h3 : (("count" : Str) == "count") = true := by decide +kernel
  simp only [fitP, h1, h2, h3, Bool.false_eq_true, if_false, if_true, decide_eq_true h]
theorem ko_room : KindOk "room" (.str r) := .inl ⟨by decide +kernel, _, rfl⟩
theorem ko_num : KindOk "number" (.int x) := .inr ⟨by decide +kernel, _, rfl⟩
theorem ko_place : KindOk "place" (.int x) := .inr ⟨by decide +kernel, _, rfl⟩
theorem ko_late : KindOk "late" (.int x) := .inr ⟨by decide +kernel, _, rfl⟩
theorem ko_count : KindOk "count" (.int x) := .inr ⟨by decide +kernel, _, rfl⟩
end
theorem fits_cons {nm : Str → Bool} {e : Int} {kd : Str} {x : V} {kds : List Str} {xs : List V} (h : fitP nm e kd x = true) (t : fitsAll nm e kds xs = true) : fitsAll nm e (kd :: kds) (x :: xs) = true := by
  show (fitP nm e kd x && fitsAll nm e kds xs) = true
  rw [h, t]; rfl
def Rw.wd : Rw → Str
  | .set .. => "set"
  | .add .. => "add"
  | .cas .. => "cas"
  | .swap .. => "swap"
  | .take .. => "take"
  | .iff .. => "if"
  | .load .. => "load"
  | .wait .. => "wait"
  | .still .. => "still"
  | .wake .. => "wake"
  | .move .. => "move"
theorem Rw.v_hd (rw : Rw) : rw.v = .str rw.wd :: rw.v.tail := by cases rw <;> rfl
theorem Rw.v_len (rw : Rw) : 2 ≤ rw.v.length ∧ rw.v.length ≤ 6 := by cases rw <;> exact ⟨by simp [Rw.v], by simp [Rw.v]⟩
theorem fo_set : U.formOf "set" = (some ["room", "number"] : Option (List Str)) := by decide +kernel
theorem fo_add : U.formOf "add" = (some ["room", "number", "number", "place"] : Option (List Str)) := by decide +kernel
theorem fo_cas : U.formOf "cas" = (some ["room", "number", "number", "place"] : Option (List Str)) := by decide +kernel
theorem fo_swap : U.formOf "swap" = (some ["room", "number", "number", "place"] : Option (List Str)) := by decide +kernel
theorem fo_take : U.formOf "take" = (some ["room", "place"] : Option (List Str)) := by decide +kernel
theorem fo_if : U.formOf "if" = (some ["room", "number", "place"] : Option (List Str)) := by decide +kernel
theorem fo_load : U.formOf "load" = (some ["room"] : Option (List Str)) := by decide +kernel
theorem fo_wait : U.formOf "wait" = (some ["room", "number", "place", "place", "late"] : Option (List Str)) := by decide +kernel
theorem fo_still : U.formOf "still" = (some ["room", "place", "place", "late"] : Option (List Str)) := by decide +kernel
theorem fo_wake : U.formOf "wake" = (some ["room", "count"] : Option (List Str)) := by decide +kernel
theorem fo_move : U.formOf "move" = (some ["room", "room", "count", "count"] : Option (List Str)) := by decide +kernel
theorem Rw.fits {ss : List Str} {low e : Int} {nm : Str → Bool} (rw : Rw) (h : rw.ok ss low e) (l0 : 0 ≤ low) (hn : ∀ s ∈ ss, nm s = true) (e0 : 0 ≤ e) : ∃ kds, U.formOf rw.wd = some kds ∧ Paired KindOk kds rw.v.tail ∧ fitsAll nm e kds rw.v.tail = true := by
  have lt : ∀ {l : Int}, Pl low e l ∨ l = -1 → -1 ≤ l ∧ l ≤ e := fun {l} h => by
    rcases h with ⟨a, b⟩ | rfl
    · exact ⟨by omega, b⟩
    · exact ⟨by omega, by omega⟩
  cases rw with
  | set r x => exact ⟨["room", "number"], fo_set, .cons ko_room (.cons ko_num .nil), fits_cons (fp_room (hn _ h.1)) (fits_cons fp_num rfl)⟩
  | add r x y p => exact ⟨["room", "number", "number", "place"], fo_add, .cons ko_room (.cons ko_num (.cons ko_num (.cons ko_place .nil))), fits_cons (fp_room (hn _ h.1)) (fits_cons fp_num (fits_cons fp_num (fits_cons (fp_place (by have := h.2.2.2.1; omega) h.2.2.2.2) rfl)))⟩
  | cas r x y p => exact ⟨["room", "number", "number", "place"], fo_cas, .cons ko_room (.cons ko_num (.cons ko_num (.cons ko_place .nil))), fits_cons (fp_room (hn _ h.1)) (fits_cons fp_num (fits_cons fp_num (fits_cons (fp_place (by have := h.2.2.2.1; omega) h.2.2.2.2) rfl)))⟩
  | swap r x y p => exact ⟨["room", "number", "number", "place"], fo_swap, .cons ko_room (.cons ko_num (.cons ko_num (.cons ko_place .nil))), fits_cons (fp_room (hn _ h.1)) (fits_cons fp_num (fits_cons fp_num (fits_cons (fp_place (by have := h.2.2.2.1; omega) h.2.2.2.2) rfl)))⟩
  | take r p => exact ⟨["room", "place"], fo_take, .cons ko_room (.cons ko_place .nil), fits_cons (fp_room (hn _ h.1)) (fits_cons (fp_place (by have := h.2.1; omega) h.2.2) rfl)⟩
  | iff r x p => exact ⟨["room", "number", "place"], fo_if, .cons ko_room (.cons ko_num (.cons ko_place .nil)), fits_cons (fp_room (hn _ h.1)) (fits_cons fp_num (fits_cons (fp_place (by have := h.2.2.1; omega) h.2.2.2) rfl))⟩
  | load r => exact ⟨["room"], fo_load, .cons ko_room .nil, fits_cons (fp_room (hn _ h)) rfl⟩
  | wait r x p q l => exact ⟨["room", "number", "place", "place", "late"], fo_wait, .cons ko_room (.cons ko_num (.cons ko_place (.cons ko_place (.cons ko_late .nil)))), fits_cons (fp_room (hn _ h.1)) (fits_cons fp_num (fits_cons (fp_place (by have := h.2.2.1.1; omega) h.2.2.1.2) (fits_cons (fp_place (by have := h.2.2.2.1.1; omega) h.2.2.2.1.2) (fits_cons (fp_late (lt h.2.2.2.2).1 (lt h.2.2.2.2).2) rfl))))⟩
  | still r p q l => exact ⟨["room", "place", "place", "late"], fo_still, .cons ko_room (.cons ko_place (.cons ko_place (.cons ko_late .nil))), fits_cons (fp_room (hn _ h.1)) (fits_cons (fp_place (by have := h.2.1.1; omega) h.2.1.2) (fits_cons (fp_place (by have := h.2.2.1.1; omega) h.2.2.1.2) (fits_cons (fp_late (lt h.2.2.2).1 (lt h.2.2.2).2) rfl)))⟩
  | wake r c => exact ⟨["room", "count"], fo_wake, .cons ko_room (.cons ko_count .nil), fits_cons (fp_room (hn _ h.1)) (fits_cons (fp_count h.2.1) rfl)⟩
  | move r s c d => exact ⟨["room", "room", "count", "count"], fo_move, .cons ko_room (.cons ko_room (.cons ko_count (.cons ko_count .nil))), fits_cons (fp_room (hn _ h.1)) (fits_cons (fp_room (hn _ h.2.1)) (fits_cons (fp_count h.2.2.2.1) (fits_cons (fp_count h.2.2.2.2.2.1) rfl)))⟩
theorem cutV_take {xs : List V} {i : Nat} (h : i ≤ xs.length) : cutV xs none (some (i : Int)) = xs.take i := by
  unfold cutV
  rw [HT.sIx_nat]
  show List.take (min i xs.length - 0) (List.drop 0 xs) = _
  rw [List.drop_zero, Nat.sub_zero, Nat.min_eq_left h]
theorem cutV_drop {xs : List V} {i : Nat} (h : i ≤ xs.length) : cutV xs (some (i : Int)) none = xs.drop i := by
  unfold cutV
  rw [HT.sIx_nat]
  show List.take (xs.length - min i xs.length) (List.drop (min i xs.length) xs) = _
  rw [Nat.min_eq_left h]
  exact List.take_of_length_le (by rw [List.length_drop]; exact Nat.le_refl _)
theorem cut_tl (x : V) (xs : List V) : cutV (x :: xs) (some 1) none = xs := cutV_drop (xs := x :: xs) (i := 1) (by simp)
def spRowFits (Pg : Addr) : Sp := fun vs H Q _ => ∃ (a ds : Addr) (rw : Rw) (kvs : List (Key × V)) (ss : List Str) (low e : Int), vs = [.ref a, .ref ds, .int e] ∧ H a = some (.tup rw.v) ∧ H ds = some (.dK kvs) ∧ rw.ok ss low e ∧ 0 ≤ low ∧ 0 ≤ e ∧ (∀ s ∈ ss, namesOf kvs s = true) ∧ LG H Pg ∧
  ∀ H', Kp Pg H H' → LG H' Pg → Q (.bl true) H'
section
variable {P : Program} {w : World} {K : PySem.W.Frag} {mg : Str → Option Value} {base : Heap}
theorem scRowFits : FnScope ["row", "rooms", "end"] ["row", "rooms", "end"] (defScope sRowFits) := ⟨rfl, rfl, rfl, by decide +kernel, rfl, by decide +kernel, by decide +kernel⟩
theorem ok_rowFits {f c Pg fP : Addr} {oc dV kV doc pm ct kVP docP pmP cdvP ctP ocP : Value} {od an odP anP : Option Addr} {osl oslP : Array (Option Value)}
    (lk : K.lookup f = some ⟨oc, od, .func (PySem.W.fnOf "row_fits" "row_fits" (defArgs sRowFits) (defBody sRowFits) (defScope sRowFits) dV kV doc pm an (.ref c) ct), osl⟩) (hcd : PySem.W.codeIn K (.ref c) "row_fits" = true) (hC : PySem.W.codeHdIn K c Pg = true) (hbm : BM mg base) (G : Glb mg) (gz : mg "zip" = none)
    (lkP : K.lookup fP = some ⟨ocP, odP, .func (PySem.W.fnOf "part_fits" "part_fits" (defArgs sFits) (defBody sFits) (defScope sFits) .none kVP docP pmP anP cdvP ctP), oslP⟩) (hcdP : PySem.W.codeIn K cdvP "part_fits" = true) (kpP : PySem.W.keepIn K (.ref fP) = true) (mgP : mg "part_fits" = some (.ref fP)) (FF : U.FF K mg) :
    FnOk P w K mg base CX0 4 f (PySem.W.fnOf "row_fits" "row_fits" (defArgs sRowFits) (defBody sRowFits) (defScope sRowFits) dV kV doc pm an (.ref c) ct) ["row", "rooms", "end"] (spRowFits Pg) := by
  obtain ⟨aF, D, mF, hD, hF⟩ := FF.it
  refine okD lk hcd scRowFits (fun vs H Q E h => ?_) (fun A0 outer s H vs Q E hr h => ?_)
  · obtain ⟨a, ds, rw, kvs, ss, low, e, rfl, _⟩ := h
    rfl
  · obtain ⟨a, ds, rw, kvs, ss, low, e, rfl, ha, hds, hok, l0, e0, hn, hL, q⟩ := h
    have hr3 : Room 3 _ := hr
    obtain ⟨v2, v6⟩ := rw.v_len
    have hv := rw.v_hd
    refine ⟨_, (pss_cut (ps_if (PW.pt (pw_and (pt_cmpR op_eq (pe_ix ix_tup (pv 0) pe_int (fun _ _ => rfl)) pe_str (nomark _)) (pw_and1 (pt_cmpR op_eq (pe_ix ix_tup (pv 0) pe_int (fun _ _ => rfl)) (pe_ix ix_tup (pv 0) pe_int (fun _ _ => rfl)) (nomark _))))) (pss_one (ps_ret pe_bl)) pss_nil)
      (pss_one (ps_ret (pe_all_fit (c := c) (P := Pg) (f := fP) (iR := 1) (iE := 2) hr3 hbm rfl hC lkP hcdP kpP rfl rfl rfl rfl rfl rfl rfl rfl rfl rfl rfl (by decide +kernel) (by decide +kernel) (by decide +kernel) (by decide +kernel) (by decide +kernel) rfl (fun _ _ _ => rfl) (fun _ _ _ => rfl) (fun _ _ _ => rfl) (fun _ _ _ => rfl) (fun _ _ _ => rfl) (by rfl) G.all (by rfl) gz mgP (fun _ => rfl) (pa_cons (pe_tab (pe_glob (v := .ref aF) (u := .ref aF) (by rfl) mF rfl) (pe_ix ix_tup (pv 0) pe_int (fun _ _ => rfl)) (fun _ _ => rfl)) (pa_cons (pe_slice sl_tup (pv 0) (po_some pe_int) po_none) pa_nil)))))), ?_⟩
    obtain ⟨kds, hfo, hpr, hfit⟩ := rw.fits (nm := namesOf kvs) hok l0 hn e0
    refine ⟨fun σ' H' => σ' = [some (.ref a), some (.ref ds), some (.int e)] ∧ H' = H, ?_, ?_⟩
    · refine ⟨_, rfl, a, _, _, _, rfl, rfl, SqT.of ha, (by rw [hv]; exact atI_nat (j := 0) rfl), rfl, _, rfl, ?_⟩
      cases hc : decide (V.str rw.wd = V.str "move") with
      | false => exact iteF (iteF ⟨rfl, rfl⟩)
      | true =>
        have hm := vs_eq hc
        refine iteT ?_
        cases rw with
        | move r s c d =>
          refine ⟨_, rfl, a, _, _, _, rfl, rfl, SqT.of ha, atI_nat (j := 1) rfl, _, rfl, a, _, _, _, rfl, rfl, SqT.of ha, atI_nat (j := 2) rfl, rfl, _, rfl, ?_⟩
          exact iteF' (decide_eq_false fun z => hok.2.2.1 (by injection z)) ⟨rfl, rfl⟩
        | set => exact absurd (show ("set" : Str) = "move" from hm) (by decide +kernel)
        | add => exact absurd (show ("add" : Str) = "move" from hm) (by decide +kernel)
        | cas => exact absurd (show ("cas" : Str) = "move" from hm) (by decide +kernel)
        | swap => exact absurd (show ("swap" : Str) = "move" from hm) (by decide +kernel)
        | take => exact absurd (show ("take" : Str) = "move" from hm) (by decide +kernel)
        | iff => exact absurd (show ("if" : Str) = "move" from hm) (by decide +kernel)
        | load => exact absurd (show ("load" : Str) = "move" from hm) (by decide +kernel)
        | wait => exact absurd (show ("wait" : Str) = "move" from hm) (by decide +kernel)
        | still => exact absurd (show ("still" : Str) = "move" from hm) (by decide +kernel)
        | wake => exact absurd (show ("wake" : Str) = "move" from hm) (by decide +kernel)
    rintro _ H ⟨rfl, rfl⟩
    rcases hF rw.wd with ⟨hno, _⟩ | ⟨ks, b, hks, hvt, hsq⟩
    · rw [hno] at hfo; cases hfo
    · rw [hks] at hfo
      obtain rfl := Option.some.inj hfo
      refine ⟨_, rfl, a, _, _, _, rfl, rfl, SqT.of ha, (by rw [hv]; exact atI_nat (j := 0) rfl), _, _, D, _, rfl, rfl, hD, hvt, ?_⟩
      have htl : cutV rw.v (some 1) none = rw.v.tail := by rw [hv]; exact cut_tl _ _
      refine ⟨_, rfl, _, rfl, a, _, rfl, SqT.of ha, (fun z => by have := z.1; rw [show HT.sIx rw.v.length 0 (some (1 : Int)) = min 1 rw.v.length from HT.sIx_nat ..] at this; omega), fun t ht => ?_⟩
      rw [htl]
      have st := sameNew (o := .tup rw.v.tail) ht
      refine ⟨b, t, ks, rw.v.tail, ds, kvs, e, rfl, hsq _, SqT.of upd_same, hpr, rfl, .inl (st _ _ hds), rfl, ?_, fun H' k hL' => ?_⟩
      · exact hL.keep fun b o e _ => st b o e
      · rw [hfit]
        exact q H' (fun b o e nb => k b o (st b o e) nb) hL'
end
end Wo

set_option Elab.async false
set_option maxRecDepth 100000
set_option linter.all false
set_option maxHeartbeats 4000000
namespace Dc
open PySem PySem.Spec PyProof.Rows L2
/-! ### {k: v for .. in ..} -/
theorem dcLoop_any {prog : Program} {w : World} {A : Around} {R : Result → Shared → Prop} {s : Shared} {kx vx target iter : Expr} {ifs : List Expr} {scope : Scope} {pos : Pos} {it : Value} {acc : Addr} {env : Env} (I : Nat → Shared → Prop)
    (turn : ∀ n s, I n s → wpAny (model prog w) A (pyNext it) (fun r s₁ => match r with
      | none => R (.ok .next) s₁
      | some v => wpAny (model prog w) A (letOwnedTupleGo target it v) (fun _ s₁' => wpAny (model prog w) A (assign target env v) (fun _ s₂ =>
          wpAny (model prog w) A (forIn ifs true fun c r => if r = true then do let ok ← isTrue c env (eval c env); pure (ForInStep.yield ok) else pure (ForInStep.yield r)) (fun ok s₃ =>
            if ok = true then wpAny (model prog w) A (eval kx env) (fun kv s₄ => wpAny (model prog w) A (eval vx env) (fun x s₅ =>
              wpAny (model prog w) A (dictSet acc kv x) (fun _ s₆ => ∃ m, m < n ∧ I m s₆) (notedBy (model prog w) A env fun e s' => R (.error e) s') s₅) (notedBy (model prog w) A env fun e s' => R (.error e) s') s₄) (notedBy (model prog w) A env fun e s' => R (.error e) s') s₃
            else ∃ m, m < n ∧ I m s₃) (notedBy (model prog w) A env fun e s' => R (.error e) s') s₂) (notedBy (model prog w) A env fun e s' => R (.error e) s') s₁') (notedBy (model prog w) A env fun e s' => R (.error e) s') s₁) (notedBy (model prog w) A env fun e s' => R (.error e) s') s)
    (n : Nat) (h : I n s) :
    codeAny (model prog w) A (.compLoop (.DictComp kx vx [⟨target, iter, ifs, 0⟩] scope pos) 0 it (.ref acc) env) R s := by
  refine codeAny_loop rfl I (fun n s hI => ?_) n h
  show wpAny _ A ((compTurn (.DictComp kx vx [⟨target, iter, ifs, 0⟩] scope pos) 0 it (.ref acc) env).onRaise (fun x => do noteFrame x env; theTreesLotGoes x)) _ _ s
  refine wpAny_noted ?_
  rw [compTurn_dict]
  refine wpAny_bind (wpAny_standAt (wpAny_bind (wpAny_mono (turn n s hI) (fun r s₁ h₁ => ?_) fun _ _ h' => h')))
  cases r with
  | none => exact wpAny_pure h₁
  | some v =>
    refine wpAny_bind (wpAny_mono h₁ (fun _ s₁' h₁' => ?_) fun _ _ h' => h')
    refine wpAny_bind (wpAny_mono h₁' (fun _ s₂ h₂ => wpAny_bind (wpAny_mono h₂ (fun ok s₃ h₃ => ?_) fun _ _ h' => h')) fun _ _ h' => h')
    cases ok with
    | false => exact wpAny_pure ⟨rfl, h₃⟩
    | true =>
      refine wpAny_bind (wpAny_bind (wpAny_mono h₃ (fun kv s₄ h₄ => ?_) fun _ _ h' => h'))
      refine wpAny_bind (wpAny_holding (wpAny_mono h₄ (fun vv s₅ h₅ => ?_) fun _ _ h' => h'))
      exact wpAny_bind (wpAny_standAt (wpAny_holding (wpAny_mono h₅ (fun _ s₆ h₆ => wpAny_pure ⟨rfl, h₆⟩) fun _ _ h' => h')))

section
variable {X : Cx} {pins : List (Addr × Obj)} {σ : L2.St} {H : Hp} {s : Shared}
def tDc (wi : TI) (g : TG) (tt : TT) (tk tv : TE) (vs : List Nat) : TE := fun σ H Q => wi σ H fun J H1 => ∀ D, H1 D = none → ∃ W : Nat → Nat → Hp → Prop, (∃ m, W 0 m (upd H1 D (.dK []))) ∧ ∀ i m H, W i m H →
  (J.stop i H ∧ Q (.ref D) H) ∨ (J.go i H ∧ ∃ Nx : Hp → Prop, (∀ H', Nx H' → ∃ m', m' < m ∧ W (i + 1) m' H') ∧ ∀ x H', J.yld i H x H' → g x (wipe σ vs) H' fun σ2 H2 => wipe σ2 vs = wipe σ vs ∧ tt σ2 H2 fun b H3 =>
    if b = true then tk σ2 H3 fun y H4 => tv σ2 H4 fun z H5 => ∃ (kvs : List (Key × V)) (k : Key), y = kV k ∧ H5 D = some (.dK kvs) ∧ kvs.length < sizeLine ∧ Nx (upd H5 D (.dK (putK kvs k z))) else Nx H3)
theorem dput_ok {A : Around} {E : Value → Shared → Prop} {D : Addr} {kvs : List (Key × V)} {k : Key} {z : V} {u v : Value} {Q : Unit → Shared → Prop} (I : Inv X pins σ H s) (hD : H D = some (.dK kvs)) (hz : kvs.length < sizeLine) (rk : RelV (kV k) u) (rv : RelV z v)
    (h : ∀ s', Inv X pins σ (upd H D (.dK (putK kvs k z))) s' → Q () s') : wpAny (model X.prog X.w) A (dictSet D u v) Q E s := by
  obtain ⟨z0, hd, vs, rel, dd⟩ := dk_of I.hok hD
  have hz' : vs.length ≤ sizeLine := by rw [← rel.length]; exact z0
  have hl : (putK kvs k z).length ≤ sizeLine := by have := length_putK kvs k z; omega
  refine wpAny_dictSet_pairs (hsz := hz') (kV_is rk) dd fun h' dd' hs => ?_
  have he : ∃ q, h'.get? D = some q := let ⟨q, _, _, hq, _⟩ := dd'; ⟨q, hq⟩
  exact h _ (d_write I (by rw [hD]; exact True.intro) hs he (dk_new hl hd (rel.put k rv) dd'))
theorem dc_core {pins : List (Addr × Obj)} {s : Shared} {σ : L2.St} {H : Hp} {Q : VK} {kx vx tg iter : Expr} {ifs : List Expr} {scope : Scope} {own : List (Str × Nat)} {pos pos' : Pos} {wi : TI} {g : TG} {tt : TT} {tk tv : TE} {use : Option (Value → Sem Unit)} {Qf : Value → Shared → Prop}
    (hc : X.calm = true) (hN : X.N.Nodup) (I : Inv X pins σ H s) (hi : PI X tg iter wi) (ok : BlkOk X.N X.env.scope scope own)
    (hg : ∀ (s : Shared) (H : Hp) (C : Addr) (cl : List (Str × Addr)) (fp : List Addr), PG (X.blk s H scope (compEnvC scope cl C X.env) fp) tg g) (ht : ∀ (s : Shared) (H : Hp) (C : Addr) (cl : List (Str × Addr)) (fp : List Addr), PTs (X.blk s H scope (compEnvC scope cl C X.env) fp) ifs tt)
    (he : ∀ (s : Shared) (H : Hp) (C : Addr) (cl : List (Str × Addr)) (fp : List Addr), PE (X.blk s H scope (compEnvC scope cl C X.env) fp) kx tk) (hv : ∀ (s : Shared) (H : Hp) (C : Addr) (cl : List (Str × Addr)) (fp : List Addr), PE (X.blk s H scope (compEnvC scope cl C X.env) fp) vx tv) (hs : ∀ x, foldedSetIterable iter X.env x = pure x)
    (h : tDc wi g tt tk tv (own.map (·.2)) σ H Q)
    (hRR : ∀ D C s' m H', Inv X pins σ H' s' → Q (.ref D) H' → s'.heap.Ns C m → FpOk X pins H' C → compPost (model X.prog X.w) X.A X.xe use Qf (.ref D) C (.ok .next) s') :
    wpAny (model X.prog X.w) X.A (comprehension (.DictComp kx vx [⟨tg, iter, ifs, 0⟩] scope pos) scope X.env pos' newDict false (eval iter X.env) use) Qf X.xe s := by
  have hfree : ∀ y ∈ scope.names, y.2 = .free → ∃ c, X.env.cells.lookup y.1 = some c := fun y hy e => by
    rcases ok.free y hy e with k | k
    · exact I.ok.has _ (.inl k)
    · exact I.ok.has _ (.inr k)
  refine wpAny_comprehension_free (use := use) rfl hs (closure_ok hfree) ok.kind (fun y hy e => by rw [ok.uniq y hy, e])
    (thn (hi pins s σ H _ I h) fun xv s1 hx => thn hx fun itv s2 h2 => ?_)
  obtain ⟨it, fp, tn, J, H2, e, I2, T, st2, f2, q⟩ := h2
  subst e
  refine wpAny_newObj_type (newEnv_comp ?_)
  generalize hD : s2.heap.objs.size = D
  have hDn : H2 D = none := I2.hok.fresh (Nat.le_of_eq hD)
  obtain ⟨W, ⟨m0, w0⟩, turn⟩ := q D hDn
  -- the new list
  generalize hs3 : ({ s2 with heap := s2.heap.push { cls := .type "dict", data := .dict #[] } } : Shared) = s3
  have I3 : Inv X pins σ (upd H2 D (.dK [])) s3 := by
    rw [← hs3]
    refine I2.laid (t' := s2.toks) (fun b o e => Heap.get?_push_of_some _ e) (Nat.le_of_eq hD) ?_
    rw [← hD]
    exact dk_empty s2.heap I2.big
  have h3 : s3.heap = s2.heap.push { cls := .type "dict", data := .dict #[] } := by rw [← hs3]
  have sz : ∀ b ∈ fp, b < s2.heap.objs.size := fun b hb => by
    obtain ⟨o, e, _⟩ := T.obj _ _ st2 b hb
    exact Heap.lt_size e
  have f3 : ∀ b ∈ fp, FpOk X pins (upd H2 D (.dK [])) b ∧ b < s3.heap.objs.size := fun b hb => by
    have hlt := sz b hb
    refine ⟨⟨?_, (f2 b hb).2⟩, by rw [h3, Heap.size_push]; exact Nat.lt_succ_of_lt hlt⟩
    rw [upd_ne (by rw [← hD]; exact Nat.ne_of_lt hlt)]
    exact (f2 b hb).1
  have st3 : tn 0 s3.heap := T.keep _ _ _ st2 fun b _ o e => by rw [h3]; exact Heap.get?_push_of_some _ e
  have I4 := block_start I3 ok hN f3
  have pg := hg s3 (upd H2 D (.dK [])) s3.heap.objs.size (cellsFrom (s3.heap.objs.size + 1) scope.names (cloFrom X.env.cells scope.names [])) fp
  have pt := ht s3 (upd H2 D (.dK [])) s3.heap.objs.size (cellsFrom (s3.heap.objs.size + 1) scope.names (cloFrom X.env.cells scope.names [])) fp
  have pe := he s3 (upd H2 D (.dK [])) s3.heap.objs.size (cellsFrom (s3.heap.objs.size + 1) scope.names (cloFrom X.env.cells scope.names [])) fp
  have pv := hv s3 (upd H2 D (.dK [])) s3.heap.objs.size (cellsFrom (s3.heap.objs.size + 1) scope.names (cloFrom X.env.cells scope.names [])) fp
  show codeAny _ _ (.compStart (.DictComp kx vx [⟨tg, iter, ifs, 0⟩] scope pos) 0 (.ref it) (.ref D) (compEnvC scope (cellsFrom (s3.heap.objs.size + 1) scope.names (cloFrom X.env.cells scope.names [])) s3.heap.objs.size X.env)) (compPost (model X.prog X.w) X.A X.xe use Qf (.ref D) s3.heap.objs.size) { s3 with heap := pushCells (s3.heap.push { cls := .type "dict", data := .dict #[] }) scope.names }
  have nfp : ∀ b ∈ fp, (upd H2 D (.dK [])) b = none := fun b hb => (f3 b hb).1.1
  generalize hce : compEnvC scope (cellsFrom (s3.heap.objs.size + 1) scope.names (cloFrom X.env.cells scope.names [])) s3.heap.objs.size X.env = ce at I4 pg pt pe pv ⊢
  have cL : ce.locals = s3.heap.objs.size := by subst hce; rfl
  generalize hH3 : upd H2 D (.dK []) = H3 at I3 I4 pg pt pe pv w0 nfp f3
  generalize hs4 : ({ s3 with heap := pushCells (s3.heap.push { cls := .type "dict", data := .dict #[] }) scope.names } : Shared) = s4 at I4 ⊢
  have st4 : tn 0 s4.heap := T.keep _ _ _ st3 fun b _ o e => by rw [← hs4]; exact pushCells_keeps _ _ _ _ (Heap.get?_push_of_some _ e)
  have stat : ∀ {σ' : L2.St} {H' : Hp} {s' : Shared}, Inv (X.blk s3 H3 scope ce fp) [] σ' H' s' → (∀ b ∈ fp, H' b = none) → ∀ b ∈ fp, FpOk (X.blk s3 H3 scope ce fp) [] H' b := fun {σ' H' s'} I' hn b hb =>
    ⟨hn b hb, (I'.ok.exf b hb).1, I'.ok.exfs b hb, .inl hb, fun x c e => (I'.ok.exf b hb).2 x c e, fun p hp => absurd (show p ∈ ([] : List (Addr × Obj)) ++ [] from hp) (by simp)⟩
  have loop : codeAny (model X.prog X.w) X.A (.compLoop (.DictComp kx vx [⟨tg, iter, ifs, 0⟩] scope pos) 0 (.ref it) (.ref D) ce) (compPost (model X.prog X.w) X.A X.xe use Qf (.ref D) s3.heap.objs.size) s4 := by
    refine dcLoop_any (fun n s' => ∃ i H', Inv (X.blk s3 H3 scope ce fp) [] (wipe σ (own.map (·.2))) H' s' ∧ tn i s'.heap ∧ (∀ b ∈ fp, H' b = none) ∧ W i n H') ?_ m0 ⟨0, H3, I4, st4, nfp, w0⟩
    rintro n s5 ⟨i, H5, I5, st5, n5, w5⟩
    rcases turn i n H5 w5 with ⟨stop, qq⟩ | ⟨go, Nx, hNx, step⟩
    · have td := T.done (X.blk s3 H3 scope ce fp) rfl rfl rfl hc i [] s5 _ H5 (fun _ _ => False) I5 (stat I5 n5) st5 stop
      refine thnF td fun r s6 ⟨hr, I6⟩ => ?_
      subst hr
      -- back in the def's context
      have I7 : Inv X pins σ H5 s6 := I3.call' (ch := fp) I6.os I6.base I6.hok I6.bare fun b hb => ⟨(f3 b hb).1.2.2.2.1, (f3 b hb).1.2.1, (f3 b hb).1.2.2.2.2.1, (f3 b hb).1.2.2.2.2.2⟩
      have nC : H5 s3.heap.objs.size = none := by
        have z : H5 ce.locals = none := I6.free
        rw [cL] at z
        exact z
      obtain ⟨m, hn, _⟩ := I6.loc
      have hn : s6.heap.Ns ce.locals m := hn
      rw [cL] at hn
      exact hRR D s3.heap.objs.size s6 m H5 I7 qq hn (I3.fpOk (Nat.le_refl _) nC)
    · have ti := T.item (X.blk s3 H3 scope ce fp) rfl rfl rfl hc i [] s5 _ H5 (fun _ _ => False) I5 (stat I5 n5) st5 go
      refine thnF ti fun r s6 ⟨u, hr, h6⟩ => ?_
      subst hr
      refine thnF h6 fun _ s7 ⟨x, H7, I7, r7, y7, st7, n7⟩ => ?_
      have I7' := I7.pinned (stat I7 n7) (T.obj _ _ st7)
      refine thnF (pg _ s7 _ H7 x u _ I7' r7 (step x H7 y7)) fun _ s8 ⟨σ8, H8, I8, hw8, q8⟩ => ?_
      refine thnF (pt _ s8 σ8 H8 _ I8 q8) fun b s9 ⟨H9, I9, q9⟩ => ?_
      -- the turn's end
      have fin : ∀ {s' : Shared} {H' : Hp}, Inv (X.blk s3 H3 scope ce fp) ([] ++ pinsAt fp s7.heap) σ8 H' s' → Nx H' → ∃ m, m < n ∧ ∃ i H', Inv (X.blk s3 H3 scope ce fp) [] (wipe σ (own.map (·.2))) H' s' ∧ tn i s'.heap ∧ (∀ b ∈ fp, H' b = none) ∧ W i m H' := fun {s' H'} I' nx => by
        obtain ⟨m', hm, w'⟩ := hNx H' nx
        have pin' : ∀ b ∈ fp, ∀ o, s7.heap.get? b = some o → s'.heap.get? b = some o ∧ H' b = none := fun b hb o e =>
          let z := I'.pin (b, o) (List.mem_append_right _ (List.mem_append_right _ (mem_pinsAt hb e)))
          ⟨z.1, z.2.1⟩
        have hl : (wipe σ (own.map (·.2))).length = σ8.length := by rw [← hw8, wipe_length]
        refine ⟨m', hm, i + 1, H', (I'.unpinned (pins := [])).weak hl (fun j v e => ?_), T.keep _ _ _ st7 fun b hb o e => (pin' b hb o e).1, fun b hb => ?_, w'⟩
        · rw [← hw8] at e
          exact (wipe_some e).1
        · obtain ⟨o, e, _⟩ := T.obj _ _ st7 b hb
          exact (pin' b hb o e).2
      cases b with
      | false =>
        simp only [Bool.false_eq_true, if_false] at q9 ⊢
        exact fin I9 q9
      | true =>
        simp only [if_true] at q9 ⊢
        refine thnF (pe _ s9 σ8 H9 _ I9 q9) fun z s10 ⟨yk, H10, I10, r10, q10⟩ => ?_
        refine thnF (pv _ s10 σ8 H10 _ I10 q10) fun z2 s11 ⟨yv, H11, I11, r11, kvs, ky, ek, hD11, hz11, nx⟩ => ?_
        subst ek
        exact dput_ok (X := X.blk s3 H3 scope ce fp) I11 hD11 hz11 r10 r11 fun s12 I12 => fin I12 nx
  exact codeAny_compStart_dict loop (T.self X.A 0 _ _ _ st4 loop)
theorem pe_dc {kx vx tg iter : Expr} {ifs : List Expr} {scope : Scope} {own : List (Str × Nat)} {pos : Pos} {wi : TI} {g : TG} {tt : TT} {tk tv : TE} (hc : X.calm = true) (hN : X.N.Nodup) (hi : PI X tg iter wi) (ok : BlkOk X.N X.env.scope scope own)
    (hg : ∀ (s : Shared) (H : Hp) (C : Addr) (cl : List (Str × Addr)) (fp : List Addr), PG (X.blk s H scope (compEnvC scope cl C X.env) fp) tg g) (ht : ∀ (s : Shared) (H : Hp) (C : Addr) (cl : List (Str × Addr)) (fp : List Addr), PTs (X.blk s H scope (compEnvC scope cl C X.env) fp) ifs tt)
    (he : ∀ (s : Shared) (H : Hp) (C : Addr) (cl : List (Str × Addr)) (fp : List Addr), PE (X.blk s H scope (compEnvC scope cl C X.env) fp) kx tk) (hv : ∀ (s : Shared) (H : Hp) (C : Addr) (cl : List (Str × Addr)) (fp : List Addr), PE (X.blk s H scope (compEnvC scope cl C X.env) fp) vx tv) (hs : ∀ x, foldedSetIterable iter X.env x = pure x := by intro _; rfl) :
    PE X (.DictComp kx vx [⟨tg, iter, ifs, 0⟩] scope pos) (tDc wi g tt tk tv (own.map (·.2))) := by
  intro pins s σ H Q I h
  rw [arm_eval_DictComp]
  refine dc_core hc hN I hi ok hg ht he hv hs h fun D C s' m H' I' q hn f => ⟨m, hn, fun h'' sb => ?_⟩
  obtain ⟨f0, f1, f2, f3, f4, f5⟩ := f
  exact ⟨.ref D, H', I'.turned (t' := s'.toks) (fun b o hb e => (sb.2 b hb).trans e) f0 f1 f3 f4 f5, rfl, q⟩
end
end Dc

set_option Elab.async false
set_option maxRecDepth 100000
set_option linter.all false
set_option maxHeartbeats 4000000
namespace Tb
open PySem PySem.Spec PyProof.Rows L2
/-- a comprehension over enumerate(xs) -/
theorem lc_enum {K : PySem.W.Frag} {a : Addr} {xs : List V} {g : TG} {tt : TT} {te : TE} {vs : List Nat} {σ : L2.St} {H1 : Hp} {D : Addr} {Qd : Hp → Prop} (Pv : Nat → Hp → Prop) (h0 : Pv 0 (upd H1 D (.lst []))) (hl : ∀ i H, i ≤ xs.length → Pv i H → SqL K H a xs)
    (hs : ∀ i x H T, xs[i]? = some x → Pv i H → H T = none → g (.ref T) (wipe σ vs) (upd H T (.tup [.int (i : Nat), x])) fun σ2 H2 => wipe σ2 vs = wipe σ vs ∧ tt σ2 H2 fun b H3 =>
      if b = true then te σ2 H3 fun y H4 => ∃ acc, H4 D = some (.lst acc) ∧ acc.length < sizeLine ∧ Pv (i + 1) (upd H4 D (.lst (acc ++ [y]))) else Pv (i + 1) H3) (hd : ∀ H, Pv xs.length H → Qd H) :
    ∃ W : Nat → Nat → Hp → Prop, (∃ m, W 0 m (upd H1 D (.lst []))) ∧ ∀ i m H, W i m H →
      ((Ite K a).stop i H ∧ Qd H) ∨ ((Ite K a).go i H ∧ ∃ Nx : Hp → Prop, (∀ H', Nx H' → ∃ m', m' < m ∧ W (i + 1) m' H') ∧ ∀ x H', (Ite K a).yld i H x H' → g x (wipe σ vs) H' fun σ2 H2 => wipe σ2 vs = wipe σ vs ∧ tt σ2 H2 fun b H3 =>
        if b = true then te σ2 H3 fun y H4 => ∃ acc, H4 D = some (.lst acc) ∧ acc.length < sizeLine ∧ Nx (upd H4 D (.lst (acc ++ [y]))) else Nx H3) := by
  refine ⟨fun i m H => m = xs.length - i ∧ i ≤ xs.length ∧ Pv i H, ⟨xs.length, by simp, Nat.zero_le _, h0⟩, ?_⟩
  rintro i m H ⟨rfl, hi, p⟩
  have q := hl i H hi p
  by_cases hlt : i < xs.length
  · refine .inr ⟨⟨xs, xs[i], q, by simp [hlt]⟩, Pv (i + 1), fun H' p' => ⟨xs.length - (i + 1), by omega, rfl, hlt, p'⟩, fun x H' y => ?_⟩
    obtain ⟨T, x, ex, hT, e, y⟩ := y
    subst e ex
    exact hs i x H T (y xs q) p hT
  · have e : i = xs.length := by omega
    subst e
    exact .inl ⟨⟨xs, q, Nat.le_refl _⟩, hd H p⟩
/-- for i, x in enumerate(xs) -/
theorem for_enum {K : PySem.W.Frag} {a : Addr} {xs : List V} {g : TG} {tb : TS} {D : Ends} {σ : L2.St} {H : Hp} (Pv : Nat → L2.St → Hp → Prop) (h0 : Pv 0 σ H) (hl : ∀ i σ H, i ≤ xs.length → Pv i σ H → SqL K H a xs)
    (hs : ∀ i x σ H T, xs[i]? = some x → Pv i σ H → H T = none → g (.ref T) σ (upd H T (.tup [.int (i : Nat), x])) fun σ2 H2 => tb { D with nx := Pv (i + 1), ct := Pv (i + 1), bk := D.nx } σ2 H2) (hd : ∀ σ H, Pv xs.length σ H → D.nx σ H) :
    ∃ W : Nat → Nat → L2.St → Hp → Prop, (∃ m, W 0 m σ H) ∧ ∀ i m σ H, W i m σ H →
      ((Ite K a).stop i H ∧ D.nx σ H) ∨ ((Ite K a).go i H ∧ ∃ N : L2.St → Hp → Prop, (∀ σ' H', N σ' H' → ∃ m', m' < m ∧ W (i + 1) m' σ' H') ∧ ∀ x H', (Ite K a).yld i H x H' → g x σ H' fun σ2 H2 => tb { D with nx := N, ct := N, bk := D.nx } σ2 H2) := by
  refine ⟨fun i m σ H => m = xs.length - i ∧ i ≤ xs.length ∧ Pv i σ H, ⟨xs.length, by simp, Nat.zero_le _, h0⟩, ?_⟩
  rintro i m σ H ⟨rfl, hi, p⟩
  have q := hl i σ H hi p
  by_cases hlt : i < xs.length
  · refine .inr ⟨⟨xs, xs[i], q, by simp [hlt]⟩, Pv (i + 1), fun σ' H' p' => ⟨xs.length - (i + 1), by omega, rfl, hlt, p'⟩, fun x H' y => ?_⟩
    obtain ⟨T, x, ex, hT, e, y⟩ := y
    subst e ex
    exact hs i x σ H T (y xs q) p hT
  · have e : i = xs.length := by omega
    subst e
    exact .inl ⟨⟨xs, q, Nat.le_refl _⟩, hd σ H p⟩
/-- {k: v for i, x in enumerate(xs)} -/
theorem dc_enum {K : PySem.W.Frag} {a : Addr} {xs : List V} {g : TG} {tt : TT} {tk tv : TE} {vs : List Nat} {σ : L2.St} {H1 : Hp} {D : Addr} {Qd : Hp → Prop} (Pv : Nat → Hp → Prop) (h0 : Pv 0 (upd H1 D (.dK []))) (hl : ∀ i H, i ≤ xs.length → Pv i H → SqL K H a xs)
    (hs : ∀ i x H T, xs[i]? = some x → Pv i H → H T = none → g (.ref T) (wipe σ vs) (upd H T (.tup [.int (i : Nat), x])) fun σ2 H2 => wipe σ2 vs = wipe σ vs ∧ tt σ2 H2 fun b H3 =>
      if b = true then tk σ2 H3 fun y H4 => tv σ2 H4 fun z H5 => ∃ (kvs : List (Key × V)) (k : Key), y = kV k ∧ H5 D = some (.dK kvs) ∧ kvs.length < sizeLine ∧ Pv (i + 1) (upd H5 D (.dK (putK kvs k z))) else Pv (i + 1) H3) (hd : ∀ H, Pv xs.length H → Qd H) :
    ∃ W : Nat → Nat → Hp → Prop, (∃ m, W 0 m (upd H1 D (.dK []))) ∧ ∀ i m H, W i m H →
      ((Ite K a).stop i H ∧ Qd H) ∨ ((Ite K a).go i H ∧ ∃ Nx : Hp → Prop, (∀ H', Nx H' → ∃ m', m' < m ∧ W (i + 1) m' H') ∧ ∀ x H', (Ite K a).yld i H x H' → g x (wipe σ vs) H' fun σ2 H2 => wipe σ2 vs = wipe σ vs ∧ tt σ2 H2 fun b H3 =>
        if b = true then tk σ2 H3 fun y H4 => tv σ2 H4 fun z H5 => ∃ (kvs : List (Key × V)) (k : Key), y = kV k ∧ H5 D = some (.dK kvs) ∧ kvs.length < sizeLine ∧ Nx (upd H5 D (.dK (putK kvs k z))) else Nx H3) := by
  refine ⟨fun i m H => m = xs.length - i ∧ i ≤ xs.length ∧ Pv i H, ⟨xs.length, by simp, Nat.zero_le _, h0⟩, ?_⟩
  rintro i m H ⟨rfl, hi, p⟩
  have q := hl i H hi p
  by_cases hlt : i < xs.length
  · refine .inr ⟨⟨xs, xs[i], q, by simp [hlt]⟩, Pv (i + 1), fun H' p' => ⟨xs.length - (i + 1), by omega, rfl, hlt, p'⟩, fun x H' y => ?_⟩
    obtain ⟨T, x, ex, hT, e, y⟩ := y
    subst e ex
    exact hs i x H T (y xs q) p hT
  · have e : i = xs.length := by omega
    subst e
    exact .inl ⟨⟨xs, q, Nat.le_refl _⟩, hd H p⟩
/-- [e for y in t for x in y], t a tuple that stands, y one of its tuples -/
theorem lc2_tup {K : PySem.W.Frag} {a : Addr} {xs : List V} {g g1 : TG} {te : TE} {iter1 : TI} {vs vs1 : List Nat} {σ : L2.St} {H1 : Hp} {D : Addr} {Qd : Hp → Prop} (Pv : Nat → Hp → Prop) (Pw : Nat → Nat → Hp → Prop) (ys : Nat → List V) (bs : Nat → Addr) (h0 : Pv 0 (upd H1 D (.lst [])))
    (hl : ∀ i H, i ≤ xs.length → Pv i H → SqT K H a xs) (hl1 : ∀ i j H, i < xs.length → j ≤ (ys i).length → Pw i j H → SqT K H (bs i) (ys i))
    (hs : ∀ i x H, xs[i]? = some x → Pv i H → g x (wipe σ vs) H fun σ2 H2 => wipe σ2 vs = wipe σ vs ∧ iter1 σ2 H2 fun J1 H4 => J1 = Itt K (bs i) ∧ Pw i 0 H4 ∧ ∀ j y H, (ys i)[j]? = some y → Pw i j H → g1 y (wipe σ2 vs1) H fun σ3 H5 => wipe σ3 vs1 = wipe σ2 vs1 ∧
      te σ3 H5 fun y H7 => ∃ acc, H7 D = some (.lst acc) ∧ acc.length < sizeLine ∧ Pw i (j + 1) (upd H7 D (.lst (acc ++ [y]))))
    (he : ∀ i H, i < xs.length → Pw i (ys i).length H → Pv (i + 1) H) (hd : ∀ H, Pv xs.length H → Qd H) (mono : ∀ (σ : L2.St) (H : Hp) (R R' : It → Hp → Prop), iter1 σ H R → (∀ J H, R J H → R' J H) → iter1 σ H R')
    (monog : ∀ (x : V) (σ : L2.St) (H : Hp) (R R' : L2.St → Hp → Prop), g x σ H R → (∀ σ H, R σ H → R' σ H) → g x σ H R') :
    ∃ W : Nat → Nat → Hp → Prop, (∃ m, W 0 m (upd H1 D (.lst []))) ∧ ∀ i m H, W i m H →
      ((Itt K a).stop i H ∧ Qd H) ∨ ((Itt K a).go i H ∧ ∃ Nx : Hp → Prop, (∀ H', Nx H' → ∃ m', m' < m ∧ W (i + 1) m' H') ∧ ∀ x H', (Itt K a).yld i H x H' → g x (wipe σ vs) H' fun σ2 H2 => wipe σ2 vs = wipe σ vs ∧ tYes σ2 H2 fun b H3 =>
        if b = true then iter1 σ2 H3 fun J1 H4 => ∃ W1 : Nat → Nat → Hp → Prop, (∃ m, W1 0 m H4) ∧ ∀ j k H, W1 j k H →
          ((J1.stop j H ∧ Nx H) ∨ (J1.go j H ∧ ∃ Nx1 : Hp → Prop, (∀ H', Nx1 H' → ∃ k', k' < k ∧ W1 (j + 1) k' H') ∧ ∀ x H', J1.yld j H x H' → g1 x (wipe σ2 vs1) H' fun σ3 H5 => wipe σ3 vs1 = wipe σ2 vs1 ∧ tYes σ3 H5 fun b H6 =>
            if b = true then te σ3 H6 fun y H7 => ∃ acc, H7 D = some (.lst acc) ∧ acc.length < sizeLine ∧ Nx1 (upd H7 D (.lst (acc ++ [y]))) else Nx1 H6))
        else Nx H3) := by
  refine ⟨fun i m H => m = xs.length - i ∧ i ≤ xs.length ∧ Pv i H, ⟨xs.length, by simp, Nat.zero_le _, h0⟩, ?_⟩
  rintro i m H ⟨rfl, hi, p⟩
  have q := hl i H hi p
  by_cases hlt : i < xs.length
  · refine .inr ⟨⟨xs, xs[i], q, by simp [hlt]⟩, Pv (i + 1), fun H' p' => ⟨xs.length - (i + 1), by omega, rfl, hlt, p'⟩, fun x H' y => ?_⟩
    obtain ⟨e, y⟩ := y
    subst e
    refine monog _ _ _ _ _ (hs i x _ (y xs q) p) fun σ2 H2 ⟨ew, h⟩ => ⟨ew, ?_⟩
    dsimp only [tYes]
    rw [if_pos rfl]
    refine mono _ _ _ _ h fun J1 H4 ⟨eJ, p0, turn⟩ => ?_
    subst eJ
    refine ⟨fun j k H => k = (ys i).length - j ∧ j ≤ (ys i).length ∧ Pw i j H, ⟨_, rfl, Nat.zero_le _, p0⟩, ?_⟩
    rintro j k H5 ⟨rfl, hj, p5⟩
    have q5 := hl1 i j H5 hlt hj p5
    by_cases hjl : j < (ys i).length
    · refine .inr ⟨⟨ys i, (ys i)[j], q5, by simp [hjl]⟩, Pw i (j + 1), fun H' p' => ⟨(ys i).length - (j + 1), by omega, rfl, hjl, p'⟩, fun x2 H' y2 => ?_⟩
      obtain ⟨e, y2⟩ := y2
      subst e
      exact turn j x2 _ (y2 _ q5) p5
    · have e : j = (ys i).length := by omega
      subst e
      exact .inl ⟨⟨ys i, q5, Nat.le_refl _⟩, he i H5 hlt p5⟩
  · have e : i = xs.length := by omega
    subst e
    exact .inl ⟨⟨xs, q, Nat.le_refl _⟩, hd H p⟩
end Tb

set_option Elab.async false
set_option maxRecDepth 100000
set_option linter.all false
set_option maxHeartbeats 4000000
namespace Tb
open PySem PySem.Spec PyProof.Rows L2
/-- positional ones, defaults, named ones, put in the parameters' order -/
def gP {α : Type} (n m : Nat) (mid : List α) (ix : List Nat) (us ws : List α) : List α := if us.length = n ∧ ws.length = m then ix.filterMap (fun i => (us ++ (mid ++ ws))[i]?) else []
theorem gP_is {α : Type} {n m L : Nat} {mid us ws : List α} {ix : List Nat} (h : (gP n m mid ix us ws).length = L + 1) : us.length = n ∧ ws.length = m := by
  unfold gP at h
  split at h
  · assumption
  · cases h
theorem vals_pick {xs : List V} {ys : List Value} (r : Vals xs ys) : ∀ ix : List Nat, Vals (ix.filterMap (fun i => xs[i]?)) (ix.filterMap (fun i => ys[i]?))
  | [] => .nil
  | i :: ix => by
    have hl := Vals.length r
    cases e : xs[i]? with
    | none =>
      have e2 : ys[i]? = none := by
        rw [List.getElem?_eq_none_iff] at e ⊢; omega
      rw [List.filterMap_cons_none e, List.filterMap_cons_none e2]
      exact vals_pick r ix
    | some v =>
      obtain ⟨u, e2, q⟩ := r.get e
      rw [List.filterMap_cons_some e, List.filterMap_cons_some e2]
      exact .cons q (vals_pick r ix)
theorem gP_vals {n m : Nat} {mid vs zs : List V} {mi us ws : List Value} {ix : List Nat} (h : Vals mid mi) (r : Vals vs us) (rz : Vals zs ws) : Vals (gP n m mid ix vs zs) (gP n m mi ix us ws) := by
  have e1 := r.length
  have e2 := rz.length
  unfold gP
  rw [e1, e2]
  split
  · exact vals_pick (r.append (h.append rz)) ix
  · exact .nil
section
variable {X : Cx} {CX : CXT} {k : Nat} {f C : Addr} {fd : FuncData} {ps ks : List Str} {sp : Sp} {E : XK} {x : Str} {p pos : Pos} {e : Expr} {es : List Expr} {kws : List Keyword} {t tk : TA}
variable {g : List Value → List Value → List Value} {gV : List V → List V → List V}
theorem run_makeK {pins : List (Addr × Obj)} {σ : L2.St} {H : Hp} {s : Shared} {Q : VK} {us ws : List Value} {xs zs : List V} (M : Mk X.K C f) (F : FnOk X.prog X.w X.K X.mg X.base CX k f fd ps sp) (hr : Room (k + 1) X.A) (hb : KBinds X.K fd ps ks g gV)
    (hx : Passes CX X E) (I : Inv X pins σ H s) (rx : Vals xs us) (rz : Vals zs ws)
    (h : ∀ x dx, H x = none → H dx = none → dx ≠ x → sp (gV (.ref x :: xs) zs) (upd (upd H dx (.own x)) x (.ins C dx [])) (fun v H2 => v = .non ∧ Q (.ref x) H2) E) :
    wpAny (model X.prog X.w) X.A (call (.ref C) us (ks.zip ws)) (EP X pins σ Q) X.xe s := by
  have hq := h (s.heap.objs.size + 1) s.heap.objs.size (I.hok.fresh (Nat.le_succ _)) (I.hok.fresh (Nat.le_refl _)) (Nat.ne_of_lt (Nat.lt_succ_self _))
  have I2 := Inv.made (C := C) I
  have r2 := hb.rel (vs := V.ref (s.heap.objs.size + 1) :: xs) (us := Value.ref (s.heap.objs.size + 1) :: us) (.cons rfl rx) rz
  have hl : (g (Value.ref (s.heap.objs.size + 1) :: us) ws).length = ps.length := by rw [← r2.length]; exact F.len _ _ _ _ hq
  refine wpAny_call (make_map (f := f) I.kIn M.makes M.init (beq_iff_eq.mp M.fn) (codeAny_mono (F.run _ X.stack _ _ ⟨Value.ref (s.heap.objs.size + 1) :: us, ks.zip ws⟩ (g (Value.ref (s.heap.objs.size + 1) :: us) ws) _ _ E (hr.make C us (ks.zip ws))
    (I2.env0.make C us (ks.zip ws)) (hb.to _ (Value.ref (s.heap.objs.size + 1) :: us) ws I2.kIn hl) r2 hq) fun r s' hq' => ?_))
  cases r with
  | error e => exact hx pins σ _ _ e s' I2 hq'
  | ok fl =>
    cases fl with
    | ret u =>
      obtain ⟨v, H', I3, rv, ev, q3⟩ := I2.after hq'
      subst ev
      exact ⟨rv, ⟨V.ref (s.heap.objs.size + 1), H', I3, rfl, q3⟩⟩
    | next => exact False.elim hq'
    | brk => exact False.elim hq'
    | cont => exact False.elim hq'
/-- C(a, .., k = v, ..) -/
def tMakeK (C : Addr) (sp : Sp) (gV : List V → List V → List V) (E : XK) (t tk : TA) : TE := fun σ H Q => t σ H fun xs H1 => tk σ H1 fun zs H2 => ∀ x dx, H2 x = none → H2 dx = none → dx ≠ x → sp (gV (.ref x :: xs) zs) (upd (upd H2 dx (.own x)) x (.ins C dx [])) (fun v H3 => v = .non ∧ Q (.ref x) H3) E
theorem pe_makeK (M : Mk X.K C f) (F : FnOk X.prog X.w X.K X.mg X.base CX k f fd ps sp) (hr : Room (k + 1) X.A) (hg : Gl X x) (hm : X.mg x = some (.ref C)) (hb : KBinds X.K fd ps ks g gV) (hx : Passes CX X E) (ha : PA X (e :: es) t) (hkw : PK X kws tk)
    (hall : (backToKw pos (keywordEach kws X.env)).all (·.1.isSome) = true := by rfl) (hks : (backToKw pos (keywordEach kws X.env)).filterMap (·.1) = ks := by rfl)
    (hdb : (x == ("__debug__" : Str)) = false := by decide) (he : starEach (e :: es) X.env = (false, eval e X.env) :: starEach es X.env := by rfl)
    (hpl : ((backTo pos (starEach (e :: es) X.env)).any (·.1) || (backToKw pos (keywordEach kws X.env)).any (·.1.isNone)) = false := by rfl) :
    PE X (.Call (.Name x p) (e :: es) kws pos) (tMakeK C sp gV E t tk) := by
  intro pins s σ H Q I h
  refine wpAny_Call_Name_kw (ld_glob I hg hm ?_ hdb)
  refine PySem.W.callWith_KW (h₀ := X.base) I.ok.mod.kin M.kp hall (thn (ha pos pins s σ H _ I h) fun us s1 ⟨vs, H1, I1, r, q⟩ => ?_) hpl he
  refine thn (hkw pos pins s1 σ H1 _ I1 q) fun ws s2 ⟨zs, H2, I2, rz, q2⟩ => ⟨I2.kIn, ?_⟩
  rw [hks]
  exact run_makeK M F hr hb hx I2 r rz q2
end
end Tb

set_option Elab.async false
set_option maxRecDepth 100000
set_option linter.all false
set_option maxHeartbeats 8000000
namespace Wo
open PySem L2 TL Rl Tb Wf Dc
/-! ### a World, made -/
abbrev wf (ds tn lp lm lr : Addr) (j : Bool) : List (Str × V) := [("seats", .ref ds), ("numbers", .ref tn), ("plans", .ref lp), ("marks", .ref lm), ("ranks", .ref lr), ("nudges", .bl j)]
section
variable {ds tn lp lm lr : Addr} {j : Bool}
theorem wf_seats : (wf ds tn lp lm lr j).lookup ("seats" : Str) = some (.ref ds) := by kernel_rfl
theorem wf_plans : (wf ds tn lp lm lr j).lookup ("plans" : Str) = some (.ref lp) := by kernel_rfl
theorem wf_nudges : (wf ds tn lp lm lr j).lookup ("nudges" : Str) = some (.bl j) := by kernel_rfl
theorem wf_made : putF "nudges" (.bl j) (putF "ranks" (.ref lr) (putF "marks" (.ref lm) (putF "plans" (.ref lp) (putF "numbers" (.ref tn) (putF "seats" (.ref ds) []))))) = wf ds tn lp lm lr j := by kernel_rfl
theorem wf_check_plans_no : (wf ds tn lp lm lr j).lookup ("check_plans" : Str) = none := by kernel_rfl
theorem wf_can_no : (wf ds tn lp lm lr j).lookup ("can" : Str) = none := by kernel_rfl
theorem wf_row_at_no : (wf ds tn lp lm lr j).lookup ("row_at" : Str) = none := by kernel_rfl
theorem wf_steps_no : (wf ds tn lp lm lr j).lookup ("steps" : Str) = none := by kernel_rfl
theorem wf_own_moves_no : (wf ds tn lp lm lr j).lookup ("own_moves" : Str) = none := by kernel_rfl
end
theorem few_put {fs : List (Str × V)} {f : Str} {v : V} {n : Nat} (h : fs.length ≤ n) : (putF f v fs).length ≤ n + 1 := Nat.le_trans (length_putF f v fs) (Nat.succ_le_succ h)
structure TxW (K : PySem.W.Frag) (C : Addr) : Prop where
  cl : Cls K C
  seats : NoAttr K C "seats"
  numbers : NoAttr K C "numbers"
  plans : NoAttr K C "plans"
  marks : NoAttr K C "marks"
  ranks : NoAttr K C "ranks"
  nudges : NoAttr K C "nudges"
/-- names and their seats, from n on -/
def seatsF : Nat → List Str → List (Key × V)
  | _, [] => []
  | n, s :: r => (Sum.inr s, V.int (n : Int)) :: seatsF (n + 1) r
abbrev seatsD (names : List Str) : List (Key × V) := seatsF 0 names
theorem seatsF_add (s : Str) : ∀ (n : Nat) (l : List Str), seatsF n (l ++ [s]) = seatsF n l ++ [(Sum.inr s, V.int ((n + l.length : Nat) : Int))]
  | _, [] => rfl
  | n, a :: r => by
    show _ :: seatsF (n + 1) (r ++ [s]) = _ :: (seatsF (n + 1) r ++ _)
    rw [seatsF_add s (n + 1) r, List.length_cons, show n + 1 + r.length = n + (r.length + 1) by omega]
theorem seatsF_len : ∀ (n : Nat) (l : List Str), (seatsF n l).length = l.length
  | _, [] => rfl
  | n, a :: r => by show (seatsF (n + 1) r).length + 1 = _; rw [seatsF_len (n + 1) r]; rfl
def posS (s : Str) : List Str → Nat
  | [] => 0
  | a :: r => if a = s then 0 else posS s r + 1
theorem seatsF_val {s : Str} : ∀ {n : Nat} {l : List Str}, s ∈ l → valV (seatsF n l) (Sum.inr s) = some (V.int ((n + posS s l : Nat) : Int))
  | n, a :: r, h => by
    by_cases e : a = s
    · subst e
      unfold posS
      rw [if_pos rfl]
      exact valV_pos rfl
    · unfold posS
      rw [if_neg e, show n + (posS s r + 1) = (n + 1) + posS s r by omega, ← seatsF_val (n := n + 1) (List.mem_of_ne_of_mem (Ne.symm e) h)]
      exact valV_neg fun z => e (by injection z)
theorem seatsF_out {s : Str} : ∀ {n : Nat} {l : List Str}, s ∉ l → valV (seatsF n l) (Sum.inr s) = none
  | _, [], _ => rfl
  | n, a :: r, h => by
    rw [← seatsF_out (n := n + 1) (fun z => h (List.mem_cons_of_mem _ z))]
    exact valV_neg fun z => h (by injection z with z; rw [← z]; exact List.mem_cons_self ..)
theorem seats_put {s : Str} {l : List Str} (h : s ∉ l) : putK (seatsD l) (Sum.inr s) (V.int ((l.length : Nat) : Int)) = seatsD (l ++ [s]) := by
  show putK (seatsF 0 l) _ _ = seatsF 0 (l ++ [s])
  rw [putK_new _ (seatsF_out h), seatsF_add, Nat.zero_add]
def WO (C : Addr) (H : Hp) (p : Addr) (x : Wrld) : Prop := ∃ (dx ds tn lp lm lr : Addr) (ps : List Addr), H p = some (.ins C dx (wf ds tn lp lm lr x.jolt)) ∧ H ds = some (.dK (seatsD x.names)) ∧ H tn = some (.tup (x.nums.map V.int)) ∧ H lp = some (.lst (ps.map V.ref)) ∧ Paired (PlanAt H) ps x.plans ∧ H lm = some (.lst []) ∧ H lr = some (.lst (x.ords.map V.int))
theorem WO.same {C : Addr} {H H' : Hp} {p : Addr} {x : Wrld} (s : Same H H') (h : WO C H p x) : WO C H' p x := let ⟨dx, ds, tn, lp, lm, lr, ps, a, b, c, d, e, f, g⟩ := h
  ⟨dx, ds, tn, lp, lm, lr, ps, s _ _ a, s _ _ b, s _ _ c, s _ _ d, pr_mono (fun _ _ h => h.same s) e, s _ _ f, s _ _ g⟩
/-- what is changed is neither list nor tuple -/
theorem PlanAt.kpo {H H' : Hp} {p q : Addr} {rs : List Rw} (h1 : ∀ xs, H p ≠ some (.lst xs)) (h2 : ∀ xs, H p ≠ some (.tup xs)) (k : Kp p H H') (h : PlanAt H q rs) : PlanAt H' q rs :=
  let ⟨as, a, b⟩ := h; ⟨as, k _ _ a (fun z => h1 _ (z ▸ a)), pr_mono (fun _ _ h => k _ _ h fun z => h2 _ (z ▸ h)) b⟩
theorem LG.tbl {H : Hp} {P : Addr} (h : LG H P) : ∃ t, H P = some (.tbl t) := h.is
theorem LG.same {H H' : Hp} {P : Addr} (s : Same H H') (h : LG H P) : LG H' P := h.keep fun b o e _ => s b o e
theorem WO.kp {C : Addr} {H H' : Hp} {p P : Addr} {x : Wrld} (hT : ∃ t, H P = some (.tbl t)) (k : Kp P H H') (h : WO C H p x) : WO C H' p x := by
  obtain ⟨t, hT⟩ := hT
  obtain ⟨dx, ds, tn, lp, lm, lr, ps, a, b, c, d, e, f, g⟩ := h
  have n : ∀ {q : Addr} {o : HO}, H q = some o → (∀ t, o ≠ .tbl t) → H' q = some o := fun {q o} e z => k _ _ e fun y => z t (by rw [y, hT] at e; exact (Option.some.inj e).symm)
  exact ⟨dx, ds, tn, lp, lm, lr, ps, n a (by intro t z; cases z), n b (by intro t z; cases z), n c (by intro t z; cases z), n d (by intro t z; cases z), pr_mono (fun _ _ h => h.kpo (by rw [hT]; intro xs z; cases z) (by rw [hT]; intro xs z; cases z) k) e, n f (by intro t z; cases z), n g (by intro t z; cases z)⟩
theorem Kp.refl {P : Addr} {H : Hp} : Kp P H H := fun _ _ e _ => e
theorem Kp.trans {P : Addr} {H H1 H2 : Hp} (a : Kp P H H1) (b : Kp P H1 H2) : Kp P H H2 := fun c o e n => b c o (a c o e n) n
theorem Kp.of {P : Addr} {H H' : Hp} (s : Same H H') : Kp P H H' := fun b o e _ => s b o e
theorem pr_get {α β : Type} {R : α → β → Prop} : ∀ {xs : List α} {ys : List β}, Paired R xs ys → ∀ {i : Nat} {x : α}, xs[i]? = some x → ∃ y, ys[i]? = some y ∧ R x y
  | _, _, .nil, _, _, h => by simp at h
  | _, _, .cons r t, 0, _, h => by cases h; exact ⟨_, rfl, r⟩
  | _, _, .cons r t, i + 1, _, h => pr_get t (i := i) h
theorem ref_at {as : List Addr} {i : Nat} {v : V} (h : (as.map V.ref)[i]? = some v) : ∃ a, v = .ref a ∧ as[i]? = some a := by
  rw [List.getElem?_map] at h
  cases e : as[i]? with
  | none => rw [e] at h; cases h
  | some a => rw [e] at h; exact ⟨a, (Option.some.inj h).symm, rfl⟩
def spCk (C Pg : Addr) : Sp := fun vs H Q _ => ∃ (p : Addr) (x : Wrld) (ah : Bool) (rm : List (Str × Int)), vs = [.ref p] ∧ WO C H p x ∧ x.ok ah rm ∧ LG H Pg ∧ ∀ H', Kp Pg H H' → LG H' Pg → Q .non H'
def spWInit (C Pg : Addr) : Sp := fun vs H Q _ => ∃ (p r lpl dx : Addr) (rk : V) (x : Wrld) (ah : Bool) (rm : List (Str × Int)) (ps : List Addr), vs = [.ref p, .ref r, .ref lpl, .non, rk, .bl x.jolt] ∧ H p = some (.ins C dx []) ∧ H r = some (rmO rm) ∧ H lpl = some (.lst (ps.map V.ref)) ∧ Paired (PlanAt H) ps x.plans ∧
  x.ok ah rm ∧ ((rk = .non ∧ x.ords = List.replicate x.plans.length 0) ∨ ∃ lr, rk = .ref lr ∧ H lr = some (.lst (x.ords.map V.int))) ∧ LG H Pg ∧ ∀ H', (∀ b o, H b = some o → b ≠ p → b ≠ Pg → H' b = some o) → LG H' Pg → WO C H' p x → Q .non H'
section
variable {P : Program} {w : World} {K : PySem.W.Frag} {mg : Str → Option Value} {base : Heap}
theorem scWorld_check_plans : FnScope ["self", "guest", "plan", "place", "row"] ["self"] (defScope sWorld_check_plans) := ⟨rfl, rfl, rfl, by decide +kernel, rfl, by decide +kernel, by decide +kernel⟩
theorem ok_check {f C fRF Pg : Addr} {fd fdRF : FuncData} (F : Fun K "check_plans" "World.check_plans" sWorld_check_plans f fd) (T : TxW K C) (G : Glb mg) (GRF : FnOk P w K mg base CX0 4 fRF fdRF ["row", "rooms", "end"] (spRowFits Pg)) (mgRF : mg "row_fits" = some (.ref fRF)) (kpRF : PySem.W.keepIn K (.ref fRF) = true) (bRF : Binds K fdRF ["row", "rooms", "end"] []) : FnOk P w K mg base CX0 5 f fd ["self"] (spCk C Pg) := by
  refine F.ok scWorld_check_plans (fun vs H Q E h => ?_) (fun cdv A outer s H vs Q E hr h => ?_)
  · obtain ⟨p, x, ah, rm, rfl, _⟩ := h
    rfl
  · obtain ⟨p, x, ah, rm, rfl, hW, hok, hL, q⟩ := h
    have hr4 : Room 4 _ := hr
    refine ⟨_, (pss_one (ps_for PassesOwn.never rfl (pi_enum (by rfl) G.enumerate (pa_cons (pe_fld (pv 0) rfl) pa_nil)) (pg_tup rfl (pgs_cons (pg_name (i := 1) scWorld_check_plans.nd rfl (Or.inl rfl)) (pgs_cons (pg_name (i := 2) scWorld_check_plans.nd rfl (Or.inl rfl)) pgs_nil))) (pss_one (ps_for PassesOwn.never rfl (pi_enum (by rfl) G.enumerate (pa_cons (pv 2) pa_nil)) (pg_tup rfl (pgs_cons (pg_name (i := 3) scWorld_check_plans.nd rfl (Or.inl rfl)) (pgs_cons (pg_name (i := 4) scWorld_check_plans.nd rfl (Or.inl rfl)) pgs_nil))) (pss_one (ps_if (pt_not (pt_val (pe_call GRF hr4 (by rfl) mgRF kpRF bRF .nil pass0 (pa_cons (pv 4) (pa_cons (pe_fld (pv 0) rfl) (pa_cons (pe_callB call_len_seq (by rfl) G.len PySem.boot_len (pa_cons (pv 2) pa_nil)) pa_nil)))))) (pss_one ps_never) pss_nil)))))), ?_⟩
    have hW0 := hW
    obtain ⟨dx, ds, tn, lp, lm, lr, ps, hp, hds, _, hlp, hpl, _, _⟩ := hW
    have back : ∀ {H'}, Kp Pg H H' → WO C H' p x := fun k => hW0.kp hL.tbl k
    have nT : ∀ {q : Addr} {o : HO} {H' : Hp}, Kp Pg H H' → H q = some o → (∀ t, o ≠ .tbl t) → H' q = some o := fun {q o H'} k e z => k _ _ e fun y => by
      obtain ⟨t, ht⟩ := hL.tbl
      rw [y, ht] at e; cases e; exact z t rfl
    refine ⟨_, rfl, p, C, dx, _, _, rfl, hp, T.cl, T.plans, wf_plans, lp, _, rfl, SqL.of hlp, for_enum (K := K) (a := lp) (xs := ps.map V.ref) (fun i σ' H' => (∃ v1 v2 v3 v4, σ' = [some (.ref p), v1, v2, v3, v4]) ∧ Kp Pg H H' ∧ LG H' Pg) ⟨⟨_, _, _, _, rfl⟩, Kp.refl, hL⟩ ?_ ?_ ?_⟩
    · rintro i σ' H' _ ⟨_, k, _⟩
      exact SqL.of (nT k hlp (by intro t z; cases z))
    · rintro i v σ' H' Tt hi ⟨⟨v1, v2, v3, v4, rfl⟩, k, hl⟩ hTt
      obtain ⟨q0, rfl, hq0⟩ := ref_at hi
      obtain ⟨pl, hpi, hpa⟩ := pr_get hpl hq0
      refine ⟨Tt, _, rfl, SqT.of upd_same, rfl, _, _, rfl, _, _, rfl, rfl, ?_⟩
      have k1 : Kp Pg H (upd H' Tt (.tup [.int (i : Nat), .ref q0])) := k.trans (Kp.of (sameNew hTt))
      have hl1 := LG.same (sameNew (o := .tup [.int (i : Nat), .ref q0]) hTt) hl
      generalize upd H' Tt (.tup [.int (i : Nat), .ref q0]) = H1 at k1 hl1
      obtain ⟨lpl, rows⟩ := hok.rows pl (List.mem_of_getElem? hpi)
      obtain ⟨as, hq1, hpr⟩ := hpa
      refine ⟨_, rfl, q0, _, rfl, SqL.of (nT k1 hq1 (by intro t z; cases z)), for_enum (K := K) (a := q0) (xs := as.map V.ref) (fun j σ' H' => (∃ v3 v4, σ' = [some (.ref p), some (.int (i : Nat)), some (.ref q0), v3, v4]) ∧ Kp Pg H H' ∧ LG H' Pg) ⟨⟨_, _, rfl⟩, k1, hl1⟩ ?_ ?_ ?_⟩
      · rintro j σ' H' _ ⟨_, k, _⟩
        exact SqL.of (nT k hq1 (by intro t z; cases z))
      · rintro j v σ' H' Tt hj ⟨⟨v3, v4, rfl⟩, k, hl⟩ hTt
        obtain ⟨a, rfl, ha0⟩ := ref_at hj
        obtain ⟨rw, hrw, ha⟩ := pr_get hpr ha0
        refine ⟨Tt, _, rfl, SqT.of upd_same, rfl, _, _, rfl, _, _, rfl, rfl, ?_⟩
        have k2 : Kp Pg H (upd H' Tt (.tup [.int (j : Nat), .ref a])) := k.trans (Kp.of (sameNew hTt))
        have hl2 := LG.same (sameNew (o := .tup [.int (j : Nat), .ref a]) hTt) hl
        generalize upd H' Tt (.tup [.int (j : Nat), .ref a]) = H2 at k2 hl2
        have lasr : as.length = pl.length := pr_len hpr
        refine ⟨_, rfl, _, rfl, p, C, dx, _, _, rfl, nT k2 hp (by intro t z; cases z), T.cl, T.seats, wf_seats, _, rfl, q0, _, rfl, .inl (SqL.of (nT k2 hq1 (by intro t z; cases z))), ?_⟩
        rw [List.length_map, lasr]
        refine ⟨a, ds, rw, seatsD x.names, rm.map (·.1), _, _, rfl, nT k2 ha (by intro t z; cases z), nT k2 hds (by intro t z; cases z), rows j rw hrw, by split <;> omega, by omega, fun s hs => ?_, hl2, fun H3 k3 hl3 => ?_⟩
        · unfold namesOf
          rw [seatsF_val (hok.perm.mem_iff.mpr hs)]; rfl
        · exact ⟨true, rfl, iteF ⟨⟨_, _, rfl⟩, k2.trans k3, hl3⟩⟩
      · rintro σ' H' ⟨⟨v3, v4, rfl⟩, k, hl⟩
        exact ⟨⟨_, _, _, _, rfl⟩, k, hl⟩
    · rintro σ' H' ⟨_, k, hl⟩
      exact q H' k hl
end
end Wo

set_option Elab.async false
set_option maxRecDepth 100000
set_option linter.all false
set_option maxHeartbeats 4000000
namespace Tb
open PySem PySem.Spec PyProof.Rows L2
/-! ### rules with the fragment named, for use within a comprehension -/
def rLenK (K : PySem.W.Frag) : List V → Hp → VK → Prop := fun xs H Q => ∃ p ys, xs = [.ref p] ∧ (SqL K H p ys ∨ SqT K H p ys) ∧ Q (.int ys.length) H
def rListK (K : PySem.W.Frag) : List V → Hp → VK → Prop := fun xs H Q => ∃ p ys, xs = [.ref p] ∧ (SqL K H p ys ∨ SqT K H p ys) ∧ ∀ l, H l = none → Q (.ref l) (upd H l (.lst ys))
section
variable {X : Cx} {K : PySem.W.Frag}
theorem call_len_seqK (h : X.K = K) : CallR X (.builtin "len") (rLenK K) := by subst h; exact call_len_seq
theorem call_list_ofK (h : X.K = K) : CallR X (.type "list") (rListK K) := by subst h; exact call_list_of
theorem ix_tupK (h : X.K = K) : IxR X (rIxT K) := by subst h; exact ix_tup
theorem op_in_seqK (h : X.K = K) : OpR X (compareOp .In) (rIn K false) := by subst h; exact op_in_seq
theorem op_notIn_seqK (h : X.K = K) : OpR X (compareOp .NotIn) (rIn K true) := by subst h; exact op_notIn_seq
theorem pi_tupK {tg l : Expr} {tl : TE} (h : X.K = K) (hl : PE X l tl) (hs : isTrue l X.env = isTrue l X.env := by rfl) : PI X tg l (iTup K tl) := by subst h; exact pi_tup hl
end
end Tb

set_option Elab.async false
set_option maxRecDepth 100000
set_option linter.all false
set_option maxHeartbeats 8000000
namespace Wo
open PySem L2 TL Rl Tb Wf Dc
section
variable {P : Program} {w : World} {K : PySem.W.Frag} {mg : Str → Option Value} {base : Heap}
theorem scWorld_init : FnScope ["self", "rooms", "plans", "marks", "ranks", "nudges", "names", "seat", "name", "plan", "places"] ["self", "rooms", "plans", "marks", "ranks", "nudges"] (defScope sWorld_init) := ⟨rfl, rfl, rfl, by decide +kernel, rfl, by decide +kernel, by decide +kernel⟩
abbrev wst (p r lpl : Addr) (rk : V) (j : Bool) (ln : Addr) : St := [some (.ref p), some (.ref r), some (.ref lpl), some .non, some rk, some (.bl j), some (.ref ln), none, none, none, none]
theorem ok_winit {f C fCk Pg : Addr} {fd fdCk : FuncData} (F : Fun K "__init__" "World.__init__" sWorld_init f fd) (T : TxW K C) (G : Glb mg) (mCk : Meth K C "check_plans" fCk) (GCk : FnOk P w K mg base CX0 5 fCk fdCk ["self"] (spCk C Pg)) (bCk : Binds K fdCk ["self"] []) : FnOk P w K mg base CX0 6 f fd ["self", "rooms", "plans", "marks", "ranks", "nudges"] (spWInit C Pg) := by
  refine F.ok scWorld_init (fun vs H Q E h => ?_) (fun cdv A outer s H vs Q E hr h => ?_)
  · obtain ⟨p, r, lpl, dx, rk, x, ah, rm, ps, rfl, _⟩ := h
    rfl
  · obtain ⟨p, r, lpl, dx, rk, x, ah, rm, ps, rfl, hp, hr0, hpl, hpr, hok, hrk, hL, q⟩ := h
    have hu := hu_of hr
    have hr5 : Room 5 _ := hr
    have zz : 300 < sizeLine := by rw [sizeLine_eq]; decide
    have lt : ∀ {n m : Nat}, n ≤ m → m ≤ 10 → n < 1000 := fun h1 h2 => by omega
    have l0 : ([] : List (Str × V)).length ≤ 0 := Nat.le_refl 0
    have r12 := hok.r12
    have nl : x.names.length = rm.length := by rw [hok.perm.length_eq, List.length_map]
    have nd : x.names.Nodup := hok.perm.nodup_iff.mpr hok.nd
    have pa_cons := @pa_cons
    have pa_nil := @pa_nil
    have pe_callB := @pe_callB
    have pe_callTy := @pe_callTy
    have pe_dc := @pe_dc
    have pe_dget := @pe_dget
    have pe_ifExp := @pe_ifExp
    have pe_int := @pe_int
    have pe_lc := @pe_lc
    have pe_lst := @pe_lst
    have pe_meth0 := @pe_meth0
    have pe_no := @pe_no
    have pe_non := @pe_non
    have pg_name := @pg_name
    have pg_tup := @pg_tup
    have pgs_cons := @pgs_cons
    have pgs_nil := @pgs_nil
    have pi_enum := @pi_enum
    have pi_list := @pi_list
    have ps_expr := @ps_expr
    have ps_fld := @ps_fld
    have ps_set := @ps_set
    have pss_cons := @pss_cons
    have pss_cut := @pss_cut
    have pss_one := @pss_one
    have pt_cmpR := @pt_cmpR
    have pts_nil := @pts_nil
    have pv := @pv
    revert pa_cons pa_nil pe_callB pe_callTy pe_dc pe_dget pe_ifExp pe_int pe_lc pe_lst pe_meth0 pe_no pe_non pg_name pg_tup pgs_cons pgs_nil pi_enum pi_list ps_expr ps_fld ps_set pss_cons pss_cut pss_one pt_cmpR pts_nil pv
    generalize @L2.PS = vPS
    generalize @L2.PSs = vPSs
    generalize @L2.PE = vPE
    generalize @L2.PT = vPT
    generalize @L2.PW = vPW
    generalize @L2.PC = vPC
    generalize @L2.PA = vPA
    generalize @L2.PG = vPG
    generalize @L2.PI = vPI
    generalize @L2.PO = vPO
    generalize @L2.PTs = vPTs
    generalize @L2.PPs = vPPs
    generalize @L2.PGs = vPGs
    generalize @L2.PK = vPK
    intro pa_cons pa_nil pe_callB pe_callTy pe_dc pe_dget pe_ifExp pe_int pe_lc pe_lst pe_meth0 pe_no pe_non pg_name pg_tup pgs_cons pgs_nil pi_enum pi_list ps_expr ps_fld ps_set pss_cons pss_cut pss_one pt_cmpR pts_nil pv
    refine ⟨_, (pss_cons (ps_set (i := 6) scWorld_init.nd rfl (Or.inl rfl) (pe_callB (Sd.cr_sortedDS rfl) (by rfl) G.sorted PyProof.Rows.boot_sorted (pa_cons (pv 1) pa_nil)))
      (pss_cut (ps_fld (pv 0) (pe_dc (own := [("seat", 7), ("name", 8)]) (g := (gTup K 2 (gCons (gName 7) (gCons (gName 8) gNil)))) (by rfl) scWorld_init.nd (pi_enum (by rfl) G.enumerate (pa_cons (pv 6) pa_nil)) (blkOk_by (own := [("seat", 7), ("name", 8)]) (N := ["self", "rooms", "plans", "marks", "ranks", "nudges", "names", "seat", "name", "plan", "places"]) (sc := defScope sWorld_init) (by decide +kernel)) (fun _ _ _ _ _ => (pg_tup rfl (pgs_cons (pg_name (i := 7) scWorld_init.nd rfl (Or.inl rfl)) (pgs_cons (pg_name (i := 8) scWorld_init.nd rfl (Or.inl rfl)) pgs_nil)))) (fun _ _ _ _ _ => pts_nil) (fun _ _ _ _ _ => (pv 8)) (fun _ _ _ _ _ => (pv 7))) rfl)
      (pss_cut (ps_fld (pv 0) (pe_callTy call_tuple_of (by rfl) G.tuple (by decide +kernel) (pa_cons (pe_lc (own := [("name", 8)]) (g := (gName 8)) (by rfl) scWorld_init.nd (pi_list (pv 6)) (blkOk_by (own := [("name", 8)]) (N := ["self", "rooms", "plans", "marks", "ranks", "nudges", "names", "seat", "name", "plan", "places"]) (sc := defScope sWorld_init) (by decide +kernel)) (fun _ _ _ _ _ => (pg_name (i := 8) scWorld_init.nd rfl (Or.inl rfl))) (fun _ _ _ _ _ => pts_nil) (fun _ _ _ _ _ => (pe_dget hu (pv 1) (pv 8) (fun _ _ => rfl)))) pa_nil)) rfl)
      (pss_cut (ps_fld (pv 0) (pe_lc (own := [("plan", 9)]) (g := (gName 9)) (by rfl) scWorld_init.nd (pi_list (pv 2)) (blkOk_by (own := [("plan", 9)]) (N := ["self", "rooms", "plans", "marks", "ranks", "nudges", "names", "seat", "name", "plan", "places"]) (sc := defScope sWorld_init) (by decide +kernel)) (fun _ _ _ _ _ => (pg_name (i := 9) scWorld_init.nd rfl (Or.inl rfl))) (fun _ _ _ _ _ => pts_nil) (fun _ _ _ _ _ => (pe_callTy (call_list_ofK (K := K) rfl) (by rfl) G.list (by decide +kernel) (pa_cons (pv 9) pa_nil)))) rfl)
      (pss_cons (ps_fld (pv 0) (pe_ifExp (pt_cmpR op_isN (pv 3) pe_non (nomark _)) (pe_lst pa_nil) pe_no) rfl)
      (pss_cut (ps_fld (pv 0) (pe_ifExp (pt_cmpR op_isN (pv 4) pe_non (nomark _)) (pe_lc (own := [("plan", 9)]) (g := (gName 9)) (by rfl) scWorld_init.nd (pi_list (pv 2)) (blkOk_by (own := [("plan", 9)]) (N := ["self", "rooms", "plans", "marks", "ranks", "nudges", "names", "seat", "name", "plan", "places"]) (sc := defScope sWorld_init) (by decide +kernel)) (fun _ _ _ _ _ => (pg_name (i := 9) scWorld_init.nd rfl (Or.inl rfl))) (fun _ _ _ _ _ => pts_nil) (fun _ _ _ _ _ => pe_int)) (pe_callTy call_list_of (by rfl) G.list (by decide +kernel) (pa_cons (pv 4) pa_nil))) rfl)
      (pss_cons (ps_fld (pv 0) (pv 5) rfl)
      (pss_one (ps_expr (pe_meth0 (pv 0) T.cl mCk GCk hr5 bCk .nil pass0)))))))))), ?_⟩
    -- the names
    refine ⟨_, rfl, r, keysR rm, rm.map (·.1), rfl, hr0, (by unfold keysR; rw [List.map_map, List.map_map]; rfl), by rw [List.length_map]; omega, fun nm ln pm srt hln => ?_⟩
    obtain rfl : nm = x.names := Sd.sorted_one (pm.trans hok.perm.symm) srt hok.srt
    have s1 := sameNew (o := .lst (x.names.map V.str)) hln
    have g1 : (upd H ln (.lst (x.names.map V.str))) ln = some (.lst (x.names.map V.str)) := upd_same
    generalize upd H ln (.lst (x.names.map V.str)) = H1 at s1 g1
    -- the seats
    refine ⟨fun σ' H' => ∃ ds, σ' = wst p r lpl rk x.jolt ln ∧ Kp p H H' ∧ H' p = some (.ins C dx (putF "seats" (.ref ds) [])) ∧ H' ln = some (.lst (x.names.map V.str)) ∧ H' ds = some (.dK (seatsD x.names)), ?_, ?_⟩
    · refine ⟨_, rfl, ln, _, rfl, SqL.of g1, fun D hD => ?_⟩
      refine dc_enum (K := K) (a := ln) (xs := x.names.map V.str) (fun i H' => Same H1 H' ∧ H' D = some (.dK (seatsD (x.names.take i)))) ⟨sameNew hD, upd_same⟩ ?_ ?_ ?_
      · rintro i H' _ ⟨sj, _⟩
        exact SqL.of (sj _ _ g1)
      · rintro i v H' Tt hi ⟨sj, gj⟩ hTt
        obtain ⟨s, rfl, hsi⟩ : ∃ s, v = V.str s ∧ x.names[i]? = some s := by
          rw [List.getElem?_map] at hi
          cases e : x.names[i]? with
          | none => rw [e] at hi; cases hi
          | some s => rw [e] at hi; exact ⟨s, (Option.some.inj hi).symm, rfl⟩
        have li := (List.getElem?_eq_some_iff.mp hsi).1
        refine ⟨Tt, _, rfl, SqT.of upd_same, rfl, _, _, rfl, _, _, rfl, rfl, rfl, ?_⟩
        dsimp only [tYes]
        have sT := sameNew (o := .tup [.int (i : Nat), .str s]) hTt
        have e1 : (x.names.take i).length = i := by rw [List.length_take]; omega
        have hout : s ∉ x.names.take i := fun z => by
          obtain ⟨j, hj⟩ := List.getElem?_of_mem z
          rw [List.getElem?_take] at hj
          split at hj
          · rename_i l
            have := (List.getElem?_inj li nd).mp (hsi.trans hj.symm)
            omega
          · cases hj
        refine iteT ⟨_, rfl, _, rfl, seatsD (x.names.take i), Sum.inr s, rfl, sT _ _ gj, by rw [seatsF_len, e1]; omega, fun b o e => ?_, ?_⟩
        · rw [upd_ne (fun z => by rw [z, hD] at e; cases e)]; exact sT _ _ (sj b o e)
        · have := seats_put hout
          rw [e1] at this
          rw [upd_same, this, List.take_succ, hsi]; rfl
      · rintro H' ⟨sj, gj⟩
        rw [List.length_map, List.take_length] at gj
        have hp' := sj _ _ (s1 _ _ hp)
        refine ⟨_, rfl, p, C, dx, [], rfl, hp', T.cl, T.seats, lt l0 (by decide), D, rfl, fun b o e hb => ?_, upd_same, ?_, ?_⟩
        · rw [upd_ne hb]; exact sj _ _ (s1 _ _ e)
        · rw [upd_ne (ne_of (sj _ _ g1) hp' (by intro z; cases z))]; exact sj _ _ g1
        · rw [upd_ne (ne_of gj hp' (by intro z; cases z))]; exact gj
    rintro _ H2 ⟨ds, rfl, k2, hp2, gn2, gd2⟩
    have l1 := few_put (f := "seats") (v := .ref ds) l0
    have nrp : r ≠ p := ne_of hr0 hp (by intro z; cases z)
    have nlp : lpl ≠ p := ne_of hpl hp (by intro z; cases z)
    -- the numbers
    refine ⟨fun σ' H' => ∃ tn, σ' = wst p r lpl rk x.jolt ln ∧ Kp p H2 H' ∧ H' p = some (.ins C dx (putF "numbers" (.ref tn) (putF "seats" (.ref ds) []))) ∧ H' tn = some (.tup (x.nums.map V.int)), ?_, ?_⟩
    · refine ⟨_, rfl, ln, rfl, ⟨_, SqL.of gn2⟩, fun D hD => ?_⟩
      refine lc_list (K := K) (a := ln) (xs := x.names.map V.str) (fun j H' => Same H2 H' ∧ H' D = some (.lst (((x.names.take j).map (valR rm)).map V.int))) ⟨sameNew hD, upd_same⟩ ?_ ?_ ?_
      · rintro j H' _ ⟨sj, _⟩
        exact SqL.of (sj _ _ gn2)
      · rintro j v H' hi ⟨sj, gj⟩
        obtain ⟨s, rfl, hsi⟩ : ∃ s, v = V.str s ∧ x.names[j]? = some s := by
          rw [List.getElem?_map] at hi
          cases e : x.names[j]? with
          | none => rw [e] at hi; cases hi
          | some s => rw [e] at hi; exact ⟨s, (Option.some.inj hi).symm, rfl⟩
        have li := (List.getElem?_eq_some_iff.mp hsi).1
        refine ⟨rfl, ?_⟩
        dsimp only [tYes]
        have hin : s ∈ rm.map (·.1) := hok.perm.mem_iff.mp (List.mem_of_getElem? hsi)
        have gr := sj _ _ (k2 _ _ hr0 nrp)
        refine iteT ⟨_, rfl, _, rfl, r, _, rfl, (by have := DGet.k (k := Sum.inr s) gr; rw [keysR_in hin] at this; exact this), _, gj, by rw [List.length_map, List.length_map, List.length_take]; omega, fun b o e => by rw [upd_ne (ne_of_none e hD)]; exact sj b o e, ?_⟩
        rw [upd_same, List.take_succ, hsi, List.map_append, List.map_append]; rfl
      · rintro H' ⟨sj, gj⟩
        rw [List.length_map, List.take_length, ← hok.nums] at gj
        refine ⟨D, _, rfl, .inl ⟨SqL.of gj, fun tn htn => ?_⟩⟩
        have st := sameNew (o := .tup (x.nums.map V.int)) htn
        have hp' := st _ _ (sj _ _ hp2)
        refine ⟨_, rfl, p, C, dx, _, rfl, hp', T.cl, T.numbers, lt l1 (by decide), tn, rfl, fun b o e hb => ?_, upd_same, ?_⟩
        · rw [upd_ne hb]; exact st _ _ (sj _ _ e)
        · have e : (upd H' tn (.tup (x.nums.map V.int))) tn = some (.tup (x.nums.map V.int)) := upd_same
          rw [upd_ne (ne_of e hp' (by intro z; cases z))]; exact e
    rintro _ H3 ⟨tn, rfl, k3, hp3, gt3⟩
    have l2 := few_put (f := "numbers") (v := .ref tn) l1
    have gd3 := k3 _ _ gd2 (ne_of gd2 hp2 (by intro z; cases z))
    have k03 := k2.trans k3
    have pr3 : Paired (PlanAt H3) ps x.plans := pr_mono (fun _ _ h => h.kpo (by rw [hp]; intro xs z; cases z) (by rw [hp]; intro xs z; cases z) k03) hpr
    -- the plans
    refine ⟨fun σ' H' => ∃ (lp : Addr) (qs : List Addr), σ' = wst p r lpl rk x.jolt ln ∧ Kp p H3 H' ∧ H' p = some (.ins C dx (putF "plans" (.ref lp) (putF "numbers" (.ref tn) (putF "seats" (.ref ds) [])))) ∧ H' lp = some (.lst (qs.map V.ref)) ∧ Paired (PlanAt H') qs x.plans, ?_, ?_⟩
    · refine ⟨_, rfl, lpl, rfl, ⟨_, SqL.of (k03 _ _ hpl nlp)⟩, fun D hD => ?_⟩
      refine lc_list (K := K) (a := lpl) (xs := ps.map V.ref) (fun j H' => ∃ qs : List Addr, Same H3 H' ∧ H' D = some (.lst (qs.map V.ref)) ∧ Paired (PlanAt H') qs (x.plans.take j) ∧ ∀ z ∈ qs, z ≠ D) ⟨[], sameNew hD, upd_same, .nil, fun _ z => nomatch z⟩ ?_ ?_ ?_
      · rintro j H' _ ⟨qs, sj, _⟩
        exact SqL.of (sj _ _ (k03 _ _ hpl nlp))
      · rintro j v H' hi ⟨qs, sj, gj, pj, nj⟩
        obtain ⟨q0, rfl, hq0⟩ := ref_at hi
        obtain ⟨pl, hpi, as, hqa, hpas⟩ := pr_get pr3 hq0
        refine ⟨rfl, ?_⟩
        dsimp only [tYes]
        refine iteT ⟨_, rfl, q0, _, rfl, .inl (SqL.of (sj _ _ hqa)), fun l hl => ?_⟩
        have sl := sameNew (o := .lst (as.map V.ref)) hl
        have nDl : D ≠ l := ne_of_none gj hl
        have lq := pr_len pj
        rw [List.length_take] at lq
        have hp8 := hok.p8
        refine ⟨_, sl _ _ gj, by rw [List.length_map]; omega, qs ++ [l], fun b o e => ?_, by rw [upd_same, List.map_append]; rfl, ?_, fun z hz => ?_⟩
        · rw [upd_ne (ne_of_none e hD)]; exact sl _ _ (sj b o e)
        · rw [List.take_succ, hpi]
          have chD : ∀ {q1 : Addr} {rs : List Rw}, PlanAt (upd H' l (.lst (as.map V.ref))) q1 rs → q1 ≠ D → PlanAt (upd (upd H' l (.lst (as.map V.ref))) D (.lst (qs.map V.ref ++ [V.ref l]))) q1 rs := fun h n => h.chg (sl _ _ gj) (fun b o e hb => by rw [upd_ne hb]; exact e) n
          exact pr_add (pr_mono (fun q1 rs h => chD (h.1.same sl) (nj _ h.2)) (pr_memL pj)) (chD ⟨as, upd_same, pr_mono (fun _ _ h => sl _ _ (sj _ _ h)) hpas⟩ nDl.symm)
        · rcases List.mem_append.mp hz with hz | hz
          · exact nj z hz
          · rw [List.mem_singleton.mp hz]; exact nDl.symm
      · rintro H' ⟨qs, sj, gj, pj, nj⟩
        rw [List.length_map, pr_len hpr, List.take_length] at pj
        have hp' := sj _ _ hp3
        refine ⟨_, rfl, p, C, dx, _, rfl, hp', T.cl, T.plans, lt l2 (by decide), D, qs, rfl, fun b o e hb => ?_, upd_same, ?_, ?_⟩
        · rw [upd_ne hb]; exact sj _ _ e
        · rw [upd_ne (ne_of gj hp' (by intro z; cases z))]; exact gj
        · exact pr_mono (fun _ _ h => h.kpo (by rw [hp']; intro xs z; cases z) (by rw [hp']; intro xs z; cases z) (fun b o e hb => by rw [upd_ne hb]; exact e)) pj
    rintro _ H4 ⟨lp, qs, rfl, k4, hp4, gp4, pr4⟩
    have l3 := few_put (f := "plans") (v := .ref lp) l2
    have gd4 := k4 _ _ gd3 (ne_of gd3 hp3 (by intro z; cases z))
    have gt4 := k4 _ _ gt3 (ne_of gt3 hp3 (by intro z; cases z))
    have k04 := k03.trans k4
    -- the marks
    refine ⟨_, rfl, rfl, _, rfl, iteT' (by rfl) ⟨Nat.zero_le _, fun lm hlm => ?_⟩⟩
    have s5 := sameNew (o := .lst []) hlm
    have hp5 := s5 _ _ hp4
    refine ⟨_, rfl, p, C, dx, _, rfl, hp5, T.cl, T.marks, lt l3 (by decide), ?_⟩
    have l4 := few_put (f := "marks") (v := .ref lm) l3
    have k5 : Kp p H4 (upd (upd H4 lm (.lst [])) p (.ins C dx (putF "marks" (.ref lm) (putF "plans" (.ref lp) (putF "numbers" (.ref tn) (putF "seats" (.ref ds) [])))))) := fun b o e hb => by rw [upd_ne hb]; exact s5 _ _ e
    have hp6 : (upd (upd H4 lm (.lst [])) p (.ins C dx (putF "marks" (.ref lm) (putF "plans" (.ref lp) (putF "numbers" (.ref tn) (putF "seats" (.ref ds) [])))))) p = some (.ins C dx (putF "marks" (.ref lm) (putF "plans" (.ref lp) (putF "numbers" (.ref tn) (putF "seats" (.ref ds) []))))) := upd_same
    have gm6 : (upd (upd H4 lm (.lst [])) p (.ins C dx (putF "marks" (.ref lm) (putF "plans" (.ref lp) (putF "numbers" (.ref tn) (putF "seats" (.ref ds) [])))))) lm = some (.lst []) := by rw [upd_ne (ne_of_none hp4 hlm).symm]; exact upd_same
    generalize upd (upd H4 lm (.lst [])) p (.ins C dx (putF "marks" (.ref lm) (putF "plans" (.ref lp) (putF "numbers" (.ref tn) (putF "seats" (.ref ds) []))))) = H6 at k5 hp6 gm6
    have nI : ∀ {b : Addr} {o : HO} {H' H'' : Hp} {fs : List (Str × V)}, Kp p H' H'' → H' p = some (.ins C dx fs) → H' b = some o → (∀ fs, o ≠ .ins C dx fs) → H'' b = some o := fun {b o H' H'' fs} k h e n => k _ _ e fun z => by rw [z, h] at e; exact n fs (Option.some.inj e).symm
    have pI : ∀ {H' H'' : Hp} {fs : List (Str × V)} {qs : List Addr}, Kp p H' H'' → H' p = some (.ins C dx fs) → Paired (PlanAt H') qs x.plans → Paired (PlanAt H'') qs x.plans := fun {H' H'' fs qs} k h pr => pr_mono (fun _ _ y => y.kpo (by rw [h]; intro xs z; cases z) (by rw [h]; intro xs z; cases z) k) pr
    have gd6 := nI k5 hp4 gd4 (by intro fs z; cases z)
    have gt6 := nI k5 hp4 gt4 (by intro fs z; cases z)
    have gp6 := nI k5 hp4 gp4 (by intro fs z; cases z)
    have pr6 := pI k5 hp4 pr4
    have k06 := k04.trans k5
    -- the ranks
    refine ⟨fun σ' H' => ∃ lr, σ' = wst p r lpl rk x.jolt ln ∧ Kp p H6 H' ∧ H' p = some (.ins C dx (putF "ranks" (.ref lr) (putF "marks" (.ref lm) (putF "plans" (.ref lp) (putF "numbers" (.ref tn) (putF "seats" (.ref ds) [])))))) ∧ H' lr = some (.lst (x.ords.map V.int)), ?_, ?_⟩
    · rcases hrk with ⟨rfl, hz⟩ | ⟨lr, rfl, hlr⟩
      · refine ⟨_, rfl, rfl, _, rfl, iteT' (by rfl) ⟨_, rfl, lpl, rfl, ⟨_, SqL.of (k06 _ _ hpl nlp)⟩, fun D hD => ?_⟩⟩
        refine lc_list (K := K) (a := lpl) (xs := ps.map V.ref) (fun j H' => Same H6 H' ∧ H' D = some (.lst ((List.replicate j (0 : Int)).map V.int))) ⟨sameNew hD, upd_same⟩ ?_ ?_ ?_
        · rintro j H' _ ⟨sj, _⟩
          exact SqL.of (sj _ _ (k06 _ _ hpl nlp))
        · rintro j v H' hi ⟨sj, gj⟩
          refine ⟨rfl, ?_⟩
          dsimp only [tYes]
          have lj := (List.getElem?_eq_some_iff.mp hi).1
          rw [List.length_map, pr_len hpr] at lj
          have hp8 := hok.p8
          refine iteT ⟨_, gj, by rw [List.length_map, List.length_replicate]; omega, fun b o e => by rw [upd_ne (ne_of_none e hD)]; exact sj b o e, ?_⟩
          rw [upd_same, List.replicate_succ', List.map_append]; rfl
        · rintro H' ⟨sj, gj⟩
          rw [List.length_map, pr_len hpr, ← hz] at gj
          have hp' := sj _ _ hp6
          refine ⟨_, rfl, p, C, dx, _, rfl, hp', T.cl, T.ranks, lt l4 (by decide), D, rfl, fun b o e hb => ?_, upd_same, ?_⟩
          · rw [upd_ne hb]; exact sj _ _ e
          · rw [upd_ne (ne_of gj hp' (by intro z; cases z))]; exact gj
      · refine ⟨_, rfl, rfl, _, rfl, iteF' (by rfl) ⟨_, rfl, lr, _, rfl, .inl (SqL.of (k06 _ _ hlr (ne_of hlr hp (by intro z; cases z)))), fun D hD => ?_⟩⟩
        have sD := sameNew (o := .lst (x.ords.map V.int)) hD
        have hp' := sD _ _ hp6
        refine ⟨_, rfl, p, C, dx, _, rfl, hp', T.cl, T.ranks, lt l4 (by decide), D, rfl, fun b o e hb => ?_, upd_same, ?_⟩
        · rw [upd_ne hb]; exact sD _ _ e
        · have e : (upd H6 D (.lst (x.ords.map V.int))) D = some (.lst (x.ords.map V.int)) := upd_same
          rw [upd_ne (ne_of e hp' (by intro z; cases z))]; exact e
    rintro _ H7 ⟨lr, rfl, k7, hp7, gr7⟩
    have l5 := few_put (f := "ranks") (v := .ref lr) l4
    have gd7 := nI k7 hp6 gd6 (by intro fs z; cases z)
    have gt7 := nI k7 hp6 gt6 (by intro fs z; cases z)
    have gp7 := nI k7 hp6 gp6 (by intro fs z; cases z)
    have gm7 := nI k7 hp6 gm6 (by intro fs z; cases z)
    have pr7 := pI k7 hp6 pr6
    have k07 := k06.trans k7
    -- nudges
    refine ⟨_, rfl, _, rfl, p, C, dx, _, rfl, hp7, T.cl, T.nudges, lt l5 (by decide), ?_⟩
    rw [wf_made]
    have k8 : Kp p H7 (upd H7 p (.ins C dx (wf ds tn lp lm lr x.jolt))) := fun b o e hb => by rw [upd_ne hb]; exact e
    have hp8 : (upd H7 p (.ins C dx (wf ds tn lp lm lr x.jolt))) p = some (.ins C dx (wf ds tn lp lm lr x.jolt)) := upd_same
    generalize upd H7 p (.ins C dx (wf ds tn lp lm lr x.jolt)) = H8 at k8 hp8
    have W8 : WO C H8 p x := ⟨dx, ds, tn, lp, lm, lr, qs, hp8, nI k8 hp7 gd7 (by intro fs z; cases z), nI k8 hp7 gt7 (by intro fs z; cases z), nI k8 hp7 gp7 (by intro fs z; cases z), pI k8 hp7 pr7, nI k8 hp7 gm7 (by intro fs z; cases z), nI k8 hp7 gr7 (by intro fs z; cases z)⟩
    have k08 := k07.trans k8
    have nPg : Pg ≠ p := fun z => by
      obtain ⟨t, ht⟩ := hL.tbl
      rw [z, hp] at ht; cases ht
    have L8 : LG H8 Pg := hL.keep fun b o e h => k08 _ _ e fun z => by
      rw [z, hp] at e; cases e
      rcases h with ⟨_, z⟩ | ⟨_, z⟩ <;> cases z
    refine ⟨_, rfl, p, dx, _, rfl, hp8, wf_check_plans_no, p, x, ah, rm, rfl, W8, hok, L8, fun H9 k9 hl9 => ?_⟩
    exact q H9 (fun b o e h1 h2 => k9 _ _ (k08 _ _ e h1) h2) hl9 (W8.kp L8.tbl k9)
end
end Wo

set_option Elab.async false
set_option maxRecDepth 100000
set_option linter.all false
set_option maxHeartbeats 8000000
namespace Wo
open PySem L2 TL Rl Tb Wf Dc
/-! ### whole numbers as data -/
theorem dp_ints {K : PySem.W.Frag} {H : Hp} : ∀ ns : List Int, DpAll K H (ns.map V.int) (ns.map PyData.int)
  | [] => .nil
  | n :: r => .cons (.int n) (dp_ints r)
theorem lay_ints : ∀ ns : List Int, PyData.canLayAll0 (ns.map PyData.int) = true ∧ PyData.depthAll (ns.map PyData.int) ≤ 1
  | [] => ⟨rfl, by simp [PyData.depthAll]⟩
  | n :: r => by
    obtain ⟨a, b⟩ := lay_ints r
    refine ⟨?_, ?_⟩
    · show (PyData.canLay0 (.int n) && PyData.canLayAll0 (r.map PyData.int)) = true
      rw [a]; rfl
    · show max (PyData.depth (.int n)) (PyData.depthAll (r.map PyData.int)) ≤ 1
      exact Nat.max_le.mpr ⟨(by simp [PyData.depth]), b⟩
theorem shaped_ints (ns : List Int) : SeqAt.shaped (.list (ns.map PyData.int)) = true := by
  obtain ⟨a, b⟩ := lay_ints ns
  show (PyData.canLayAll0 (ns.map PyData.int) && decide (PyData.depthAll (ns.map PyData.int) + 1 ≤ 64)) = true
  rw [a, decide_eq_true (by omega)]; rfl
theorem eqv_ints (ns ms : List Int) : PyData.eqv (.list (ns.map PyData.int)) (.list (ms.map PyData.int)) = decide (ns = ms) := PySem.W.ked_eqvAll ns ms
def spMade (C Pg : Addr) : Sp := fun vs H Q _ => ∃ (dR tw : Addr) (x : Wrld) (ah : Bool) (rm : List (Str × Int)), vs = [.ref dR, .ref tw] ∧ H dR = some (rmO rm) ∧ WAt H tw x ∧ x.ok ah rm ∧ LG H Pg ∧ ∀ o H', Kp Pg H H' → LG H' Pg → WO C H' o x → Q (.ref o) H'
section
variable {P : Program} {w : World} {K : PySem.W.Frag} {mg : Str → Option Value} {base : Heap}
theorem scLMade : FnScope ["_law_rooms", "_law_world_here", "_law_plans", "_law_plan"] ["_law_rooms", "_law_world_here"] (defScope sLMade) := ⟨rfl, rfl, rfl, by decide +kernel, rfl, by decide +kernel, by decide +kernel⟩
theorem ok_made {f C fI Pg : Addr} {fd fdI : FuncData} (F : Fun K "_law_made" "_law_made" sLMade f fd) (G : Glb mg)
    (GI : FnOk P w K mg base CX0 6 fI fdI ["self", "rooms", "plans", "marks", "ranks", "nudges"] (spWInit C Pg)) (MkW : Mk K C fI) (mgC : mg "World" = some (.ref C)) (bI0 : Binds K fdI ["self", "rooms", "plans", "marks", "ranks", "nudges"] [.none, .none, .bool false])
    (bI1 : KBinds K fdI ["self", "rooms", "plans", "marks", "ranks", "nudges"] ["ranks", "nudges"] (gP 3 2 [Value.none] [0, 1, 2, 3, 4, 5]) (gP 3 2 [V.non] [0, 1, 2, 3, 4, 5])) : FnOk P w K mg base CX0 8 f fd ["_law_rooms", "_law_world_here"] (spMade C Pg) := by
  refine F.ok scLMade (fun vs H Q E h => ?_) (fun cdv A outer s H vs Q E hr h => ?_)
  · obtain ⟨dR, tw, x, ah, rm, rfl, _⟩ := h
    rfl
  · obtain ⟨dR, tw, x, ah, rm, rfl, hdR, hW, hok, hL, q⟩ := h
    have hr7 : Room 7 _ := hr
    have zz : 300 < sizeLine := by rw [sizeLine_eq]; decide
    have hp8 := hok.p8
    have hol := hok.ol
    refine ⟨_, (pss_cut (ps_setLc (i := 2) (own := [("_law_plan", 3)]) (g := (gName 3)) (by rfl) scLMade.nd rfl rfl (sw_true rfl rfl rfl (by decide +kernel)) (pi_list (pe_ix ix_tup (pv 1) pe_int (fun _ _ => rfl))) (blkOk_by (own := [("_law_plan", 3)]) (N := ["_law_rooms", "_law_world_here", "_law_plans", "_law_plan"]) (sc := defScope sLMade) (by decide +kernel)) (fun _ _ _ _ _ => (pg_name (i := 3) scLMade.nd rfl (Or.inl rfl))) (fun _ _ _ _ _ => pts_nil) (fun _ _ _ _ _ => (pe_callTy (call_list_ofK (K := K) rfl) (by rfl) G.list (by decide +kernel) (pa_cons (pv 3) pa_nil))))
      (pss_cut (ps_if (PW.pt (pw_and (pt_cmpR (op_eqD hr.units) (pe_ix ix_tup (pv 1) pe_int (fun _ _ => rfl)) (pe_op op_rep (pe_lst (pa_cons pe_int pa_nil)) (pe_callB call_len_seq (by rfl) G.len PySem.boot_len (pa_cons (pe_ix ix_tup (pv 1) pe_int (fun _ _ => rfl)) pa_nil))) (nomark _)) (pw_and1 (pt_not (pt_val (pe_ix ix_tup (pv 1) pe_int (fun _ _ => rfl))))))) (pss_one (ps_ret (pe_make (dvs := [V.non, V.non, V.bl false]) MkW GI hr7 (by rfl) mgC bI0 (.cons rfl (.cons rfl (.cons rfl .nil))) pass0 (pa_cons (pe_callTy call_dictD (by rfl) G.dict (by decide +kernel) (pa_cons (pv 0) pa_nil)) (pa_cons (pv 2) pa_nil))))) pss_nil)
      (pss_one (ps_ret (pe_makeK MkW GI hr7 (by rfl) mgC bI1 pass0 (pa_cons (pe_callTy call_dictD (by rfl) G.dict (by decide +kernel) (pa_cons (pv 0) pa_nil)) (pa_cons (pv 2) pa_nil)) (pk_cons (pe_callTy call_list_of (by rfl) G.list (by decide +kernel) (pa_cons (pe_ix ix_tup (pv 1) pe_int (fun _ _ => rfl)) pa_nil)) (pk_cons (pe_ix ix_tup (pv 1) pe_int (fun _ _ => rfl)) pk_nil))))))), ?_⟩
    have hW0 := hW
    obtain ⟨ln, lv, lp, lo, ps, ht, hln, hlv, hlp, hpl, hlo⟩ := hW
    -- the plans
    refine ⟨fun σ' H' => ∃ (lc : Addr) (qs : List Addr), σ' = [some (.ref dR), some (.ref tw), some (.ref lc), none] ∧ Same H H' ∧ H' lc = some (.lst (qs.map V.ref)) ∧ Paired (PlanAt H') qs x.plans, ?_, ?_⟩
    · refine ⟨_, rfl, tw, _, _, _, rfl, rfl, SqT.of ht, atI_nat (j := 2) rfl, lp, rfl, ⟨_, SqL.of hlp⟩, fun D hD => ?_⟩
      refine lc_list (K := K) (a := lp) (xs := ps.map V.ref) (fun j H' => ∃ qs : List Addr, Same H H' ∧ H' D = some (.lst (qs.map V.ref)) ∧ Paired (PlanAt H') qs (x.plans.take j) ∧ ∀ z ∈ qs, z ≠ D) ⟨[], sameNew hD, upd_same, .nil, fun _ z => nomatch z⟩ ?_ ?_ ?_
      · rintro j H' _ ⟨qs, sj, _⟩
        exact SqL.of (sj _ _ hlp)
      · rintro j v H' hi ⟨qs, sj, gj, pj, nj⟩
        obtain ⟨q0, rfl, hq0⟩ := ref_at hi
        obtain ⟨pl, hpi, as, hqa, hpas⟩ := pr_get hpl hq0
        refine ⟨rfl, ?_⟩
        dsimp only [tYes]
        refine iteT ⟨_, rfl, q0, _, rfl, .inl (SqL.of (sj _ _ hqa)), fun l hl => ?_⟩
        have sl := sameNew (o := .lst (as.map V.ref)) hl
        have nDl : D ≠ l := ne_of_none gj hl
        have lq := pr_len pj
        rw [List.length_take] at lq
        refine ⟨_, sl _ _ gj, by rw [List.length_map]; omega, qs ++ [l], fun b o e => ?_, by rw [upd_same, List.map_append]; rfl, ?_, fun z hz => ?_⟩
        · rw [upd_ne (ne_of_none e hD)]; exact sl _ _ (sj b o e)
        · rw [List.take_succ, hpi]
          have chD : ∀ {q1 : Addr} {rs : List Rw}, PlanAt (upd H' l (.lst (as.map V.ref))) q1 rs → q1 ≠ D → PlanAt (upd (upd H' l (.lst (as.map V.ref))) D (.lst (qs.map V.ref ++ [V.ref l]))) q1 rs := fun h n => h.chg (sl _ _ gj) (fun b o e hb => by rw [upd_ne hb]; exact e) n
          exact pr_add (pr_mono (fun q1 rs h => chD (h.1.same sl) (nj _ h.2)) (pr_memL pj)) (chD ⟨as, upd_same, pr_mono (fun _ _ h => sl _ _ (sj _ _ h)) hpas⟩ nDl.symm)
        · rcases List.mem_append.mp hz with hz | hz
          · exact nj z hz
          · rw [List.mem_singleton.mp hz]; exact nDl.symm
      · rintro H' ⟨qs, sj, gj, pj, nj⟩
        rw [List.length_map, pr_len hpl, List.take_length] at pj
        exact ⟨D, qs, rfl, sj, gj, pj⟩
    rintro _ H1 ⟨lc, qs, rfl, s1, gc, pq⟩
    have ht1 := s1 _ _ ht
    have hlo1 := s1 _ _ hlo
    have L1 := hL.same s1
    refine ⟨fun σ' H' => σ' = [some (.ref dR), some (.ref tw), some (.ref lc), none] ∧ Same H1 H', ?_, ?_⟩
    · refine ⟨_, rfl, tw, _, _, _, rfl, rfl, SqT.of ht1, atI_nat (j := 3) rfl, by show 1 ≤ sizeLine; omega, fun l1 hl1 => ?_⟩
      have s2 := sameNew (o := .lst [.int 0]) hl1
      have g2 : (upd H1 l1 (.lst [.int 0])) l1 = some (.lst [.int 0]) := upd_same
      generalize upd H1 l1 (.lst [.int 0]) = H2 at s2 g2
      refine ⟨_, rfl, tw, _, _, _, rfl, rfl, SqT.of (s2 _ _ ht1), atI_nat (j := 3) rfl, lo, _, rfl, .inl (SqL.of (s2 _ _ hlo1)), l1, _, _, rfl, rfl, g2, by rw [List.length_map]; omega, by rw [List.length_map]; omega, by rw [List.length_map]; show 1 * _ ≤ _; omega, fun l3 hl3 => ?_⟩
      have er : (List.replicate (((x.ords.map V.int).length : Int)).toNat [V.int 0]).flatten = (List.replicate x.plans.length (0 : Int)).map V.int := by
        rw [List.length_map, hol, Int.toNat_natCast, List.map_replicate]
        induction x.plans.length with
        | zero => rfl
        | succ n ih => rw [List.replicate_succ, List.flatten_cons, ih]; rfl
      rw [er]
      have s3 := s2.trans (sameNew (o := .lst ((List.replicate x.plans.length (0 : Int)).map V.int)) hl3)
      have g3 : (upd H2 l3 (.lst ((List.replicate x.plans.length (0 : Int)).map V.int))) l3 = some (.lst ((List.replicate x.plans.length (0 : Int)).map V.int)) := upd_same
      generalize upd H2 l3 (.lst ((List.replicate x.plans.length (0 : Int)).map V.int)) = H3 at s3 g3
      refine ⟨_, _, .lst (SqL.of (s3 _ _ hlo1)) (dp_ints x.ords), .lst (SqL.of g3) (dp_ints _), shaped_ints _, shaped_ints _, _, rfl, ?_⟩
      rw [eqv_ints]
      by_cases hz : x.ords = List.replicate x.plans.length 0
      · refine iteT' (decide_eq_true hz) ⟨_, rfl, tw, _, _, _, rfl, rfl, SqT.of (s3 _ _ ht1), atI_nat (j := 4) rfl, _, rfl, ?_⟩
        cases hj : x.jolt with
        | true => exact iteF ⟨rfl, s3⟩
        | false =>
          refine iteT ⟨_, rfl, dR, _, rfl, s3 _ _ (s1 _ _ hdR), fun d2 hd2 => ⟨_, rfl, fun o dx ho hdx nx => ?_⟩⟩
          have s4 := s3.trans (sameNew (o := rmO rm) hd2)
          have g4 : (upd H3 d2 (rmO rm)) d2 = some (rmO rm) := upd_same
          generalize upd H3 d2 (rmO rm) = H4 at s4 g4 ho hdx
          have s5 : Same H4 (upd (upd H4 dx (.own o)) o (.ins C dx [])) := fun b u e => by rw [upd_ne (ne_of_none e ho), upd_ne (ne_of_none e hdx)]; exact e
          refine ⟨o, d2, lc, dx, .non, x, ah, rm, qs, by rw [hj]; rfl, upd_same, s5 _ _ g4, s5 _ _ (s4 _ _ gc), pr_mono (fun _ _ h => h.same (s4.trans s5)) pq, hok, .inl ⟨rfl, hz⟩, L1.same (s4.trans s5), fun H6 k6 l6 w6 => ⟨rfl, ?_⟩⟩
          exact q o H6 (fun b u e n => k6 _ _ (s5 _ _ (s4 _ _ (s1 _ _ e))) (fun z => by rw [z] at e; have := s4 _ _ (s1 _ _ e); rw [ho] at this; cases this) n) l6 w6
      · exact iteF' (decide_eq_false hz) (iteF ⟨rfl, s3⟩)
    rintro _ H2 ⟨rfl, s2⟩
    have ht2 := s2 _ _ ht1
    refine ⟨_, rfl, dR, _, rfl, s2 _ _ (s1 _ _ hdR), fun d2 hd2 => ⟨_, rfl, _, rfl, tw, _, _, _, rfl, rfl, SqT.of (sameNew hd2 _ _ ht2), atI_nat (j := 3) rfl, lo, _, rfl, .inl (SqL.of (sameNew hd2 _ _ (s2 _ _ hlo1))), fun lr hlr => ?_⟩⟩
    have s3 := sameNew (o := rmO rm) hd2
    have g3 : (upd H2 d2 (rmO rm)) d2 = some (rmO rm) := upd_same
    generalize upd H2 d2 (rmO rm) = H3 at s3 g3 hlr
    have s4 := s3.trans (sameNew (o := .lst (x.ords.map V.int)) hlr)
    have s34 := sameNew (o := .lst (x.ords.map V.int)) hlr
    have g4 : (upd H3 lr (.lst (x.ords.map V.int))) lr = some (.lst (x.ords.map V.int)) := upd_same
    generalize upd H3 lr (.lst (x.ords.map V.int)) = H4 at s4 s34 g4
    refine ⟨_, rfl, tw, _, _, _, rfl, rfl, SqT.of (s4 _ _ ht2), atI_nat (j := 4) rfl, fun o dx ho hdx nx => ?_⟩
    have s5 : Same H4 (upd (upd H4 dx (.own o)) o (.ins C dx [])) := fun b u e => by rw [upd_ne (ne_of_none e ho), upd_ne (ne_of_none e hdx)]; exact e
    refine ⟨o, d2, lc, dx, .ref lr, x, ah, rm, qs, rfl, upd_same, s5 _ _ (s34 _ _ g3), s5 _ _ (s4 _ _ (s2 _ _ gc)), pr_mono (fun _ _ h => h.same (s2.trans (s4.trans s5))) pq, hok, .inr ⟨lr, rfl, s5 _ _ g4⟩, L1.same (s2.trans (s4.trans s5)), fun H6 k6 l6 w6 => ⟨rfl, ?_⟩⟩
    exact q o H6 (fun b u e n => k6 _ _ (s5 _ _ (s4 _ _ (s2 _ _ (s1 _ _ e)))) (fun z => by rw [z] at e; have := s4 _ _ (s2 _ _ (s1 _ _ e)); rw [ho] at this; cases this) n) l6 w6
end
end Wo

set_option Elab.async false
set_option maxRecDepth 100000
set_option linter.all false
set_option maxHeartbeats 4000000
namespace HT
open PySem PySem.Spec PyProof.Rows
section
variable {prog : Program} {w : World} {A : Around} {E : Value → Shared → Prop} {s : Shared}
theorem getItem_tuple_whole {t sl : Addr} {items : Array Value} {vl vu : Value} {lo hi : Option Int} {Q : Value → Shared → Prop} (ht : IsTup s.heap t items) (hs : s.heap.IsSliceOf sl vl vu .none) (pl : IsPart vl lo) (pu : IsPart vu hi)
    (hw : sIx items.size 0 lo = 0 ∧ sIx items.size items.size hi = items.size)
    (h : Q (.ref t) s)
    (hsz : items.size ≤ sizeLine) : wpAny (model prog w) A (getItem (.ref t) (.ref sl)) Q E s := by
  have hj : sIx items.size items.size hi ≤ items.size := sIx_le _ _ (Nat.le_refl _) hi
  obtain ⟨os, hos, hcs, hds⟩ := id hs
  have hTs : s.TypeIs (.ref sl) "slice" := ⟨os, hos, hcs⟩
  unfold getItem
  try with_reducible refine wpAny_holding ?_
  first | refine wpAny_bind (wpAny_pure ?_) | skip
  refine wpAny_bind (wpAny_sequenceKey ht.typeIs (by decide) ?_)
  refine wpAny_bind (wpAny_callSpecial?_slot (name := Str.ofString "__getitem__") ht.typeIs PyProof.Rows.slot_tuple_getitem
    (wpAny_call_entry PyProof.Rows.slot_tuple_getitem ht.typeIs entry_tuple_getitem ?_ (args_tuple_getitem _ _)))
  show wpAny _ _ (Builtin.Tuple.tupleItemsOf (.ref t) >>= _) _ _ s
  refine wpAny_bind (tupleItemsOf_ ht ?_)
  refine wpAny_bind (wpAny_typeOf hTs ?_)
  rw [if_pos (by decide)]
  refine wpAny_bind (sliceApplied_gen hs pl pu ?_)
  have hyes : ((((sIx items.size 0 lo : Nat) : Int) == 0 && (1 : Int) == 1 && (sIx items.size items.size hi - sIx items.size 0 lo) == items.size) = true) := by
    rw [hw.1, hw.2, Nat.sub_zero]
    simp
  show wpAny _ _ (if (((sIx items.size 0 lo : Nat) : Int) == 0 && (1 : Int) == 1 && (sIx items.size items.size hi - sIx items.size 0 lo) == items.size) = true then _ else _) _ _ s
  rw [if_pos hyes]
  unfold Builtin.Tuple.tupleIsExact
  refine wpAny_bind (wpAny_bind (wpAny_typeOf ht.typeIs (wpAny_pure ?_)))
  rw [if_pos (by decide)]
  exact wpAny_bind (wpAny_rule (wpAny_pure ⟨_, rfl, wpAny_pure h⟩))
/-- t + u, t empty -/
theorem cat_tup0 {t b : Addr} {vs ws : List Value} {Q : Value → Shared → Prop} (ht : IsTup s.heap t vs.toArray) (hb : IsTup s.heap b ws.toArray) (hv : vs = []) (h1 : Q (.ref b) s) : wpAny (model prog w) A (binaryOp .Add (.ref t) (.ref b)) Q E s := by
  obtain ⟨⟨cls, dd, data, sl⟩, ho, hc, n, hd⟩ := id ht
  obtain ⟨⟨cls2, dd2, data2, sl2⟩, ho2, hc2, n2, hd2⟩ := id hb
  simp only at hc hd hc2 hd2
  subst hc hd hc2 hd2
  exact concat_meets ⟨_, ho, rfl⟩ ⟨_, ho2, rfl⟩ noFill_tuple_add seq_tuple_add PySem.F.slot_tuple_add PySem.F.entry_tuple_add (PySem.F.args_tuple_add_2 _ _)
    (tuple_addW0 t b vs.toArray ws.toArray n n2 dd dd2 sl sl2 (by simp [hv])) ⟨ho, ho2, h1⟩
end
end HT
namespace Tb
open PySem PySem.Spec PyProof.Rows L2
/-- some tuple that holds ys: an old one or a new one -/
def tupR (K : PySem.W.Frag) (ys : List V) (H : Hp) (Q : VK) : Prop := ∀ p H', Same H H' → SqT K H' p ys → Q (.ref p) H'
theorem same_upd {H : Hp} {a : Addr} {o : HO} (h : H a = none) : Same H (upd H a o) := fun b u e => by rw [upd_ne (ne_of_none e h)]; exact e
theorem tupR.old {K : PySem.W.Frag} {ys : List V} {H : Hp} {Q : VK} {a : Addr} (t : tupR K ys H Q) (h : SqT K H a ys) : Q (.ref a) H := t a H (Same.refl H) h
theorem tupR.new {K : PySem.W.Frag} {ys : List V} {H : Hp} {Q : VK} {p : Addr} (t : tupR K ys H Q) (h : H p = none) : Q (.ref p) (upd H p (.tup ys)) := t p _ (same_upd h) (SqT.of upd_same)
section
variable {X : Cx}
/-- t[a:b], the whole or not -/
def rSlA (K : PySem.W.Frag) : V → Option Int → Option Int → Hp → VK → Prop := fun x lo hi H Q => ∃ a xs, x = .ref a ∧ SqT K H a xs ∧ tupR K (cutV xs lo hi) H Q
theorem sl_tupA : SlR X (rSlA X.K) := by
  intro pins s σ H x v vl vu lo hi sl Q I rx hs pl pu h
  obtain ⟨a, xs, rfl, hx, q⟩ := h
  by_cases hw : HT.sIx xs.length 0 lo = 0 ∧ HT.sIx xs.length xs.length hi = xs.length
  · cases rx
    obtain ⟨its, r, ht, hz⟩ := I.tuple hx
    have hlen : its.toArray.size = xs.length := by rw [List.size_toArray]; exact r.length.symm
    refine ⟨"tuple", _, PyProof.Rows.slot_tuple_getitem.lookup, ht.typeIs, ?_⟩
    have e : cutV xs lo hi = xs := by
      unfold cutV
      rw [hw.1, hw.2, List.drop_zero, Nat.sub_zero, List.take_length]
    rw [e] at q
    exact HT.getItem_tuple_whole ht hs pl pu (by rw [hlen]; exact hw) ⟨.ref a, H, I, rfl, q.old hx⟩ (by rw [hlen]; exact hz)
  · exact sl_tup pins s σ H (.ref a) v vl vu lo hi sl Q I rx hs pl pu ⟨a, xs, rfl, hx, hw, fun p hp => q.new hp⟩
/-- t + u -/
def rCatA (K : PySem.W.Frag) : R2 := fun x y H Q => ∃ a b xs ys, x = .ref a ∧ y = .ref b ∧ SqT K H a xs ∧ SqT K H b ys ∧ xs.length + ys.length ≤ sizeLine ∧ tupR K (xs ++ ys) H Q
theorem op_catA : OpR X (binaryOp .Add) (rCatA X.K) := by
  intro pins s σ H x y v u Q I rx ry h
  obtain ⟨a, b, xs, ys, rfl, rfl, ha, hb, hz, q⟩ := h
  by_cases hx : xs = []
  · subst hx
    cases rx
    cases ry
    obtain ⟨its, r1, p1, _⟩ := I.tuple ha
    obtain ⟨its2, r2, p2, _⟩ := I.tuple hb
    exact HT.cat_tup0 p1 p2 (r1.nil_iff.mpr rfl) ⟨.ref b, H, I, rfl, q.old hb⟩
  · refine op_catT pins s σ H (.ref a) (.ref b) v u Q I rx ry ⟨a, b, xs, ys, rfl, rfl, ha, hb, hx, hz, fun e => ?_, fun e p hp => q.new hp⟩
    subst e
    rw [List.append_nil] at q
    exact q.old ha
end
end Tb
namespace Rl
open PySem PySem.Spec L2
section
variable {X : Cx}
/-- xs != [] -/
theorem op_neNil (hu : X.A.units < cLine) : OpR X (compareOp .NotEq) (fun x y H Q => ∃ a b xs, x = .ref a ∧ y = .ref b ∧ SqL X.K H a xs ∧ SqL X.K H b [] ∧ Q (.bl (!xs.isEmpty)) H) := by
  intro pins s σ H x y v u Q I rx ry h
  obtain ⟨a, b, xs, rfl, rfl, ha, hb, q⟩ := h
  cases rx
  cases ry
  obtain ⟨its, rv, pl, _⟩ := I.list ha
  obtain ⟨its', rv', pl', _⟩ := I.list hb
  cases rv'
  cases xs with
  | nil =>
    cases rv
    refine SeqAt.RcNeAt.lists (e := fun _ => true) pl.isList pl'.isList rfl hu (fun j h1 _ => absurd h1 (Nat.not_lt_zero j)) X.prog X.w _ _ ?_
    exact ⟨.bl false, H, I, rfl, q⟩
  | cons x r =>
    cases rv
    refine SeqAt.RcNeAt.lists_lengths pl.isList pl'.isList (by simp) hu X.prog X.w _ _ ?_
    exact ⟨.bl true, H, I, rfl, q⟩
end
end Rl

set_option Elab.async false
set_option maxRecDepth 100000
set_option linter.all false
set_option maxHeartbeats 8000000
namespace Wo
open PySem L2 TL Rl Tb Wf Dc
/-! ### tuples changed at a place, lines joined -/
def spWith (K : PySem.W.Frag) : Sp := fun vs H Q _ => ∃ (a : Addr) (i : Nat) (v : V) (xs : List V), vs = [.ref a, .int (i : Int), v] ∧ SqT K H a xs ∧ i < xs.length ∧ xs.length ≤ 1000 ∧ tupR K (xs.set i v) H Q
def lainAt (o : List Int) (og : Int) (gs : List Int) : Nat → Nat
  | 0 => 0
  | k + 1 => if o.getD (gs.getD k 0).toNat 0 < og then lainAt o og gs k else k + 1
def lain (o : List Int) (g : Int) (gs : List Int) : List Int := gs.take (lainAt o (o.getD g.toNat 0) gs gs.length) ++ g :: gs.drop (lainAt o (o.getD g.toNat 0) gs gs.length)
theorem lainAt_le (o : List Int) (og : Int) (gs : List Int) : ∀ k, lainAt o og gs k ≤ k
  | 0 => Nat.le_refl _
  | k + 1 => by
    unfold lainAt
    split
    · exact Nat.le_trans (lainAt_le o og gs k) (Nat.le_succ _)
    · exact Nat.le_refl _
theorem lain_perm (o : List Int) (g : Int) (gs : List Int) : (lain o g gs).Perm (g :: gs) := by
  unfold lain
  refine List.perm_middle.trans ?_
  rw [List.take_append_drop]
def spLain (K : PySem.W.Frag) : Sp := fun vs H Q _ => ∃ (a lo : Addr) (g : Int) (gs os : List Int), vs = [.ref a, .int g, .ref lo] ∧ SqT K H a (gs.map V.int) ∧ SqL K H lo (os.map V.int) ∧ gs.length ≤ 100 ∧ (∀ z ∈ g :: gs, 0 ≤ z ∧ z < os.length) ∧ tupR K ((lain os g gs).map V.int) H Q
theorem ord_at {os : List Int} {z : Int} (h : 0 ≤ z ∧ z < os.length) : atI (os.map V.int) z = some (.int (os.getD z.toNat 0)) := by
  obtain ⟨k, rfl⟩ := Int.eq_ofNat_of_zero_le h.1
  have hk : k < os.length := by omega
  refine atI_nat ?_
  rw [List.getElem?_map, List.getElem?_eq_getElem hk, List.getD_eq_getElem?_getD, Int.toNat_natCast, List.getElem?_eq_getElem hk]; rfl
theorem sqLS {K : PySem.W.Frag} {H H' : Hp} {a : Addr} {xs : List V} (s : Same H H') (h : SqL K H a xs) : SqL K H' a xs := Same.seq s h
theorem sqS {K : PySem.W.Frag} {H H' : Hp} {a : Addr} {xs : List V} (s : Same H H') (h : SqT K H a xs) : SqT K H' a xs := by
  rcases h with (h | ⟨u, h⟩) | h
  · exact .inl (.inl (s _ _ h))
  · exact .inl (.inr ⟨u, s _ _ h⟩)
  · exact .inr h
theorem cut_mid (xs : List V) (v : V) {i : Nat} (h : i < xs.length) : cutV xs none (some (i : Int)) ++ [v] ++ cutV xs (some ((i : Int) + 1)) none = xs.set i v := by
  rw [cutV_take (Nat.le_of_lt h), show ((i : Int) + 1) = ((i + 1 : Nat) : Int) by omega, cutV_drop h, List.append_assoc]
  exact (List.set_eq_take_append_cons_drop).symm ▸ by rw [if_pos h]; rfl
section
variable {P : Program} {w : World} {K : PySem.W.Frag} {mg : Str → Option Value} {base : Heap}
theorem scLWith : FnScope ["_law_items", "_law_at", "_law_value"] ["_law_items", "_law_at", "_law_value"] (defScope sLWith) := ⟨rfl, rfl, rfl, by decide +kernel, rfl, by decide +kernel, by decide +kernel⟩
theorem ok_with {f : Addr} {fd : FuncData} (F : Fun K "_law_with" "_law_with" sLWith f fd) : FnOk P w K mg base CX0 1 f fd ["_law_items", "_law_at", "_law_value"] (spWith K) := by
  refine F.ok scLWith (fun vs H Q E h => ?_) (fun cdv A outer s H vs Q E hr h => ?_)
  · obtain ⟨a, i, v, xs, rfl, _⟩ := h
    rfl
  · obtain ⟨a, i, v, xs, rfl, ha, hi, hl, q⟩ := h
    have zz : 3000 < sizeLine := by rw [sizeLine_eq]; decide
    refine ⟨_, (pss_one (ps_ret (pe_op op_catA (pe_op op_catA (pe_slice sl_tupA (pv 0) po_none (po_some (pv 1))) (pe_tup (pa_cons (pv 2) pa_nil))) (pe_slice sl_tupA (pv 0) (po_some (pe_op op_add (pv 1) pe_int)) po_none)))), ?_⟩
    refine ⟨_, rfl, _, rfl, _, rfl, a, xs, rfl, ha, fun p1 H1 s1 g1 => ⟨_, rfl, by show 1 ≤ sizeLine; omega, fun t ht => ?_⟩⟩
    have l1 : (cutV xs none (some (i : Int))).length ≤ xs.length := cutV_length _ _ _
    have s2 := s1.trans (sameNew (o := .tup [v]) ht)
    refine ⟨p1, t, _, [v], rfl, rfl, sqS (sameNew ht) g1, SqT.of upd_same, by rw [List.length_singleton]; omega, fun p2 H2 s3 g3 => ?_⟩
    refine ⟨_, rfl, _, rfl, _, _, rfl, rfl, _, rfl, a, xs, rfl, sqS (s2.trans s3) ha, fun p4 H4 s4 g4 => ?_⟩
    have l2 : (cutV xs (some ((i : Int) + 1)) none).length ≤ xs.length := cutV_length _ _ _
    refine ⟨p2, p4, _, _, rfl, rfl, sqS s4 g3, g4, by rw [List.length_append, List.length_singleton]; omega, fun p5 H5 s5 g5 => ?_⟩
    rw [cut_mid xs v hi] at g5
    exact q p5 H5 ((s2.trans s3).trans (s4.trans s5)) g5
theorem scLLain : FnScope ["_law_line", "_law_guest", "_law_orders", "_law_at"] ["_law_line", "_law_guest", "_law_orders"] (defScope sLLain) := ⟨rfl, rfl, rfl, by decide +kernel, rfl, by decide +kernel, by decide +kernel⟩
theorem ok_lain {f : Addr} {fd : FuncData} (F : Fun K "_law_lain" "_law_lain" sLLain f fd) (G : Glb mg) : FnOk P w K mg base CX0 1 f fd ["_law_line", "_law_guest", "_law_orders"] (spLain K) := by
  refine F.ok scLLain (fun vs H Q E h => ?_) (fun cdv A outer s H vs Q E hr h => ?_)
  · obtain ⟨a, lo, g, gs, os, rfl, _⟩ := h
    rfl
  · obtain ⟨a, lo, g, gs, os, rfl, ha, hlo, hl, hv, q⟩ := h
    have zz : 3000 < sizeLine := by rw [sizeLine_eq]; decide
    refine ⟨_, (pss_cons (ps_set (i := 3) scLLain.nd rfl (Or.inl rfl) (pe_callB call_len_seq (by rfl) G.len PySem.boot_len (pa_cons (pv 0) pa_nil)))
      (pss_cut (ps_while PassesOwn.never (PW.pt (pw_and (pt_cmpR op_gt (pv 3) pe_int (nomark _)) (pw_and1 (pt_cmpR op_lt (pe_ix ix_list (pv 2) (pe_ix ix_tup (pv 0) (pe_op op_sub (pv 3) pe_int) (fun _ _ => rfl)) (fun _ _ => rfl)) (pe_ix ix_list (pv 2) (pv 1) (fun _ _ => rfl)) (nomark _))))) (pss_one (ps_set (i := 3) scLLain.nd rfl (Or.inl rfl) (pe_op op_sub (pv 3) pe_int))))
      (pss_one (ps_ret (pe_op op_catA (pe_op op_catA (pe_slice sl_tupA (pv 0) po_none (po_some (pv 3))) (pe_tup (pa_cons (pv 1) pa_nil))) (pe_slice sl_tupA (pv 0) (po_some (pv 3)) po_none)))))), ?_⟩
    refine ⟨_, rfl, a, _, rfl, .inr ha, ?_⟩
    rw [List.length_map]
    refine ⟨fun σ' H' => σ' = [some (.ref a), some (.int g), some (.ref lo), some (.int ((lainAt os (os.getD g.toNat 0) gs gs.length : Nat) : Int))] ∧ H' = H, ?_, ?_⟩
    · refine ⟨fun m σ' H' => m ≤ gs.length ∧ σ' = [some (.ref a), some (.int g), some (.ref lo), some (.int (m : Int))] ∧ H' = H ∧ lainAt os (os.getD g.toNat 0) gs m = lainAt os (os.getD g.toNat 0) gs gs.length, ⟨gs.length, Nat.le_refl _, rfl, rfl, rfl⟩, ?_⟩
      rintro m _ H' ⟨hm, rfl, rfl, e⟩
      refine ⟨_, rfl, _, _, rfl, rfl, _, rfl, ?_⟩
      cases m with
      | zero => exact iteF' (by rfl) ⟨by rw [← e]; rfl, rfl⟩
      | succ k =>
        have hk : k < gs.length := hm
        have hgk : gs.getD k 0 = gs[k] := by rw [List.getD_eq_getElem?_getD, List.getElem?_eq_getElem hk]; rfl
        have hvk := hv _ (List.mem_cons_of_mem _ (List.getElem_mem hk))
        refine iteT' (decide_eq_true (by omega)) ⟨_, rfl, _, rfl, _, rfl, _, _, rfl, rfl, a, _, _, _, rfl, rfl, ha, (by rw [show ((k + 1 : Nat) : Int) - 1 = (k : Int) by omega]; exact atI_nat (by rw [List.getElem?_map, List.getElem?_eq_getElem hk]; rfl)), lo, _, _, _, rfl, rfl, hlo, ord_at hvk, _, rfl, _, rfl, lo, _, _, _, rfl, rfl, hlo, ord_at (hv _ (List.mem_cons_self ..)), _, _, rfl, rfl, _, rfl, ?_⟩
        have eL : lainAt os (os.getD g.toNat 0) gs (k + 1) = if os.getD (gs.getD k 0).toNat 0 < os.getD g.toNat 0 then lainAt os (os.getD g.toNat 0) gs k else k + 1 := rfl
        rw [hgk] at eL
        by_cases hlt : os.getD (gs[k]).toNat 0 < os.getD g.toNat 0
        · rw [if_pos hlt] at eL
          refine iteT' (decide_eq_true hlt) ⟨fun σ' H'' => σ' = [some (.ref a), some (.int g), some (.ref lo), some (.int (k : Int))] ∧ H'' = H', fun σ' H'' ⟨h1, h2⟩ => ⟨k, Nat.lt_succ_self _, Nat.le_of_lt hk, h1, h2, eL.symm.trans e⟩, _, rfl, _, _, rfl, rfl, ?_, rfl⟩
          show [some (V.ref a), some (V.int g), some (V.ref lo), some (V.int (((k + 1 : Nat) : Int) - 1))] = _
          rw [show ((k + 1 : Nat) : Int) - 1 = (k : Int) by omega]
        · rw [if_neg hlt] at eL
          exact iteF' (decide_eq_false hlt) ⟨by rw [← e, eL], rfl⟩
    rintro _ H ⟨rfl, rfl⟩
    have hle := lainAt_le os (os.getD g.toNat 0) gs gs.length
    refine ⟨_, rfl, _, rfl, _, rfl, a, _, rfl, ha, fun p1 H1 s1 g1 => ⟨_, rfl, by show 1 ≤ sizeLine; omega, fun t ht => ?_⟩⟩
    have l1 := cutV_length (gs.map V.int) none (some ((lainAt os (os.getD g.toNat 0) gs gs.length : Nat) : Int))
    rw [List.length_map] at l1
    have s2 := s1.trans (sameNew (o := .tup [.int g]) ht)
    refine ⟨p1, t, _, [.int g], rfl, rfl, sqS (sameNew ht) g1, SqT.of upd_same, by rw [List.length_singleton]; omega, fun p2 H2 s3 g3 => ?_⟩
    refine ⟨_, rfl, _, rfl, _, rfl, a, _, rfl, sqS (s2.trans s3) ha, fun p4 H4 s4 g4 => ?_⟩
    have l2 := cutV_length (gs.map V.int) (some ((lainAt os (os.getD g.toNat 0) gs gs.length : Nat) : Int)) none
    rw [List.length_map] at l2
    refine ⟨p2, p4, _, _, rfl, rfl, sqS s4 g3, g4, by rw [List.length_append, List.length_singleton]; omega, fun p5 H5 s5 g5 => ?_⟩
    rw [cutV_take (by rw [List.length_map]; exact hle), cutV_drop (by rw [List.length_map]; exact hle)] at g5
    refine q p5 H5 ((s2.trans s3).trans (s4.trans s5)) ?_
    have e : (lain os g gs).map V.int = (gs.map V.int).take (lainAt os (os.getD g.toNat 0) gs gs.length) ++ [V.int g] ++ (gs.map V.int).drop (lainAt os (os.getD g.toNat 0) gs gs.length) := by
      unfold lain
      rw [List.map_append, List.map_cons, List.map_take, List.map_drop, List.append_assoc]; rfl
    rw [e]; exact g5
end
end Wo

set_option Elab.async false
set_option maxRecDepth 100000
set_option linter.all false
set_option maxHeartbeats 8000000
namespace Wo
open PySem L2 TL Rl Tb Wf Dc
/-! ### states -/
def Rw.bed : Rw → Bool
  | .wait .. => true
  | .still .. => true
  | _ => false
structure Stt where
  nums : List Int
  places : List Int
  owns : List Int
  lines : List (List Int)
/-- the guest z lies at a bed of its plan -/
def BedAt (x : Wrld) (places : List Int) (z : Int) : Prop := ∃ (g : Nat) (pl : List Rw) (k : Nat) (r : Rw), z = (g : Int) ∧ x.plans[g]? = some pl ∧ places[g]? = some (k : Int) ∧ pl[k]? = some r ∧ r.bed = true
structure Stt.ok (S : Stt) (x : Wrld) : Prop where
  nl : S.nums.length = x.names.length
  pl : S.places.length = x.plans.length
  ol : S.owns.length = x.plans.length
  ll : S.lines.length = x.names.length
  pb : ∀ (g : Nat) (pl : List Rw) (p : Int), x.plans[g]? = some pl → S.places[g]? = some p → 0 ≤ p ∧ p ≤ pl.length
  nb : ∀ z ∈ S.nums, Nb z
  ob : ∀ z ∈ S.owns, Nb z
  nd : S.lines.flatten.Nodup
  bed : ∀ z ∈ S.lines.flatten, BedAt x S.places z
def LnAt (K : PySem.W.Frag) (H : Hp) (l : Addr) (g : List Int) : Prop := SqT K H l (g.map V.int)
def SAt (K : PySem.W.Frag) (H : Hp) (t : Addr) (S : Stt) : Prop := ∃ (a b c d : Addr) (ls : List Addr), SqT K H t [.ref a, .ref b, .ref c, .ref d] ∧ SqT K H a (S.nums.map V.int) ∧ SqT K H b (S.places.map V.int) ∧ SqT K H c (S.owns.map V.int) ∧ SqT K H d (ls.map V.ref) ∧ Paired (LnAt K H) ls S.lines
theorem SAt.same {K : PySem.W.Frag} {H H' : Hp} {t : Addr} {S : Stt} (s : Same H H') (h : SAt K H t S) : SAt K H' t S := let ⟨a, b, c, d, ls, h1, h2, h3, h4, h5, h6⟩ := h
  ⟨a, b, c, d, ls, sqS s h1, sqS s h2, sqS s h3, sqS s h4, sqS s h5, pr_mono (fun _ _ h => sqS s h) h6⟩
def bedsI (rs : List Rw) (k : Nat) : List Int := ((List.range k).filter fun j => (rs[j]?.map Rw.bed).getD false).map fun (j : Nat) => (j : Int)
theorem bedsI_add (rs : List Rw) (k : Nat) : bedsI rs (k + 1) = bedsI rs k ++ (if (rs[k]?.map Rw.bed).getD false = true then [(k : Int)] else []) := by
  unfold bedsI
  rw [List.range_succ, List.filter_append, List.map_append]
  congr 1
  cases h : (rs[k]?.map Rw.bed).getD false <;> simp [h]
theorem bedsI_len (rs : List Rw) (k : Nat) : (bedsI rs k).length ≤ k := by
  unfold bedsI
  rw [List.length_map]
  exact Nat.le_trans (List.length_filter_le _ _) (by rw [List.length_range]; exact Nat.le_refl _)
theorem bedsI_in {rs : List Rw} {k : Nat} {z : Int} (h : z ∈ bedsI rs k) : ∃ (j : Nat) (r : Rw), z = (j : Int) ∧ rs[j]? = some r ∧ r.bed = true := by
  unfold bedsI at h
  obtain ⟨j, hj, rfl⟩ := List.mem_map.mp h
  have := (List.mem_filter.mp hj).2
  cases e : rs[j]? with
  | none => rw [e] at this; cases this
  | some r => rw [e] at this; exact ⟨j, r, rfl, e, this⟩
theorem Rw.bed_wd (r : Rw) : r.bed = (decide (V.str r.wd = V.str "wait") || decide (V.str r.wd = V.str "still")) := by
  cases r <;> (unfold Rw.bed Rw.wd; simp only []; first | rfl | decide +kernel)
theorem flat_set {g : Int} : ∀ {ls : List (List Int)} {k : Nat} {l l' : List Int}, ls[k]? = some l → l'.Perm (g :: l) → (ls.set k l').flatten.Perm (g :: ls.flatten)
  | a :: r, 0, l, l', h, p => by
    cases h
    show (l' ++ r.flatten).Perm (g :: (a ++ r.flatten))
    exact p.append_right _
  | a :: r, k + 1, l, l', h, p => by
    show (a ++ (r.set k l').flatten).Perm (g :: (a ++ r.flatten))
    exact ((flat_set (k := k) h p).append_left a).trans List.perm_middle
theorem flat_rep : ∀ n : Nat, (List.replicate n ([] : List Int)).flatten = []
  | 0 => rfl
  | n + 1 => by rw [List.replicate_succ, List.flatten_cons, flat_rep n]; rfl
theorem pr_set {α β : Type} {R : α → β → Prop} : ∀ {xs : List α} {ys : List β} {k : Nat} {a : α} {b : β}, Paired R xs ys → R a b → Paired R (xs.set k a) (ys.set k b)
  | _, _, _, _, _, .nil, _ => .nil
  | _, _, 0, _, _, .cons r t, h => .cons h t
  | _, _, k + 1, _, _, .cons r t, h => .cons r (pr_set (k := k) t h)
theorem pr_rep {α β : Type} {R : α → β → Prop} {a : α} {b : β} (h : R a b) : ∀ n : Nat, Paired R (List.replicate n a) (List.replicate n b)
  | 0 => .nil
  | n + 1 => .cons h (pr_rep h n)
theorem seq_nat {n k : Nat} (h : k < n) : seqIndex? (k : Int) n = some k := (ixN_seq (by unfold ixN; rw [if_pos (by omega), if_pos (by omega), Int.toNat_natCast])).1
theorem erase_perm {α : Type} {l : List α} {k : Nat} {a : α} (h : l[k]? = some a) : l.Perm (a :: l.eraseIdx k) := by
  obtain ⟨hk, e⟩ := List.getElem?_eq_some_iff.mp h
  have h1 : l = l.take k ++ l[k] :: l.drop (k + 1) := by rw [List.getElem_cons_drop, List.take_append_drop]
  rw [List.eraseIdx_eq_take_drop_succ]
  conv => lhs; rw [h1, e]
  exact List.perm_middle
theorem inV_ints {z : Int} : ∀ {zs : List Int}, inV (.int z) (zs.map V.int) = decide (z ∈ zs)
  | [] => by simp [inV]
  | a :: r => by
    have ih := inV_ints (z := z) (zs := r)
    unfold inV at ih ⊢
    rw [List.map_cons, List.any_cons, ih]
    show ((a == z) || decide (z ∈ r)) = decide (z ∈ a :: r)
    by_cases e : a = z
    · subst e; simp
    · have : (a == z) = false := by simpa using e
      rw [this, Bool.false_or, decide_eq_decide]
      exact ⟨fun h => List.mem_cons_of_mem _ h, fun h => (List.mem_cons.mp h).resolve_left (Ne.symm e)⟩
theorem er_map {α β : Type} (f : α → β) : ∀ (xs : List α) (k : Nat), (xs.map f).eraseIdx k = (xs.eraseIdx k).map f
  | [], _ => rfl
  | _ :: _, 0 => rfl
  | a :: r, k + 1 => by rw [List.map_cons, List.eraseIdx_cons_succ, List.eraseIdx_cons_succ, List.map_cons, er_map f r k]
def notT : HO → Bool
  | .tup _ => false
  | .frz .. => false
  | _ => true
theorem sqCh {K : PySem.W.Frag} {H H' : Hp} {p a : Addr} {o : HO} {xs : List V} (hp : H p = some o) (n : notT o = true) (k : ∀ b u, H b = some u → b ≠ p → H' b = some u) (h : SqT K H a xs) : SqT K H' a xs := by
  rcases h with (h | ⟨u, h⟩) | h
  · exact .inl (.inl (k _ _ h (fun z => by rw [z, hp] at h; cases h; cases n)))
  · exact .inl (.inr ⟨u, k _ _ h (fun z => by rw [z, hp] at h; cases h; cases n)⟩)
  · exact .inr h
def spStateOf (K : PySem.W.Frag) : Sp := fun vs H Q _ => ∃ (p tw : Addr) (d c n : Int) (x : Wrld) (ah : Bool) (rm : List (Str × Int)) (H0 : Hp), vs = [.ref p, .ref tw] ∧ H p = some (srcO d c n) ∧ Sb d c n ∧ n ≤ 1000 ∧ WAt H0 tw x ∧ x.ok ah rm ∧ Same H0 H ∧ H0 p = none ∧
  ∀ (t : Addr) (S : Stt) (H' : Hp), S.ok x → (∀ b o, H b = some o → b ≠ p → H' b = some o) → SAt K H' t S → Q (.ref t) H'
section
variable {P : Program} {w : World} {K : PySem.W.Frag} {mg : Str → Option Value} {base : Heap}
theorem scLStateOf : FnScope ["_law_source_here", "_law_world_here", "_law_names_here", "_law_numbers", "_law_plans", "_law_orders", "_law_jolts", "_law_places", "_law_left", "_law_guest", "_law_plan", "_law_beds", "_law_at", "_law_row_here", "_law_place", "_law_lines", "_law_some", "_law_name"] ["_law_source_here", "_law_world_here"] (defScope sLStateOf) := ⟨rfl, rfl, rfl, by decide +kernel, rfl, by decide +kernel, by decide +kernel⟩
theorem ok_stateOf {f fD fN fW fL : Addr} {fd fdD fdN fdW fdL : FuncData} (F : Fun K "_law_state_of" "_law_state_of" sLStateOf f fd) (G : Glb mg) (GD : FnOk P w K mg base CX0 1 fD fdD ["_law_source_here", "_law_many"] spDraw) (mgD : mg "_law_draw" = some (.ref fD)) (kpD : PySem.W.keepIn K (.ref fD) = true) (bD : Binds K fdD ["_law_source_here", "_law_many"] [])
    (GN : FnOk P w K mg base CX0 2 fN fdN ["_law_source_here"] spNumber) (mgN : mg "_law_number" = some (.ref fN)) (kpN : PySem.W.keepIn K (.ref fN) = true) (bN : Binds K fdN ["_law_source_here"] [])
    (GW : FnOk P w K mg base CX0 1 fW fdW ["_law_items", "_law_at", "_law_value"] (spWith K)) (mgW : mg "_law_with" = some (.ref fW)) (kpW : PySem.W.keepIn K (.ref fW) = true) (bW : Binds K fdW ["_law_items", "_law_at", "_law_value"] [])
    (GL : FnOk P w K mg base CX0 1 fL fdL ["_law_line", "_law_guest", "_law_orders"] (spLain K)) (mgL : mg "_law_lain" = some (.ref fL)) (kpL : PySem.W.keepIn K (.ref fL) = true) (bL : Binds K fdL ["_law_line", "_law_guest", "_law_orders"] []) : FnOk P w K mg base CX0 3 f fd ["_law_source_here", "_law_world_here"] (spStateOf K) := by
  refine F.ok scLStateOf (fun vs H Q E h => ?_) (fun cdv A outer s H vs Q E hr h => ?_)
  · obtain ⟨p, tw, d, c, n, x, ah, rm, H0, rfl, _⟩ := h
    rfl
  · obtain ⟨p, tw, d, c, n, x, ah, rm, H0, rfl, hp, sb, hn, hW, hok, s0, f0, q⟩ := h
    have hu := hu_of hr
    have hr2 : Room 2 _ := hr
    have hr1 : Room 1 _ := hr.mono (by decide)
    have zz : 3000 < sizeLine := by rw [sizeLine_eq]; decide
    have sm : ∀ m : Int, 0 < m → m ≤ 1000 → m.natAbs.log2 < 9000 := fun m h0 h1 => log_small h0 (by omega)
    have hp8 := hok.p8
    have nl12 : x.names.length ≤ 12 := by rw [hok.perm.length_eq, List.length_map]; exact hok.r12
    have nl0 : 0 < x.names.length := by rw [hok.perm.length_eq, List.length_map]; exact hok.r0
    have PWpt := @PW.pt
    have pa_cons := @pa_cons
    have pa_nil := @pa_nil
    have pe_bm := @pe_bm
    have pe_call := @pe_call
    have pe_callB := @pe_callB
    have pe_callTy := @pe_callTy
    have pe_int := @pe_int
    have pe_ix := @pe_ix
    have pe_lc := @pe_lc
    have pe_lst := @pe_lst
    have pe_op := @pe_op
    have pe_str := @pe_str
    have pe_tup := @pe_tup
    have pg_name := @pg_name
    have pg_tup := @pg_tup
    have pgs_cons := @pgs_cons
    have pgs_nil := @pgs_nil
    have pi_enum := @pi_enum
    have pi_list := @pi_list
    have ps_asg := @ps_asg
    have ps_expr := @ps_expr
    have ps_for := @ps_for
    have ps_if := @ps_if
    have ps_ret := @ps_ret
    have ps_set := @ps_set
    have ps_setLc := @ps_setLc
    have ps_while := @ps_while
    have pss_cons := @pss_cons
    have pss_cut := @pss_cut
    have pss_nil := @pss_nil
    have pss_one := @pss_one
    have pt_cmpR := @pt_cmpR
    have pts_nil := @pts_nil
    have pts_one := @pts_one
    have pv := @pv
    have pw_and := @pw_and
    have pw_and1 := @pw_and1
    have pw_or := @pw_or
    have pw_or1 := @pw_or1
    revert PWpt pa_cons pa_nil pe_bm pe_call pe_callB pe_callTy pe_int pe_ix pe_lc pe_lst pe_op pe_str pe_tup pg_name pg_tup pgs_cons pgs_nil pi_enum pi_list ps_asg ps_expr ps_for ps_if ps_ret ps_set ps_setLc ps_while pss_cons pss_cut pss_nil pss_one pt_cmpR pts_nil pts_one pv pw_and pw_and1 pw_or pw_or1
    generalize @L2.PS = vPS
    generalize @L2.PSs = vPSs
    generalize @L2.PE = vPE
    generalize @L2.PT = vPT
    generalize @L2.PW = vPW
    generalize @L2.PC = vPC
    generalize @L2.PA = vPA
    generalize @L2.PG = vPG
    generalize @L2.PI = vPI
    generalize @L2.PO = vPO
    generalize @L2.PTs = vPTs
    generalize @L2.PPs = vPPs
    generalize @L2.PGs = vPGs
    generalize @L2.PK = vPK
    intro PWpt pa_cons pa_nil pe_bm pe_call pe_callB pe_callTy pe_int pe_ix pe_lc pe_lst pe_op pe_str pe_tup pg_name pg_tup pgs_cons pgs_nil pi_enum pi_list ps_asg ps_expr ps_for ps_if ps_ret ps_set ps_setLc ps_while pss_cons pss_cut pss_nil pss_one pt_cmpR pts_nil pts_one pv pw_and pw_and1 pw_or pw_or1
    refine ⟨_, (pss_cons (ps_asg (pv 1) (pg_tup rfl (pgs_cons (pg_name (i := 2) scLStateOf.nd rfl (Or.inl rfl)) (pgs_cons (pg_name (i := 3) scLStateOf.nd rfl (Or.inl rfl)) (pgs_cons (pg_name (i := 4) scLStateOf.nd rfl (Or.inl rfl)) (pgs_cons (pg_name (i := 5) scLStateOf.nd rfl (Or.inl rfl)) (pgs_cons (pg_name (i := 6) scLStateOf.nd rfl (Or.inl rfl)) pgs_nil)))))))
      (pss_cons (ps_set (i := 7) scLStateOf.nd rfl (Or.inl rfl) (pe_lst pa_nil))
      (pss_cons (ps_set (i := 8) scLStateOf.nd rfl (Or.inl rfl) (pe_lst pa_nil))
      (pss_cut (ps_for PassesOwn.never rfl (pi_enum (by rfl) G.enumerate (pa_cons (pv 4) pa_nil)) (pg_tup rfl (pgs_cons (pg_name (i := 9) scLStateOf.nd rfl (Or.inl rfl)) (pgs_cons (pg_name (i := 10) scLStateOf.nd rfl (Or.inl rfl)) pgs_nil))) (pss_cut (ps_setLc (i := 11) (own := [("_law_at", 12), ("_law_row_here", 13)]) (g := (gTup K 2 (gCons (gName 12) (gCons (gName 13) gNil)))) (by rfl) scLStateOf.nd rfl rfl (sw_true rfl rfl rfl (by decide +kernel)) (pi_enum (by rfl) G.enumerate (pa_cons (pv 10) pa_nil)) (blkOk_by (own := [("_law_at", 12), ("_law_row_here", 13)]) (N := ["_law_source_here", "_law_world_here", "_law_names_here", "_law_numbers", "_law_plans", "_law_orders", "_law_jolts", "_law_places", "_law_left", "_law_guest", "_law_plan", "_law_beds", "_law_at", "_law_row_here", "_law_place", "_law_lines", "_law_some", "_law_name"]) (sc := defScope sLStateOf) (by decide +kernel)) (fun _ _ _ _ _ => (pg_tup rfl (pgs_cons (pg_name (i := 12) scLStateOf.nd rfl (Or.inl rfl)) (pgs_cons (pg_name (i := 13) scLStateOf.nd rfl (Or.inl rfl)) pgs_nil)))) (fun _ _ _ _ _ => (pts_one (PWpt (pw_or (pt_cmpR op_eq (pe_ix (ix_tupK (K := K) rfl) (pv 13) pe_int (fun _ _ => rfl)) pe_str (nomark _)) (pw_or1 (pt_cmpR op_eq (pe_ix (ix_tupK (K := K) rfl) (pv 13) pe_int (fun _ _ => rfl)) pe_str (nomark _))))))) (fun _ _ _ _ _ => (pv 12)))
      (pss_cons (ps_set (i := 14) scLStateOf.nd rfl (Or.inl rfl) (pe_call GD hr1 (by rfl) mgD kpD bD .nil pass0 (pa_cons (pv 0) (pa_cons (pe_op op_add (pe_callB call_len_seq (by rfl) G.len PySem.boot_len (pa_cons (pv 10) pa_nil)) pe_int) pa_nil))))
      (pss_cut (ps_if (PWpt (pw_and (pt_cmpR (op_neNil (Nat.lt_of_succ_lt hu)) (pv 11) (pe_lst pa_nil) (nomark _)) (pw_and1 (pt_cmpR op_gt (pe_call GD hr1 (by rfl) mgD kpD bD .nil pass0 (pa_cons (pv 0) (pa_cons pe_int pa_nil))) pe_int (nomark _))))) (pss_one (ps_set (i := 14) scLStateOf.nd rfl (Or.inl rfl) (pe_ix ix_list (pv 11) (pe_call GD hr1 (by rfl) mgD kpD bD .nil pass0 (pa_cons (pv 0) (pa_cons (pe_callB call_len_seq (by rfl) G.len PySem.boot_len (pa_cons (pv 11) pa_nil)) pa_nil))) (fun _ _ => rfl)))) pss_nil)
      (pss_cons (ps_expr (pe_bm PySem.F.plainAttrs_list PySem.F.slot_list_append PySem.F.type_list_append mt_append (pv 7) (pa_cons (pv 14) pa_nil)))
      (pss_one (ps_if (PWpt (pw_and (pt_cmpR op_in_seq (pv 14) (pv 11) (by rfl)) (pw_and1 (pt_cmpR op_gt (pe_call GD hr1 (by rfl) mgD kpD bD .nil pass0 (pa_cons (pv 0) (pa_cons pe_int pa_nil))) pe_int (nomark _))))) (pss_one (ps_expr (pe_bm PySem.F.plainAttrs_list PySem.F.slot_list_append PySem.F.type_list_append mt_append (pv 8) (pa_cons (pv 9) pa_nil)))) pss_nil)))))))
      (pss_cons (ps_set (i := 15) scLStateOf.nd rfl (Or.inl rfl) (pe_callTy call_tuple_of (by rfl) G.tuple (by decide +kernel) (pa_cons (pe_op op_rep (pe_lst (pa_cons (pe_tup pa_nil) pa_nil)) (pe_callB call_len_seq (by rfl) G.len PySem.boot_len (pa_cons (pv 2) pa_nil))) pa_nil)))
      (pss_cut (ps_while PassesOwn.never (pt_cmpR (op_neNil (Nat.lt_of_succ_lt hu)) (pv 8) (pe_lst pa_nil) (nomark _)) (pss_cons (ps_set (i := 9) scLStateOf.nd rfl (Or.inl rfl) (pe_bm PySem.F.plainAttrs_list PySem.F.slot_list_pop PySem.F.type_list_pop mt_popAt (pv 8) (pa_cons (pe_call GD hr1 (by rfl) mgD kpD bD .nil pass0 (pa_cons (pv 0) (pa_cons (pe_callB call_len_seq (by rfl) G.len PySem.boot_len (pa_cons (pv 8) pa_nil)) pa_nil))) pa_nil)))
      (pss_cons (ps_set (i := 12) scLStateOf.nd rfl (Or.inl rfl) (pe_call GD hr1 (by rfl) mgD kpD bD .nil pass0 (pa_cons (pv 0) (pa_cons (pe_callB call_len_seq (by rfl) G.len PySem.boot_len (pa_cons (pv 2) pa_nil)) pa_nil))))
      (pss_one (ps_set (i := 15) scLStateOf.nd rfl (Or.inl rfl) (pe_call GW hr1 (by rfl) mgW kpW bW .nil pass0 (pa_cons (pv 15) (pa_cons (pv 12) (pa_cons (pe_call GL hr1 (by rfl) mgL kpL bL .nil pass0 (pa_cons (pe_ix ix_tup (pv 15) (pv 12) (fun _ _ => rfl)) (pa_cons (pv 9) (pa_cons (pv 5) pa_nil)))) pa_nil)))))))))
      (pss_cut (ps_set (i := 16) scLStateOf.nd rfl (Or.inl rfl) (pe_callTy call_tuple_of (by rfl) G.tuple (by decide +kernel) (pa_cons (pe_lc (own := [("_law_name", 17)]) (g := (gName 17)) (by rfl) scLStateOf.nd (pi_list (pv 2)) (blkOk_by (own := [("_law_name", 17)]) (N := ["_law_source_here", "_law_world_here", "_law_names_here", "_law_numbers", "_law_plans", "_law_orders", "_law_jolts", "_law_places", "_law_left", "_law_guest", "_law_plan", "_law_beds", "_law_at", "_law_row_here", "_law_place", "_law_lines", "_law_some", "_law_name"]) (sc := defScope sLStateOf) (by decide +kernel)) (fun _ _ _ _ _ => (pg_name (i := 17) scLStateOf.nd rfl (Or.inl rfl))) (fun _ _ _ _ _ => pts_nil) (fun _ _ _ _ _ => (pe_call GN hr2 (by rfl) mgN kpN bN .nil pass0 (pa_cons (pv 0) pa_nil)))) pa_nil)))
      (pss_one (ps_ret (pe_tup (pa_cons (pv 16) (pa_cons (pe_callTy call_tuple_of (by rfl) G.tuple (by decide +kernel) (pa_cons (pv 7) pa_nil)) (pa_cons (pe_callTy call_tuple_of (by rfl) G.tuple (by decide +kernel) (pa_cons (pe_lc (own := [("_law_plan", 10)]) (g := (gName 10)) (by rfl) scLStateOf.nd (pi_list (pv 4)) (blkOk_by (own := [("_law_plan", 10)]) (N := ["_law_source_here", "_law_world_here", "_law_names_here", "_law_numbers", "_law_plans", "_law_orders", "_law_jolts", "_law_places", "_law_left", "_law_guest", "_law_plan", "_law_beds", "_law_at", "_law_row_here", "_law_place", "_law_lines", "_law_some", "_law_name"]) (sc := defScope sLStateOf) (by decide +kernel)) (fun _ _ _ _ _ => (pg_name (i := 10) scLStateOf.nd rfl (Or.inl rfl))) (fun _ _ _ _ _ => pts_nil) (fun _ _ _ _ _ => (pe_call GN hr2 (by rfl) mgN kpN bN .nil pass0 (pa_cons (pv 0) pa_nil)))) pa_nil)) (pa_cons (pv 15) pa_nil)))))))))))))), ?_⟩
    have w0 : ∀ {H' : Hp} {d' n' : Int}, Dw H H' p d' c n' → Same H0 H' := fun y b o e => y.k b o (s0 b o e) (fun z => by rw [z, f0] at e; cases e)
    obtain ⟨ln, lv, lp, lo, ps, ht, hln, hlv, hlp, hpl, hlo⟩ := hW
    refine ⟨_, rfl, tw, _, rfl, SqT.of (s0 _ _ ht), rfl, _, _, rfl, _, _, rfl, _, _, rfl, _, _, rfl, _, _, rfl, rfl, ?_⟩
    refine ⟨Nat.zero_le _, fun lpl hlpl => ⟨Nat.zero_le _, fun llf hllf => ?_⟩⟩
    have y0 := ((Dw.refl hp sb).new (o := .lst []) hlpl).new (o := .lst []) hllf
    have n1 : lpl ≠ p := (ne_of_none hp hlpl).symm
    have n2 : llf ≠ p := by
      have : (upd H lpl (.lst [])) p = some (srcO d c n) := by rw [upd_ne n1.symm]; exact hp
      exact (ne_of_none this hllf).symm
    have n3 : lpl ≠ llf := ne_of_none upd_same hllf
    have g1 : (upd (upd H lpl (.lst [])) llf (.lst [])) lpl = some (.lst []) := by rw [upd_ne n3]; exact upd_same
    have g2 : (upd (upd H lpl (.lst [])) llf (.lst [])) llf = some (.lst []) := upd_same
    have hl0 : H lpl = none := hlpl
    have hl1 : H llf = none := by rw [upd_ne n3.symm] at hllf; exact hllf
    generalize upd (upd H lpl (.lst [])) llf (.lst []) = H1 at y0 g1 g2
    -- each guest
    refine ⟨fun σ' H' => ∃ (v9 v10 v11 v14 : Option V) (d n : Int) (pls lf : List Int), σ' = [some (.ref p), some (.ref tw), some (.ref ln), some (.ref lv), some (.ref lp), some (.ref lo), some (.bl x.jolt), some (.ref lpl), some (.ref llf), v9, v10, v11, none, none, v14, none, none, none] ∧ Dw H H' p d c n ∧ n ≤ 1100 ∧ H' lpl = some (.lst (pls.map V.int)) ∧ H' llf = some (.lst (lf.map V.int)) ∧ pls.length = x.plans.length ∧
      (∀ (g : Nat) (pl : List Rw) (z : Int), x.plans[g]? = some pl → pls[g]? = some z → 0 ≤ z ∧ z ≤ pl.length) ∧ lf.Nodup ∧ lf.length ≤ 8 ∧ ∀ z ∈ lf, BedAt x pls z, ?_, ?_⟩
    · refine ⟨_, rfl, lp, _, rfl, SqL.of (w0 y0 _ _ hlp), for_enum (K := K) (a := lp) (xs := ps.map V.ref) (fun i σ' H' => ∃ (v9 v10 v11 v14 : Option V) (d' n' : Int) (pls lf : List Int), σ' = [some (.ref p), some (.ref tw), some (.ref ln), some (.ref lv), some (.ref lp), some (.ref lo), some (.bl x.jolt), some (.ref lpl), some (.ref llf), v9, v10, v11, none, none, v14, none, none, none] ∧ Dw H H' p d' c n' ∧ n' ≤ n + 4 * i ∧ H' lpl = some (.lst (pls.map V.int)) ∧ H' llf = some (.lst (lf.map V.int)) ∧ pls.length = i ∧
        (∀ (g : Nat) (pl : List Rw) (z : Int), x.plans[g]? = some pl → pls[g]? = some z → 0 ≤ z ∧ z ≤ pl.length) ∧ lf.Nodup ∧ lf.length ≤ i ∧ (∀ z ∈ lf, z < i) ∧ ∀ z ∈ lf, BedAt x pls z)
        ⟨_, _, _, _, d, n, [], [], rfl, y0, by omega, g1, g2, rfl, (fun g pl z _ h => by cases h), List.nodup_nil, Nat.le_refl _, (fun _ z => nomatch z), fun _ z => nomatch z⟩ ?_ ?_ ?_⟩
      · rintro i σ' H' _ ⟨_, _, _, _, _, _, _, _, _, y, _⟩
        exact SqL.of (w0 y _ _ hlp)
      · rintro i v σ' H' Tt hi ⟨v9, v10, v11, v14, d2, n2', pls, lf, rfl, y, hn2, gp, gl, lpl', pb, nd, ll', lt', bd⟩ hTt
        obtain ⟨q0, rfl, hq0⟩ := ref_at hi
        obtain ⟨pl, hpi, as, hqa, hpas⟩ := pr_get hpl hq0
        obtain ⟨lpl10, _⟩ := hok.rows pl (List.mem_of_getElem? hpi)
        have i8 : i < 8 := by have := (List.getElem?_eq_some_iff.mp hpi).1; omega
        have las : as.length = pl.length := pr_len hpas
        refine ⟨Tt, _, rfl, SqT.of upd_same, rfl, _, _, rfl, _, _, rfl, rfl, ?_⟩
        have sT := sameNew (o := .tup [.int (i : Nat), .ref q0]) hTt
        have y1 := y.new (o := .tup [.int (i : Nat), .ref q0]) hTt
        have gp1 := sT _ _ gp
        have gl1 := sT _ _ gl
        generalize upd H' Tt (.tup [.int (i : Nat), .ref q0]) = H2 at y1 gp1 gl1
        -- the beds
        refine ⟨fun σ' H' => ∃ lb, σ' = [some (.ref p), some (.ref tw), some (.ref ln), some (.ref lv), some (.ref lp), some (.ref lo), some (.bl x.jolt), some (.ref lpl), some (.ref llf), some (.int (i : Nat)), some (.ref q0), some (.ref lb), none, none, v14, none, none, none] ∧ Same H2 H' ∧ lb ≠ p ∧ lb ≠ lpl ∧ lb ≠ llf ∧ H' lb = some (.lst ((bedsI pl pl.length).map V.int)), ?_, ?_⟩
        · have hq2 := w0 y1 _ _ hqa
          refine ⟨_, rfl, q0, _, rfl, SqL.of hq2, fun D hD => ?_⟩
          refine lc_enum (K := K) (a := q0) (xs := as.map V.ref) (fun j H' => Same H2 H' ∧ H' D = some (.lst ((bedsI pl j).map V.int))) ⟨sameNew hD, upd_same⟩ ?_ ?_ ?_
          · rintro j H' _ ⟨sj, _⟩
            exact SqL.of (sj _ _ hq2)
          · rintro j v H' T2 hj ⟨sj, gj⟩ hT2
            obtain ⟨a0, rfl, ha0⟩ := ref_at hj
            obtain ⟨r, hr0, hra⟩ := pr_get hpas ha0
            have lj := (List.getElem?_eq_some_iff.mp hr0).1
            refine ⟨T2, _, rfl, SqT.of upd_same, rfl, _, _, rfl, _, _, rfl, rfl, rfl, ?_⟩
            have sT2 := sameNew (o := .tup [.int (j : Nat), .ref a0]) hT2
            have ra2 : (upd H' T2 (.tup [.int (j : Nat), .ref a0])) a0 = some (.tup r.v) := sT2 _ _ (sj _ _ (w0 y1 _ _ hra))
            have gj2 := sT2 _ _ gj
            have sj2 := sj.trans sT2
            generalize upd H' T2 (.tup [.int (j : Nat), .ref a0]) = H3 at ra2 gj2 sj2
            have hat : atI r.v 0 = some (V.str r.wd) := by rw [r.v_hd]; exact atI_nat (j := 0) rfl
            have ebed := bedsI_add pl j
            rw [hr0] at ebed
            have ebed : bedsI pl (j + 1) = bedsI pl j ++ (if r.bed = true then [(j : Int)] else []) := ebed
            have yes : r.bed = true → ∃ acc, H3 D = some (.lst acc) ∧ acc.length < sizeLine ∧ (Same H2 (upd H3 D (.lst (acc ++ [V.int (j : Nat)]))) ∧ (upd H3 D (.lst (acc ++ [V.int (j : Nat)]))) D = some (.lst ((bedsI pl (j + 1)).map V.int))) := fun hb =>
              ⟨_, gj2, by rw [List.length_map]; have := bedsI_len pl j; omega, fun b o e => by rw [upd_ne (ne_of_none e hD)]; exact sj2 b o e, by rw [upd_same, ebed, if_pos hb, List.map_append]; rfl⟩
            have hbw := r.bed_wd
            refine ⟨_, rfl, a0, _, _, _, rfl, rfl, SqT.of ra2, hat, rfl, _, rfl, ?_⟩
            cases hc : decide (V.str r.wd = V.str "wait") with
            | true =>
              rw [hc] at hbw
              exact iteT (iteT ⟨_, rfl, yes hbw⟩)
            | false =>
              refine iteF ⟨_, rfl, a0, _, _, _, rfl, rfl, SqT.of ra2, hat, rfl, _, rfl, ?_⟩
              cases hc2 : decide (V.str r.wd = V.str "still") with
              | true =>
                rw [hc, hc2] at hbw
                exact iteT ⟨_, rfl, yes hbw⟩
              | false =>
                rw [hc, hc2] at hbw
                have hbw : r.bed = false := hbw
                rw [hbw, if_neg Bool.false_ne_true, List.append_nil] at ebed
                exact iteF ⟨sj2, by rw [ebed]; exact gj2⟩
          · rintro H' ⟨sj, gj⟩
            rw [List.length_map, las] at gj
            exact ⟨D, rfl, sj, (ne_of_none y1.src hD).symm, (ne_of_none gp1 hD).symm, (ne_of_none gl1 hD).symm, gj⟩
        rintro _ H3 ⟨lb, rfl, s3, nbp, nbl, nbf, gb⟩
        have y3 : Dw H H3 p d2 c n2' := ⟨s3 _ _ y1.src, y1.sb, fun b o e hb => s3 _ _ (y1.k b o e hb)⟩
        have gp3 := s3 _ _ gp1
        have gl3 := s3 _ _ gl1
        -- the place
        have hqy : ∀ {H' : Hp} {d' n' : Int}, Dw H H' p d' c n' → SqL K H' q0 (as.map V.ref) := fun y => SqL.of (w0 y _ _ hqa)
        refine ⟨_, rfl, _, rfl, q0, _, rfl, .inl (hqy y3), _, _, rfl, rfl, ?_⟩
        rw [List.length_map, las]
        refine ⟨p, d2, c, n2', _, rfl, y3.src, y3.sb, by omega, by omega, sm _ (by omega) (by omega), fun d4 pc z0 z1 sb4 => ?_⟩
        have y4 := y3.draw sb4
        have gp4 : (upd H3 p (srcO d4 c (n2' + 1))) lpl = some (.lst (pls.map V.int)) := by rw [upd_ne n1]; exact gp3
        have gl4 : (upd H3 p (srcO d4 c (n2' + 1))) llf = some (.lst (lf.map V.int)) := by rw [upd_ne n2]; exact gl3
        have gb4 : (upd H3 p (srcO d4 c (n2' + 1))) lb = some (.lst ((bedsI pl pl.length).map V.int)) := by rw [upd_ne nbp]; exact gb
        generalize upd H3 p (srcO d4 c (n2' + 1)) = H4 at y4 gp4 gl4 gb4
        refine ⟨fun σ' H' => ∃ (pc d n : Int), σ' = [some (.ref p), some (.ref tw), some (.ref ln), some (.ref lv), some (.ref lp), some (.ref lo), some (.bl x.jolt), some (.ref lpl), some (.ref llf), some (.int (i : Nat)), some (.ref q0), some (.ref lb), none, none, some (.int pc), none, none, none] ∧ Dw H H' p d c n ∧ n ≤ n2' + 3 ∧ H' lpl = some (.lst (pls.map V.int)) ∧ H' llf = some (.lst (lf.map V.int)) ∧ H' lb = some (.lst ((bedsI pl pl.length).map V.int)) ∧ 0 ≤ pc ∧ pc ≤ pl.length, ?_, ?_⟩
        · refine ⟨_, rfl, Nat.zero_le _, fun le hle => ?_⟩
          have y5 := y4.new (o := .lst []) hle
          have s5 := sameNew (o := .lst []) hle
          have ge : (upd H4 le (.lst [])) le = some (.lst []) := upd_same
          have gp5 := s5 _ _ gp4
          have gl5 := s5 _ _ gl4
          have gb5 := s5 _ _ gb4
          generalize upd H4 le (.lst []) = H5 at y5 ge gp5 gl5 gb5
          refine ⟨lb, le, _, rfl, rfl, SqL.of gb5, SqL.of ge, _, rfl, ?_⟩
          cases he : (!((bedsI pl pl.length).map V.int).isEmpty) with
          | false => exact iteF ⟨pc, d4, n2' + 1, rfl, y5, by omega, gp5, gl5, gb5, z0, by omega⟩
          | true =>
            refine iteT ⟨_, rfl, p, d4, c, n2' + 1, 4, rfl, y5.src, y5.sb, by omega, by decide, sm _ (by decide) (by decide), fun d6 r6 _ _ sb6 => ⟨_, _, rfl, rfl, _, rfl, ?_⟩⟩
            have y6 := y5.draw sb6
            have gp6 : (upd H5 p (srcO d6 c (n2' + 1 + 1))) lpl = some (.lst (pls.map V.int)) := by rw [upd_ne n1]; exact gp5
            have gl6 : (upd H5 p (srcO d6 c (n2' + 1 + 1))) llf = some (.lst (lf.map V.int)) := by rw [upd_ne n2]; exact gl5
            have gb6 : (upd H5 p (srcO d6 c (n2' + 1 + 1))) lb = some (.lst ((bedsI pl pl.length).map V.int)) := by rw [upd_ne nbp]; exact gb5
            generalize upd H5 p (srcO d6 c (n2' + 1 + 1)) = H6 at y6 gp6 gl6 gb6
            refine ite2 (fun _ => ?_) (fun _ => ⟨pc, d6, n2' + 1 + 1, rfl, y6, by omega, gp6, gl6, gb6, z0, by omega⟩)
            have lb0 : 0 < (bedsI pl pl.length).length := by
              cases hz : bedsI pl pl.length with
              | nil => rw [hz] at he; cases he
              | cons => rw [List.length_cons]; omega
            have lbl := bedsI_len pl pl.length
            refine ⟨_, rfl, _, rfl, _, rfl, lb, _, rfl, .inl (SqL.of gb6), ?_⟩
            rw [List.length_map]
            refine ⟨p, d6, c, n2' + 1 + 1, _, rfl, y6.src, y6.sb, by omega, by omega, sm _ (by omega) (by omega), fun d7 r7 a0 a1 sb7 => ?_⟩
            have y7 := y6.draw sb7
            have gp7 : (upd H6 p (srcO d7 c (n2' + 1 + 1 + 1))) lpl = some (.lst (pls.map V.int)) := by rw [upd_ne n1]; exact gp6
            have gl7 : (upd H6 p (srcO d7 c (n2' + 1 + 1 + 1))) llf = some (.lst (lf.map V.int)) := by rw [upd_ne n2]; exact gl6
            have gb7 : (upd H6 p (srcO d7 c (n2' + 1 + 1 + 1))) lb = some (.lst ((bedsI pl pl.length).map V.int)) := by rw [upd_ne nbp]; exact gb6
            obtain ⟨k7, rfl⟩ := Int.eq_ofNat_of_zero_le a0
            have hk7 : k7 < (bedsI pl pl.length).length := by omega
            obtain ⟨j7, rr7, e7, hj7, hb7⟩ := bedsI_in (List.getElem_mem hk7)
            have lj7 := (List.getElem?_eq_some_iff.mp hj7).1
            refine ⟨lb, _, _, _, rfl, rfl, SqL.of gb7, atI_nat (by rw [List.getElem?_map, List.getElem?_eq_getElem hk7]; rfl), ?_⟩
            exact ⟨_, d7, n2' + 1 + 1 + 1, rfl, y7, by omega, gp7, gl7, gb7, by omega, by omega⟩
        rintro _ H5 ⟨pc', d5, n5, rfl, y5, hn5, gp5, gl5, gb5, pc0, pc1⟩
        -- append
        refine ⟨_, rfl, .inl ⟨rfl, _, SqL.of gp5⟩, _, rfl, lpl, _, _, rfl, rfl, gp5, by rw [List.length_map]; omega, ?_⟩
        have kU : ∀ b o, H5 b = some o → b ≠ lpl → upd H5 lpl (.lst (pls.map V.int ++ [V.int pc'])) b = some o := fun b o e hb => by rw [upd_ne hb]; exact e
        have y6 : Dw H (upd H5 lpl (.lst (pls.map V.int ++ [V.int pc']))) p d5 c n5 := ⟨kU _ _ y5.src n1.symm, y5.sb, fun b o e hb => kU _ _ (y5.k b o e hb) (fun z => by rw [z, hl0] at e; cases e)⟩
        have gp6 : (upd H5 lpl (.lst (pls.map V.int ++ [V.int pc']))) lpl = some (.lst ((pls ++ [pc']).map V.int)) := by rw [upd_same, List.map_append]; rfl
        have gl6 := kU _ _ gl5 n3.symm
        have gb6 := kU _ _ gb5 nbl
        generalize upd H5 lpl (.lst (pls.map V.int ++ [V.int pc'])) = H6 at y6 gp6 gl6 gb6
        have pb' : ∀ (g : Nat) (pl : List Rw) (z : Int), x.plans[g]? = some pl → (pls ++ [pc'])[g]? = some z → 0 ≤ z ∧ z ≤ pl.length := fun g pl' z h1 h2 => by
          rcases Nat.lt_or_ge g pls.length with h | h
          · rw [List.getElem?_append_left h] at h2; exact pb g pl' z h1 h2
          · rw [List.getElem?_append_right h] at h2
            have h0 : g - pls.length = 0 := by
              rcases Nat.eq_zero_or_pos (g - pls.length) with w | w
              · exact w
              · rw [List.getElem?_eq_none (by simp; omega)] at h2; cases h2
            rw [h0] at h2; cases h2
            have : g = i := by omega
            subst this
            rw [hpi] at h1; cases h1
            exact ⟨pc0, pc1⟩
        have bd' : ∀ z ∈ lf, BedAt x (pls ++ [pc']) z := fun z hz => by
          obtain ⟨g, pl', k, r, e1, e2, e3, e4, e5⟩ := bd z hz
          exact ⟨g, pl', k, r, e1, e2, by rw [List.getElem?_append_left (List.getElem?_eq_some_iff.mp e3).1]; exact e3, e4, e5⟩
        have ll1 : (pls ++ [pc']).length = i + 1 := by rw [List.length_append, lpl']; rfl
        have flats : ∀ zs : List Int, (zs.map V.int).all flatV = true := fun zs => List.all_eq_true.mpr fun v hv => by obtain ⟨z, _, rfl⟩ := List.mem_map.mp hv; rfl
        refine ⟨_, rfl, _, rfl, lb, _, rfl, .inl (SqL.of gb6), rfl, flats _, _, rfl, ?_⟩
        rw [inV_ints]
        by_cases hin : pc' ∈ bedsI pl pl.length
        · refine iteT' (decide_eq_true hin) ⟨_, rfl, p, d5, c, n5, 4, rfl, y6.src, y6.sb, by omega, by decide, sm _ (by decide) (by decide), fun d7 r7 _ _ sb7 => ⟨_, _, rfl, rfl, _, rfl, ?_⟩⟩
          have y7 := y6.draw sb7
          have gp7 : (upd H6 p (srcO d7 c (n5 + 1))) lpl = some (.lst ((pls ++ [pc']).map V.int)) := by rw [upd_ne n1]; exact gp6
          have gl7 : (upd H6 p (srcO d7 c (n5 + 1))) llf = some (.lst (lf.map V.int)) := by rw [upd_ne n2]; exact gl6
          generalize upd H6 p (srcO d7 c (n5 + 1)) = H7 at y7 gp7 gl7
          refine ite2 (fun _ => ?_) (fun _ => ⟨_, _, _, _, d7, n5 + 1, pls ++ [pc'], lf, rfl, y7, by omega, gp7, gl7, ll1, pb', nd, by omega, (fun z hz => by have := lt' z hz; omega), bd'⟩)
          refine ⟨_, rfl, .inl ⟨rfl, _, SqL.of gl7⟩, _, rfl, llf, _, _, rfl, rfl, gl7, by rw [List.length_map]; omega, ?_⟩
          have kV : ∀ b o, H7 b = some o → b ≠ llf → upd H7 llf (.lst (lf.map V.int ++ [V.int (i : Nat)])) b = some o := fun b o e hb => by rw [upd_ne hb]; exact e
          refine ⟨_, _, _, _, d7, n5 + 1, pls ++ [pc'], lf ++ [(i : Int)], rfl, ⟨kV _ _ y7.src n2.symm, y7.sb, fun b o e hb => kV _ _ (y7.k b o e hb) (fun z => by rw [z, hl1] at e; cases e)⟩, by omega, kV _ _ gp7 n3, by rw [upd_same, List.map_append]; rfl, ll1, pb', ?_, by rw [List.length_append, List.length_singleton]; omega, fun z hz => ?_, fun z hz => ?_⟩
          · rw [List.nodup_append]
            refine ⟨nd, by simp, fun a ha b hb e => ?_⟩
            rw [List.mem_singleton.mp hb] at e
            have := lt' a ha
            omega
          · rcases List.mem_append.mp hz with hz | hz
            · have := lt' z hz; omega
            · rw [List.mem_singleton.mp hz]; omega
          · rcases List.mem_append.mp hz with hz | hz
            · exact bd' z hz
            · rw [List.mem_singleton.mp hz]
              obtain ⟨j, r, ej, hj, hb⟩ := bedsI_in hin
              exact ⟨i, pl, j, r, rfl, hpi, by rw [List.getElem?_append_right (by omega), lpl', Nat.sub_self, ej]; rfl, hj, hb⟩
        · exact iteF' (decide_eq_false hin) ⟨_, _, _, _, d5, n5, pls ++ [pc'], lf, rfl, y6, by omega, gp6, gl6, ll1, pb', nd, by omega, (fun z hz => by have := lt' z hz; omega), bd'⟩
      · rintro σ' H' ⟨v9, v10, v11, v14, d2, n2', pls, lf, rfl, y, hn2, gp, gl, lpl', pb, nd, ll', lt', bd⟩
        rw [List.length_map, pr_len hpl] at hn2 lpl' ll'
        exact ⟨v9, v10, v11, v14, d2, n2', pls, lf, rfl, y, by omega, gp, gl, lpl', pb, nd, by omega, bd⟩
    rintro _ H2 ⟨v9, v10, v11, v14, d2, n2', pls, lf, rfl, y2, hn2, gp2, gl2, lpl', pb, nd2, ll8, bd2⟩
    have s20 := w0 y2
    have zL : x.names.length ≤ 12 := nl12
    have L0 : (x.names.map V.str).length = x.names.length := List.length_map ..
    -- the empty lines
    refine ⟨Nat.zero_le _, fun t0 ht0 => ⟨by show 1 ≤ sizeLine; omega, fun l0 hl0 => ?_⟩⟩
    have y3 := (y2.new (o := .tup []) ht0).new (o := .lst [.ref t0]) hl0
    have s3 := (sameNew (o := .tup []) ht0).trans (sameNew (o := .lst [.ref t0]) hl0)
    have gt3 := sameNew (o := .lst [.ref t0]) hl0 _ _ (upd_same : (upd H2 t0 (.tup [])) t0 = some (.tup []))
    have gl3 : (upd (upd H2 t0 (.tup [])) l0 (.lst [.ref t0])) l0 = some (.lst [.ref t0]) := upd_same
    generalize upd (upd H2 t0 (.tup [])) l0 (.lst [.ref t0]) = H3 at y3 s3 gt3 gl3
    refine ⟨_, rfl, ln, _, rfl, .inl (SqL.of (w0 y3 _ _ hln)), ?_⟩
    rw [L0]
    refine ⟨l0, (x.names.length : Nat), [.ref t0], rfl, rfl, gl3, by omega, by omega, by rw [List.length_singleton]; omega, fun pr hpr => ⟨pr, _, rfl, .inl ⟨SqL.of upd_same, fun dl hdl => ?_⟩⟩⟩
    have er : (List.replicate ((x.names.length : Nat) : Int).toNat [V.ref t0]).flatten = (List.replicate x.names.length t0).map V.ref := by
      rw [Int.toNat_natCast]
      have : ∀ n : Nat, (List.replicate n [V.ref t0]).flatten = (List.replicate n t0).map V.ref := fun n => by
        induction n with
        | zero => rfl
        | succ n ih => rw [List.replicate_succ, List.flatten_cons, ih, List.replicate_succ]; rfl
      exact this _
    rw [er] at hdl ⊢
    have y4 := (y3.new (o := .lst ((List.replicate x.names.length t0).map V.ref)) hpr).new (o := .tup ((List.replicate x.names.length t0).map V.ref)) hdl
    have s4 := (sameNew (o := .lst ((List.replicate x.names.length t0).map V.ref)) hpr).trans (sameNew (o := .tup ((List.replicate x.names.length t0).map V.ref)) hdl)
    have gd4 : (upd (upd H3 pr (.lst ((List.replicate x.names.length t0).map V.ref))) dl (.tup ((List.replicate x.names.length t0).map V.ref))) dl = some (.tup ((List.replicate x.names.length t0).map V.ref)) := upd_same
    have gt4 := s4 _ _ gt3
    have gp4 := s4 _ _ (s3 _ _ gp2)
    have gf4 := s4 _ _ (s3 _ _ gl2)
    generalize upd (upd H3 pr (.lst ((List.replicate x.names.length t0).map V.ref))) dl (.tup ((List.replicate x.names.length t0).map V.ref)) = H4 at y4 gd4 gt4 gp4 gf4
    -- the guests that lie
    refine ⟨fun σ' H' => ∃ (v9 v10 v11 v12 v14 : Option V) (d n : Int) (dl : Addr) (ls : List Addr) (L : List (List Int)), σ' = [some (.ref p), some (.ref tw), some (.ref ln), some (.ref lv), some (.ref lp), some (.ref lo), some (.bl x.jolt), some (.ref lpl), some (.ref llf), v9, v10, v11, v12, none, v14, some (.ref dl), none, none] ∧ Dw H H' p d c n ∧ n ≤ 1120 ∧ H' lpl = some (.lst (pls.map V.int)) ∧
      SqT K H' dl (ls.map V.ref) ∧ Paired (LnAt K H') ls L ∧ L.length = x.names.length ∧ L.flatten.Nodup ∧ ∀ z ∈ L.flatten, BedAt x pls z, ?_, ?_⟩
    · refine ⟨fun m σ' H' => ∃ (v9 v10 v11 v12 v14 : Option V) (d n : Int) (dl : Addr) (ls : List Addr) (L : List (List Int)) (lf : List Int), lf.length = m ∧ σ' = [some (.ref p), some (.ref tw), some (.ref ln), some (.ref lv), some (.ref lp), some (.ref lo), some (.bl x.jolt), some (.ref lpl), some (.ref llf), v9, v10, v11, v12, none, v14, some (.ref dl), none, none] ∧ Dw H H' p d c n ∧ n + 2 * m ≤ 1116 ∧ H' lpl = some (.lst (pls.map V.int)) ∧ H' llf = some (.lst (lf.map V.int)) ∧
        SqT K H' dl (ls.map V.ref) ∧ Paired (LnAt K H') ls L ∧ L.length = x.names.length ∧ (lf ++ L.flatten).Nodup ∧ lf.length + L.flatten.length ≤ 8 ∧ ∀ z ∈ lf ++ L.flatten, BedAt x pls z,
        ⟨lf.length, v9, v10, v11, none, v14, d2, n2', dl, _, List.replicate x.names.length [], lf, rfl, rfl, y4, by omega, gp4, gf4, SqT.of gd4, pr_rep (R := LnAt K H4) (a := t0) (b := []) (SqT.of gt4) _, List.length_replicate, by rw [flat_rep, List.append_nil]; exact nd2, by rw [flat_rep]; exact ll8, by rw [flat_rep, List.append_nil]; exact bd2⟩, ?_⟩
      rintro m σ' H5 ⟨v9, v10, v11, v12, v14, d5, n5, dl5, ls5, L5, lf5, hm, rfl, y5, hn5, gp5, gf5, gd5, pr5, ll5, nd5, le5, bd5⟩
      refine ⟨_, rfl, Nat.zero_le _, fun le hle => ?_⟩
      have y6 := y5.new (o := .lst []) hle
      have s6 := sameNew (o := .lst []) hle
      have ge : (upd H5 le (.lst [])) le = some (.lst []) := upd_same
      have gp6 := s6 _ _ gp5
      have gf6 := s6 _ _ gf5
      have gd6 := sqS s6 gd5
      have pr6 : Paired (LnAt K (upd H5 le (.lst []))) ls5 L5 := pr_mono (fun _ _ h => sqS s6 h) pr5
      generalize upd H5 le (.lst []) = H6 at y6 ge gp6 gf6 gd6 pr6
      refine ⟨llf, le, _, rfl, rfl, SqL.of gf6, SqL.of ge, _, rfl, ?_⟩
      cases elf : lf5 with
      | nil =>
        rw [elf] at nd5 bd5
        exact iteF ⟨v9, v10, v11, v12, v14, d5, n5, dl5, ls5, L5, rfl, y6, by omega, gp6, gd6, pr6, ll5, nd5, bd5⟩
      | cons f0 fr =>
        have hl0 : 0 < lf5.length := by rw [elf, List.length_cons]; omega
        obtain ⟨k, rfl⟩ : ∃ k, m = k + 1 := ⟨m - 1, by omega⟩
        refine iteT ⟨fun σ' H' => ∃ (v9 v10 v11 v12 v14 : Option V) (d n : Int) (dl : Addr) (ls : List Addr) (L : List (List Int)) (lf : List Int), lf.length = k ∧ σ' = [some (.ref p), some (.ref tw), some (.ref ln), some (.ref lv), some (.ref lp), some (.ref lo), some (.bl x.jolt), some (.ref lpl), some (.ref llf), v9, v10, v11, v12, none, v14, some (.ref dl), none, none] ∧ Dw H H' p d c n ∧ n + 2 * k ≤ 1116 ∧ H' lpl = some (.lst (pls.map V.int)) ∧ H' llf = some (.lst (lf.map V.int)) ∧
          SqT K H' dl (ls.map V.ref) ∧ Paired (LnAt K H') ls L ∧ L.length = x.names.length ∧ (lf ++ L.flatten).Nodup ∧ lf.length + L.flatten.length ≤ 8 ∧ ∀ z ∈ lf ++ L.flatten, BedAt x pls z, fun σ' H'' h => ⟨k, Nat.lt_succ_self _, h⟩, ?_⟩
        -- one is taken
        refine ⟨_, rfl, .inl ⟨rfl, _, SqL.of gf6⟩, _, rfl, _, rfl, llf, _, rfl, .inl (SqL.of gf6), ?_⟩
        rw [List.length_map]
        refine ⟨p, d5, c, n5, _, rfl, y6.src, y6.sb, by omega, by omega, sm _ (by omega) (by omega), fun d7 r7 a0 a1 sb7 => ?_⟩
        have y7 := y6.draw sb7
        have gp7 : (upd H6 p (srcO d7 c (n5 + 1))) lpl = some (.lst (pls.map V.int)) := by rw [upd_ne n1]; exact gp6
        have gf7 : (upd H6 p (srcO d7 c (n5 + 1))) llf = some (.lst (lf5.map V.int)) := by rw [upd_ne n2]; exact gf6
        have up7 : ∀ {a : Addr} {zs : List V}, SqT K H6 a zs → SqT K (upd H6 p (srcO d7 c (n5 + 1))) a zs := fun h => sqCh y6.src rfl (fun b o e hb => by rw [upd_ne hb]; exact e) h
        have gd7 := up7 gd6
        have pr7 : Paired (LnAt K (upd H6 p (srcO d7 c (n5 + 1)))) ls5 L5 := pr_mono (fun _ _ h => up7 h) pr6
        generalize upd H6 p (srcO d7 c (n5 + 1)) = H7 at y7 gp7 gf7 gd7 pr7
        obtain ⟨k7, rfl⟩ := Int.eq_ofNat_of_zero_le a0
        have hk7 : k7 < lf5.length := by omega
        have ek : lf5[k7]? = some lf5[k7] := List.getElem?_eq_getElem hk7
        have ep := erase_perm ek
        refine ⟨llf, _, _, k7, V.int lf5[k7], rfl, rfl, gf7, by omega, by omega, by rw [List.length_map]; exact seq_nat hk7, by rw [List.getElem?_map, ek]; rfl, ?_⟩
        have kU : ∀ b o, H7 b = some o → b ≠ llf → upd H7 llf (.lst ((lf5.map V.int).eraseIdx k7)) b = some o := fun b o e hb => by rw [upd_ne hb]; exact e
        have y8 : Dw H (upd H7 llf (.lst ((lf5.map V.int).eraseIdx k7))) p d7 c (n5 + 1) := ⟨kU _ _ y7.src n2.symm, y7.sb, fun b o e hb => kU _ _ (y7.k b o e hb) (fun z => by rw [z, hl1] at e; cases e)⟩
        have gp8 := kU _ _ gp7 n3
        have gf8 : (upd H7 llf (.lst ((lf5.map V.int).eraseIdx k7))) llf = some (.lst ((lf5.eraseIdx k7).map V.int)) := by rw [upd_same, er_map]
        have up8 : ∀ {a : Addr} {zs : List V}, SqT K H7 a zs → SqT K (upd H7 llf (.lst ((lf5.map V.int).eraseIdx k7))) a zs := fun h => sqCh gf7 rfl kU h
        have gd8 := up8 gd7
        have pr8 : Paired (LnAt K (upd H7 llf (.lst ((lf5.map V.int).eraseIdx k7)))) ls5 L5 := pr_mono (fun _ _ h => up8 h) pr7
        generalize upd H7 llf (.lst ((lf5.map V.int).eraseIdx k7)) = H8 at y8 gp8 gf8 gd8 pr8
        -- the room
        refine ⟨_, rfl, _, rfl, ln, _, rfl, .inl (SqL.of (w0 y8 _ _ hln)), ?_⟩
        rw [L0]
        refine ⟨p, d7, c, n5 + 1, _, rfl, y8.src, y8.sb, by omega, by omega, sm _ (by omega) (by omega), fun d9 r9 b0 b1 sb9 => ?_⟩
        have y9 := y8.draw sb9
        have gp9 : (upd H8 p (srcO d9 c (n5 + 1 + 1))) lpl = some (.lst (pls.map V.int)) := by rw [upd_ne n1]; exact gp8
        have gf9 : (upd H8 p (srcO d9 c (n5 + 1 + 1))) llf = some (.lst ((lf5.eraseIdx k7).map V.int)) := by rw [upd_ne n2]; exact gf8
        have up9 : ∀ {a : Addr} {zs : List V}, SqT K H8 a zs → SqT K (upd H8 p (srcO d9 c (n5 + 1 + 1))) a zs := fun h => sqCh y8.src rfl (fun b o e hb => by rw [upd_ne hb]; exact e) h
        have gd9 := up9 gd8
        have pr9 : Paired (LnAt K (upd H8 p (srcO d9 c (n5 + 1 + 1)))) ls5 L5 := pr_mono (fun _ _ h => up9 h) pr8
        generalize upd H8 p (srcO d9 c (n5 + 1 + 1)) = H9 at y9 gp9 gf9 gd9 pr9
        obtain ⟨k9, rfl⟩ := Int.eq_ofNat_of_zero_le b0
        have hk9 : k9 < L5.length := by omega
        have lls : ls5.length = L5.length := pr_len pr9
        have eL9 : L5[k9]? = some L5[k9] := List.getElem?_eq_getElem hk9
        have els : ls5[k9]? = some ls5[k9] := List.getElem?_eq_getElem (by omega)
        obtain ⟨L9', hL9, hA9⟩ := pr_get pr9 els
        rw [eL9] at hL9
        cases hL9
        have inF : ∀ z ∈ L5[k9], z ∈ L5.flatten := fun z hz => List.mem_flatten.mpr ⟨_, List.getElem_mem hk9, hz⟩
        have lenF : L5[k9].length ≤ L5.flatten.length := (List.sublist_flatten_of_mem (List.getElem_mem hk9)).length_le
        have hord : ∀ z ∈ lf5[k7] :: L5[k9], 0 ≤ z ∧ z < x.ords.length := fun z hz => by
          have : BedAt x pls z := by
            rcases List.mem_cons.mp hz with h | h
            · exact bd5 z (List.mem_append.mpr (.inl (h ▸ List.getElem_mem hk7)))
            · exact bd5 z (List.mem_append.mpr (.inr (inF z h)))
          obtain ⟨g, pl, k, r, e1, e2, _⟩ := this
          have := (List.getElem?_eq_some_iff.mp e2).1
          have := hok.ol
          omega
        refine ⟨_, rfl, _, rfl, _, rfl, _, rfl, dl5, _, _, _, rfl, rfl, gd9, atI_nat (by rw [List.getElem?_map, els]; rfl), _, rfl, _, rfl, ls5[k9], lo, lf5[k7], L5[k9], x.ords, rfl, hA9, SqL.of (w0 y9 _ _ hlo), by omega, hord, fun q10 H10 s10 g10 => ?_⟩
        refine ⟨dl5, k9, .ref q10, ls5.map V.ref, rfl, sqS s10 gd9, by rw [List.length_map]; omega, by rw [List.length_map]; omega, fun q11 H11 s11 g11 => ?_⟩
        have s12 := s10.trans s11
        have pLP := lain_perm x.ords lf5[k7] L5[k9]
        have pFl := flat_set eL9 pLP
        have pAll : (lf5.eraseIdx k7 ++ (L5.set k9 (lain x.ords lf5[k7] L5[k9])).flatten).Perm (lf5 ++ L5.flatten) :=
          (pFl.append_left _).trans (List.perm_middle.trans ((ep.symm.append_right L5.flatten)))
        refine ⟨_, _, _, _, _, d9, n5 + 1 + 1, q11, ls5.set k9 q10, L5.set k9 (lain x.ords lf5[k7] L5[k9]), lf5.eraseIdx k7, by rw [List.length_eraseIdx_of_lt hk7]; omega, rfl, ⟨s12 _ _ y9.src, y9.sb, fun b o e hb => s12 _ _ (y9.k b o e hb)⟩, by omega, s12 _ _ gp9, s12 _ _ gf9, by rw [List.map_set]; exact g11, pr_set (pr_mono (fun _ _ h => sqS s12 h) pr9) (sqS s11 g10), by rw [List.length_set]; exact ll5, pAll.nodup_iff.mpr nd5, by have := pAll.length_eq; rw [List.length_append, List.length_append] at this; omega, fun z hz => bd5 z (pAll.mem_iff.mp hz)⟩
    rintro _ H5 ⟨v9, v10, v11, v12, v14, d5, n5, dl5, ls5, L5, rfl, y5, hn5, gp5, gd5, pr5, ll5, nd5, bd5⟩
    -- the numbers
    have nln : ln ≠ p := fun z => by rw [z] at hln; exact absurd (hln.symm.trans f0) (by intro z; cases z)
    have nlp : lp ≠ p := fun z => by rw [z] at hlp; exact absurd (hlp.symm.trans f0) (by intro z; cases z)
    refine ⟨fun σ' H' => ∃ (d n : Int) (a : Addr) (zs : List Int), σ' = [some (.ref p), some (.ref tw), some (.ref ln), some (.ref lv), some (.ref lp), some (.ref lo), some (.bl x.jolt), some (.ref lpl), some (.ref llf), v9, v10, v11, v12, none, v14, some (.ref dl5), some (.ref a), none] ∧ Dw H5 H' p d c n ∧ n ≤ 1150 ∧ H' a = some (.tup (zs.map V.int)) ∧ zs.length = x.names.length ∧ ∀ z ∈ zs, Nb z, ?_, ?_⟩
    · have hn := w0 y5 _ _ hln
      refine ⟨_, rfl, ln, rfl, ⟨_, SqL.of hn⟩, fun D hD => ?_⟩
      have nDp : D ≠ p := (ne_of_none y5.src hD).symm
      refine lc_list (K := K) (a := ln) (xs := x.names.map V.str) (fun j H' => ∃ (d n : Int) (zs : List Int), Dw H5 H' p d c n ∧ n ≤ n5 + 2 * j ∧ H' D = some (.lst (zs.map V.int)) ∧ zs.length = j ∧ ∀ z ∈ zs, Nb z) ⟨d5, n5, [], (Dw.refl y5.src y5.sb).new hD, by omega, upd_same, rfl, fun _ z => nomatch z⟩ ?_ ?_ ?_
      · rintro j H' _ ⟨_, _, _, yj, _⟩
        exact SqL.of (yj.k _ _ hn nln)
      · rintro j v H' hj ⟨dj, nj, zs, yj, hnj, gj, lj, bj⟩
        have lj12 := (List.getElem?_eq_some_iff.mp hj).1
        rw [L0] at lj12
        refine ⟨rfl, ?_⟩
        dsimp only [tYes]
        refine iteT ⟨_, rfl, p, dj, c, nj, rfl, yj.src, yj.sb, by omega, fun d' n' r H'' hn' h1 h2 y' => ?_⟩
        refine ⟨_, y'.k _ _ gj nDp, by rw [List.length_map]; omega, d', n', zs ++ [r], ⟨by rw [upd_ne nDp.symm]; exact y'.src, y'.sb, fun b o e hb => by rw [upd_ne (ne_of_none e hD)]; exact y'.k _ _ (yj.k b o e hb) hb⟩, by omega, by rw [upd_same, List.map_append]; rfl, by rw [List.length_append, lj]; rfl, fun z hz => ?_⟩
        rcases List.mem_append.mp hz with hz | hz
        · exact bj z hz
        · rw [List.mem_singleton.mp hz]; exact ⟨h1, h2⟩
      · rintro H' ⟨dj, nj, zs, yj, hnj, gj, lj, bj⟩
        rw [L0] at lj hnj
        refine ⟨D, _, rfl, .inl ⟨SqL.of gj, fun a ha => ⟨dj, nj, a, zs, rfl, yj.new ha, by omega, upd_same, lj, bj⟩⟩⟩
    rintro _ H6 ⟨d6, n6, na, zs, rfl, y6, hn6, ga6, zl, zb⟩
    have kp : ∀ b o, H b = some o → b ≠ p → H6 b = some o := fun b o e hb => y6.k b o (y5.k b o e hb) hb
    have gp6 : H6 lpl = some (.lst (pls.map V.int)) := y6.k _ _ gp5 n1
    have up6 : ∀ {a : Addr} {zs : List V}, SqT K H5 a zs → SqT K H6 a zs := fun h => sqCh y5.src rfl y6.k h
    have gd6 := up6 gd5
    have pr6 : Paired (LnAt K H6) ls5 L5 := pr_mono (fun _ _ h => up6 h) pr5
    -- the answer
    refine ⟨_, rfl, _, rfl, lpl, _, rfl, .inl ⟨SqL.of gp6, fun pa hpa => ?_⟩⟩
    have y7 := y6.new (o := .tup (pls.map V.int)) hpa
    have s7 := sameNew (o := .tup (pls.map V.int)) hpa
    have gpa7 : (upd H6 pa (.tup (pls.map V.int))) pa = some (.tup (pls.map V.int)) := upd_same
    generalize upd H6 pa (.tup (pls.map V.int)) = H7 at y7 s7 gpa7
    have hlp7 : H7 lp = some (.lst (ps.map V.ref)) := s7 _ _ (kp _ _ (s0 _ _ hlp) nlp)
    have lps : (ps.map V.ref).length = x.plans.length := by rw [List.length_map, pr_len hpl]
    refine ⟨_, rfl, lp, rfl, ⟨_, SqL.of hlp7⟩, fun D hD => ?_⟩
    have nDp : D ≠ p := (ne_of_none y7.src hD).symm
    have y70 : Dw H7 H7 p d6 c n6 := Dw.refl y7.src y7.sb
    refine lc_list (K := K) (a := lp) (xs := ps.map V.ref) (fun j H' => ∃ (d n : Int) (zs : List Int), Dw H7 H' p d c n ∧ n ≤ n6 + 2 * j ∧ H' D = some (.lst (zs.map V.int)) ∧ zs.length = j ∧ ∀ z ∈ zs, Nb z) ⟨d6, n6, [], y70.new hD, by omega, upd_same, rfl, fun _ z => nomatch z⟩ ?_ ?_ ?_
    · rintro j H' _ ⟨_, _, _, yj, _⟩
      exact SqL.of (yj.k _ _ hlp7 nlp)
    · rintro j v H' hj ⟨dj, nj, zs, yj, hnj, gj, lj, bj⟩
      have lj12 := (List.getElem?_eq_some_iff.mp hj).1
      rw [lps] at lj12
      refine ⟨rfl, ?_⟩
      dsimp only [tYes]
      refine iteT ⟨_, rfl, p, dj, c, nj, rfl, yj.src, yj.sb, by omega, fun d' n' r H'' hn' h1 h2 y' => ?_⟩
      refine ⟨_, y'.k _ _ gj nDp, by rw [List.length_map]; omega, d', n', zs ++ [r], ⟨by rw [upd_ne nDp.symm]; exact y'.src, y'.sb, fun b o e hb => by rw [upd_ne (ne_of_none e hD)]; exact y'.k _ _ (yj.k b o e hb) hb⟩, by omega, by rw [upd_same, List.map_append]; rfl, by rw [List.length_append, lj]; rfl, fun z hz => ?_⟩
      rcases List.mem_append.mp hz with hz | hz
      · exact bj z hz
      · rw [List.mem_singleton.mp hz]; exact ⟨h1, h2⟩
    · rintro H' ⟨dj, nj, os, yj, hnj, gj, lj, bj⟩
      rw [lps] at lj
      refine ⟨D, _, rfl, .inl ⟨SqL.of gj, fun oa hoa => ?_⟩⟩
      have s9 := sameNew (o := .tup (os.map V.int)) hoa
      have up8 : ∀ {a : Addr} {zs : List V}, SqT K H7 a zs → SqT K H' a zs := fun h => sqCh y7.src rfl yj.k h
      refine ⟨_, rfl, by show 4 ≤ sizeLine; omega, fun tt htt => ?_⟩
      have s10 := s9.trans (sameNew (o := .tup [.ref na, .ref pa, .ref oa, .ref dl5]) htt)
      refine q tt ⟨zs, pls, os, L5⟩ _ ⟨zl, lpl', lj, ll5, pb, zb, bj, nd5, bd5⟩ (fun b o e hb => s10 _ _ (yj.k _ _ (s7 _ _ (kp b o e hb)) hb)) ⟨na, pa, oa, dl5, ls5, SqT.of upd_same, sqS s10 (up8 (sqS s7 (SqT.of ga6))), sqS s10 (up8 (SqT.of gpa7)), sqS (sameNew htt) (SqT.of upd_same), sqS s10 (up8 (sqS s7 gd6)), pr_mono (fun _ _ h => sqS s10 (up8 (sqS s7 h))) pr6⟩
end
end Wo

set_option Elab.async false
set_option maxRecDepth 100000
set_option linter.all false
set_option maxHeartbeats 8000000
namespace Wo
open PySem L2 TL Rl Tb Wf Dc
/-! ### who sleeps, and at which row -/
def Stt.asl (S : Stt) (g : Nat) : Bool := decide ((g : Int) ∈ S.lines.flatten)
def Stt.plc (S : Stt) (g : Nat) : Int := S.places.getD g 0
def rowAt (x : Wrld) (S : Stt) (g : Nat) : Option Rw := (x.plans.getD g [])[(S.plc g).toNat]?
def Rw.late : Rw → Int
  | .wait _ _ _ _ l => l
  | .still _ _ _ l => l
  | _ => -1
def slI (x : Wrld) (S : Stt) : List Int := ((List.range x.plans.length).filter S.asl).map fun (g : Nat) => (g : Int)
theorem flats (zs : List Int) : (zs.map V.int).all flatV = true := List.all_eq_true.mpr fun v hv => by obtain ⟨z, _, rfl⟩ := List.mem_map.mp hv; rfl
section
variable {x : Wrld} {S : Stt}
theorem Stt.ok.lt (h : S.ok x) {z : Int} (hz : z ∈ S.lines.flatten) : ∃ g : Nat, z = (g : Int) ∧ g < x.plans.length := by
  obtain ⟨g, pl, k, r, e, hp, _⟩ := h.bed z hz
  exact ⟨g, e, (List.getElem?_eq_some_iff.mp hp).1⟩
theorem Stt.ok.place (h : S.ok x) {g : Nat} (hg : g < x.plans.length) : S.places[g]? = some (S.plc g) ∧ 0 ≤ S.plc g ∧ S.plc g ≤ (x.plans.getD g []).length ∧ x.plans[g]? = some (x.plans.getD g []) := by
  have hg2 : g < S.places.length := by rw [h.pl]; exact hg
  have e1 : S.places[g]? = some (S.plc g) := by unfold Stt.plc; rw [List.getD_eq_getElem?_getD, List.getElem?_eq_getElem hg2]; rfl
  have e2 : x.plans[g]? = some (x.plans.getD g []) := by rw [List.getD_eq_getElem?_getD, List.getElem?_eq_getElem hg]; rfl
  obtain ⟨a, b⟩ := h.pb g _ _ e2 e1
  exact ⟨e1, a, b, e2⟩
theorem Stt.ok.sleeps (h : S.ok x) {g : Nat} (hg : g < x.plans.length) (hs : S.asl g = true) : ∃ r, rowAt x S g = some r ∧ r.bed = true ∧ S.plc g < (x.plans.getD g []).length := by
  obtain ⟨g', pl, k, r, e, hp, hpl, hk, hb⟩ := h.bed _ (of_decide_eq_true hs)
  obtain rfl : g = g' := Int.ofNat.inj e
  obtain ⟨e1, _, _, e2⟩ := h.place hg
  rw [hp] at e2
  have e2 := Option.some.inj e2
  rw [hpl] at e1
  have e1 := Option.some.inj e1
  refine ⟨r, ?_, hb, ?_⟩
  · unfold rowAt
    rw [← e2, ← e1, Int.toNat_natCast]
    exact hk
  · rw [← e2, ← e1]
    have := (List.getElem?_eq_some_iff.mp hk).1
    omega
theorem perm_sleep (h : S.ok x) : (slI x S).Perm S.lines.flatten := by
  have n1 : (slI x S).Nodup := (List.nodup_range.filter _).map Int.ofNat (fun a b h e => h (Int.ofNat.inj e)) |> fun z => z
  rw [List.perm_ext_iff_of_nodup n1 h.nd]
  intro z
  constructor
  · intro hz
    obtain ⟨g, hg, rfl⟩ := List.mem_map.mp hz
    exact of_decide_eq_true (List.mem_filter.mp hg).2
  · intro hz
    obtain ⟨g, rfl, hg⟩ := h.lt hz
    exact List.mem_map.mpr ⟨g, List.mem_filter.mpr ⟨List.mem_range.mpr hg, decide_eq_true hz⟩, rfl⟩
theorem sorted_sleep : (slI x S).Pairwise (· ≤ ·) := by
  unfold slI
  rw [List.pairwise_map]
  exact ((List.pairwise_lt_range.filter _).imp (fun {a b} h => by omega))
theorem sleep_one (h : S.ok x) {ns : List Int} (p : ns.Perm S.lines.flatten) (s : ns.Pairwise (· ≤ ·)) : ns = slI x S :=
  List.Perm.eq_of_pairwise (fun a b _ _ h1 h2 => Int.le_antisymm h1 h2) s sorted_sleep (p.trans (perm_sleep h).symm)
theorem sleep_len (h : S.ok x) (h8 : x.plans.length ≤ 8) : S.lines.flatten.length ≤ 8 := by
  rw [← (perm_sleep h).length_eq]
  unfold slI
  rw [List.length_map]
  exact Nat.le_trans (List.length_filter_le _ _) (by rw [List.length_range]; exact h8)
end
theorem any_in (g : Int) : ∀ L : List (List Int), (L.map fun l => decide (g ∈ l)).any id = decide (g ∈ L.flatten)
  | [] => rfl
  | a :: r => by
    rw [List.map_cons, List.any_cons, any_in g r, List.flatten_cons]
    show (decide (g ∈ a) || decide (g ∈ r.flatten)) = decide (g ∈ a ++ r.flatten)
    by_cases h : g ∈ a
    · rw [decide_eq_true h, decide_eq_true (List.mem_append.mpr (.inl h))]; rfl
    · rw [decide_eq_false h, Bool.false_or, decide_eq_decide, List.mem_append]
      exact ⟨.inr, fun z => z.resolve_left h⟩
theorem v_last (r : Rw) (h : r.bed = true) : atI r.v (-1) = some (.int r.late) ∧ atI r.v ((r.v.length : Int) - 1) = some (.int r.late) := by
  cases r <;> first | exact Bool.noConfusion h | exact ⟨rfl, rfl⟩
def spAsleep (K : PySem.W.Frag) : Sp := fun vs H Q _ => ∃ (t : Addr) (g : Nat) (S : Stt), vs = [.ref t, .int (g : Nat)] ∧ SAt K H t S ∧ S.lines.length ≤ 12 ∧ ∀ H', Same H H' → Q (.bl (S.asl g)) H'
def spLRow (K : PySem.W.Frag) : Sp := fun vs H Q _ => ∃ (tw t : Addr) (g : Nat) (S : Stt) (x : Wrld), vs = [.ref tw, .ref t, .int (g : Nat)] ∧ WAt H tw x ∧ SAt K H t S ∧ S.ok x ∧ g < x.plans.length ∧
  (∀ a r, rowAt x S g = some r → H a = some (.tup r.v) → Q (.ref a) H) ∧ (rowAt x S g = none → Q .non H)
def spSleepers (K : PySem.W.Frag) : Sp := fun vs H Q _ => ∃ (t : Addr) (S : Stt) (x : Wrld), vs = [.ref t] ∧ SAt K H t S ∧ S.ok x ∧ x.plans.length ≤ 8 ∧ ∀ l H', Same H H' → H l = none → H' l = some (.lst ((slI x S).map V.int)) → Q (.ref l) H'
def spLatePlace (K : PySem.W.Frag) : Sp := fun vs H Q _ => ∃ (a : Addr) (r : Rw), vs = [.ref a] ∧ SqT K H a r.v ∧ r.bed = true ∧ Q (.int r.late) H
def spRowAt (C : Addr) (K : PySem.W.Frag) : Sp := fun vs H Q _ => ∃ (o t : Addr) (g : Nat) (S : Stt) (x : Wrld), vs = [.ref o, .ref t, .int (g : Nat)] ∧ WO C H o x ∧ SAt K H t S ∧ S.ok x ∧ g < x.plans.length ∧ S.plc g < (x.plans.getD g []).length ∧
  ∀ a r, rowAt x S g = some r → H a = some (.tup r.v) → Q (.ref a) H
section
variable {P : Program} {w : World} {K : PySem.W.Frag} {mg : Str → Option Value} {base : Heap}
theorem scLAsleep : FnScope ["_law_state", "_law_guest", "_law_line"] ["_law_state", "_law_guest"] (defScope sLAsleep) := ⟨rfl, rfl, rfl, by decide +kernel, rfl, by decide +kernel, by decide +kernel⟩
theorem ok_asleep {f : Addr} {fd : FuncData} (F : Fun K "_law_asleep" "_law_asleep" sLAsleep f fd) (gany : mg "any" = none) : FnOk P w K mg base CX0 1 f fd ["_law_state", "_law_guest"] (spAsleep K) := by
  refine F.ok scLAsleep (fun vs H Q E h => ?_) (fun cdv A outer s H vs Q E hr h => ?_)
  · obtain ⟨t, g, S, rfl, _⟩ := h
    rfl
  · obtain ⟨t, g, S, rfl, hS, l12, q⟩ := h
    have zz : 3000 < sizeLine := by rw [sizeLine_eq]; decide
    obtain ⟨a, b, c, d, ls, h1, h2, h3, h4, h5, h6⟩ := hS
    refine ⟨_, (pss_one (ps_ret (pe_callB (cr_any rfl) (by rfl) gany (by decide +kernel) (pa_cons (pe_lc (own := [("_law_line", 2)]) (g := (gName 2)) (by rfl) scLAsleep.nd (pi_tup (pe_ix ix_tup (pv 0) pe_int (fun _ _ => rfl))) (blkOk_by (own := [("_law_line", 2)]) (N := ["_law_state", "_law_guest", "_law_line"]) (sc := defScope sLAsleep) (by decide +kernel)) (fun _ _ _ _ _ => (pg_name (i := 2) scLAsleep.nd rfl (Or.inl rfl))) (fun _ _ _ _ _ => pts_nil) (fun _ _ _ _ _ => (pe_cmpR (op_in_seqK (K := K) rfl) (pv 1) (pv 2) (by rfl)))) pa_nil)))), ?_⟩
    refine ⟨_, rfl, t, _, _, _, rfl, rfl, h1, atI_nat (j := 3) rfl, d, rfl, ⟨_, h5⟩, fun D hD => ?_⟩
    have ll : ls.length = S.lines.length := pr_len h6
    refine lc_tup (K := K) (a := d) (xs := ls.map V.ref) (fun j H' => Same H H' ∧ H' D = some (.lst (((S.lines.take j).map fun l => decide ((g : Int) ∈ l)).map V.bl))) ⟨sameNew hD, upd_same⟩ ?_ ?_ ?_
    · rintro j H' _ ⟨sj, _⟩
      exact sqS sj h5
    · rintro j v H' hj ⟨sj, gj⟩
      obtain ⟨a0, rfl, ha0⟩ := ref_at hj
      obtain ⟨l, hl, hla⟩ := pr_get h6 ha0
      have lj := (List.getElem?_eq_some_iff.mp hl).1
      refine ⟨rfl, ?_⟩
      dsimp only [tYes]
      refine iteT ⟨_, rfl, _, rfl, a0, _, rfl, .inr (sqS sj hla), rfl, flats _, _, gj, by rw [List.length_map, List.length_map, List.length_take]; omega, fun b o e => by rw [upd_ne (ne_of_none e hD)]; exact sj b o e, ?_⟩
      rw [upd_same, List.take_succ, hl, List.map_append, List.map_append]
      show some (HO.lst (_ ++ [V.bl (inV (V.int (g : Nat)) (l.map V.int))])) = _
      rw [inV_ints]; rfl
    · rintro H' ⟨sj, gj⟩
      rw [List.length_map, ll, List.take_length] at gj
      refine ⟨D, _, rfl, SqL.of gj, ?_⟩
      rw [any_in]
      exact q H' sj
theorem scLRow : FnScope ["_law_world_here", "_law_state", "_law_guest", "_law_plan"] ["_law_world_here", "_law_state", "_law_guest"] (defScope sLRow) := ⟨rfl, rfl, rfl, by decide +kernel, rfl, by decide +kernel, by decide +kernel⟩
theorem ok_lrow {f : Addr} {fd : FuncData} (F : Fun K "_law_row" "_law_row" sLRow f fd) (G : Glb mg) : FnOk P w K mg base CX0 1 f fd ["_law_world_here", "_law_state", "_law_guest"] (spLRow K) := by
  refine F.ok scLRow (fun vs H Q E h => ?_) (fun cdv A outer s H vs Q E hr h => ?_)
  · obtain ⟨tw, t, g, S, x, rfl, _⟩ := h
    rfl
  · obtain ⟨tw, t, g, S, x, rfl, hW, hS, ok, hg, q1, q2⟩ := h
    obtain ⟨a, b, c, d, ls, h1, h2, h3, h4, h5, h6⟩ := hS
    obtain ⟨ln, lv, lp, lo, ps, ht, hln, hlv, hlp, hpl, hlo⟩ := hW
    obtain ⟨e1, p0, p1, e2⟩ := ok.place hg
    have lps : ps.length = x.plans.length := pr_len hpl
    have hq : ps[g]? = some ps[g] := List.getElem?_eq_getElem (by omega)
    obtain ⟨pl, hpl2, as, hqa, hpas⟩ := pr_get hpl hq
    rw [hpl2] at e2
    have e2 := Option.some.inj e2
    have las : as.length = pl.length := pr_len hpas
    obtain ⟨k, hk⟩ := Int.eq_ofNat_of_zero_le p0
    have hrow : rowAt x S g = pl[k]? := by unfold rowAt; rw [← e2, hk, Int.toNat_natCast]
    have hpk : atI (S.places.map V.int) (g : Nat) = some (.int (k : Int)) := atI_nat (by rw [List.getElem?_map, e1, hk]; rfl)
    refine ⟨_, (pss_cons (ps_set (i := 3) scLRow.nd rfl (Or.inl rfl) (pe_ix ix_list (pe_ix ix_tup (pv 0) pe_int (fun _ _ => rfl)) (pv 2) (fun _ _ => rfl)))
      (pss_cut (ps_if (pt_cmpR op_lt (pe_ix ix_tup (pe_ix ix_tup (pv 1) pe_int (fun _ _ => rfl)) (pv 2) (fun _ _ => rfl)) (pe_callB call_len_seq (by rfl) G.len PySem.boot_len (pa_cons (pv 3) pa_nil)) (nomark _)) (pss_one (ps_ret (pe_ix ix_list (pv 3) (pe_ix ix_tup (pe_ix ix_tup (pv 1) pe_int (fun _ _ => rfl)) (pv 2) (fun _ _ => rfl)) (fun _ _ => rfl)))) pss_nil)
      (pss_one (ps_ret pe_non)))), ?_⟩
    refine ⟨_, rfl, tw, _, _, _, rfl, rfl, SqT.of ht, atI_nat (j := 2) rfl, _, rfl, lp, _, _, _, rfl, rfl, SqL.of hlp, atI_nat (by rw [List.getElem?_map, hq]; rfl), ?_⟩
    refine ⟨fun σ' H' => σ' = [some (.ref tw), some (.ref t), some (.int (g : Nat)), some (.ref ps[g])] ∧ H' = H ∧ pl.length ≤ k, ?_, ?_⟩
    · refine ⟨_, rfl, t, _, _, _, rfl, rfl, h1, atI_nat (j := 1) rfl, _, rfl, b, _, _, _, rfl, rfl, h3, hpk, _, rfl, _, _, rfl, .inl (SqL.of hqa), ?_⟩
      refine ⟨_, _, rfl, rfl, _, rfl, ?_⟩
      rw [List.length_map, las]
      by_cases hlt : k < pl.length
      · refine iteT' (decide_eq_true (by omega)) ⟨_, rfl, _, rfl, t, _, _, _, rfl, rfl, h1, atI_nat (j := 1) rfl, _, rfl, b, _, _, _, rfl, rfl, h3, hpk, ?_⟩
        have ha : as[k]? = some as[k] := List.getElem?_eq_getElem (by omega)
        obtain ⟨r, hr0, hra⟩ := pr_get hpas ha
        exact ⟨_, _, _, _, rfl, rfl, SqL.of hqa, atI_nat (by rw [List.getElem?_map, ha]; rfl), q1 _ r (hrow.trans hr0) hra⟩
      · exact iteF' (decide_eq_false (by omega)) ⟨rfl, rfl, by omega⟩
    rintro _ H' ⟨rfl, rfl, hle⟩
    exact q2 (hrow.trans (List.getElem?_eq_none hle))
theorem scSleepers : FnScope ["state", "line", "guest"] ["state"] (defScope sSleepers) := ⟨rfl, rfl, rfl, by decide +kernel, rfl, by decide +kernel, by decide +kernel⟩
theorem ok_sleepers {f : Addr} {fd : FuncData} (F : Fun K "sleepers" "sleepers" sSleepers f fd) (G : Glb mg) : FnOk P w K mg base CX0 1 f fd ["state"] (spSleepers K) := by
  refine F.ok scSleepers (fun vs H Q E h => ?_) (fun cdv A outer s H vs Q E hr h => ?_)
  · obtain ⟨t, S, x, rfl, _⟩ := h
    rfl
  · obtain ⟨t, S, x, rfl, hS, ok, h8, q⟩ := h
    have zz : 3000 < sizeLine := by rw [sizeLine_eq]; decide
    obtain ⟨a, b, c, d, ls, h1, h2, h3, h4, h5, h6⟩ := hS
    have ll : ls.length = S.lines.length := pr_len h6
    have sl8 := sleep_len ok h8
    refine ⟨_, (pss_one (ps_ret (pe_callB cr_sorted (by rfl) G.sorted PyProof.Rows.boot_sorted (pa_cons (pe_lc2 (own := [("line", 1), ("guest", 2)]) (vs1 := [2]) (g := (gName 1)) (g1 := (gName 2)) (by rfl) scSleepers.nd (pi_tup (pe_ix ix_tup (pv 0) pe_int (fun _ _ => rfl))) (blkOk_by (own := [("line", 1), ("guest", 2)]) (N := ["state", "line", "guest"]) (sc := defScope sSleepers) (by decide +kernel)) (by decide) (fun _ _ _ _ _ => (pg_name (i := 1) scSleepers.nd rfl (Or.inl rfl))) (fun _ _ _ _ _ => pts_nil) (fun _ _ _ _ _ => (pi_tupK (K := K) rfl (pv 1))) (fun _ _ _ _ _ => (pg_name (i := 2) scSleepers.nd rfl (Or.inl rfl))) (fun _ _ _ _ _ => pts_nil) (fun _ _ _ _ _ => (pv 2))) pa_nil)))), ?_⟩
    refine ⟨_, rfl, t, _, _, _, rfl, rfl, h1, atI_nat (j := 3) rfl, d, rfl, ⟨_, h5⟩, fun D hD => ?_⟩
    have up : ∀ {L M : List Int}, (L ++ M).length ≤ 8 → L.length ≤ 8 := fun h => by rw [List.length_append] at h; omega
    refine lc2_tup (K := K) (a := d) (xs := ls.map V.ref) (fun i H' => Same H H' ∧ H' D = some (.lst ((S.lines.take i).flatten.map V.int))) (fun i j H' => Same H H' ∧ H' D = some (.lst (((S.lines.take i).flatten ++ (S.lines.getD i []).take j).map V.int)))
      (fun i => (S.lines.getD i []).map V.int) (fun i => ls.getD i 0) ⟨sameNew hD, upd_same⟩ ?_ ?_ ?_ ?_ ?_ ?_ ?_
    · rintro i H' _ ⟨sj, _⟩
      exact sqS sj h5
    · rintro i j H' hi _ ⟨sj, _⟩
      rw [List.length_map] at hi
      have hi2 : ls[i]? = some ls[i] := List.getElem?_eq_getElem hi
      obtain ⟨l, hl, hla⟩ := pr_get h6 hi2
      rw [List.getD_eq_getElem?_getD, List.getD_eq_getElem?_getD, hl, hi2]
      exact sqS sj hla
    · rintro i v H' hi ⟨sj, gj⟩
      obtain ⟨a0, rfl, ha0⟩ := ref_at hi
      obtain ⟨l, hl, hla⟩ := pr_get h6 ha0
      have eb : ls.getD i 0 = a0 := by rw [List.getD_eq_getElem?_getD, ha0]; rfl
      have el : S.lines.getD i [] = l := by rw [List.getD_eq_getElem?_getD, hl]; rfl
      refine ⟨rfl, _, rfl, a0, rfl, ⟨_, sqS sj hla⟩, ?_⟩
      refine ⟨by rw [eb], ⟨sj, by rw [List.take_zero, List.append_nil]; exact gj⟩, ?_⟩
      rintro j y H3 hj ⟨sj3, gj3⟩
      rw [el, List.getElem?_map] at hj
      obtain ⟨z, hz, rfl⟩ : ∃ z, l[j]? = some z ∧ y = V.int z := by
        cases e : l[j]? with
        | none => rw [e] at hj; cases hj
        | some z => rw [e] at hj; exact ⟨z, rfl, (Option.some.inj hj).symm⟩
      have lj := (List.getElem?_eq_some_iff.mp hz).1
      have lt : ((S.lines.take i).flatten ++ l.take j).length ≤ 8 := by
        have e1 : S.lines.flatten = (S.lines.take i).flatten ++ (l ++ (S.lines.drop (i + 1)).flatten) := by
          have li := (List.getElem?_eq_some_iff.mp hl).1
          have e0 : l = S.lines[i] := by rw [List.getElem?_eq_getElem li] at hl; exact (Option.some.inj hl).symm
          conv => lhs; rw [← List.take_append_drop i S.lines, List.flatten_append, List.drop_eq_getElem_cons li, List.flatten_cons, ← e0]
        rw [e1, List.length_append, List.length_append] at sl8
        rw [List.length_append, List.length_take]; omega
      refine ⟨rfl, _, rfl, _, gj3, by rw [List.length_map, el]; omega, fun b o e => by rw [upd_ne (ne_of_none e hD)]; exact sj3 b o e, ?_⟩
      rw [upd_same, el, List.take_succ, hz, ← List.append_assoc, List.map_append (l₂ := (some z).toList)]; rfl
    · rintro i H' hi ⟨sj, gj⟩
      rw [List.length_map] at hi
      have hl : S.lines[i]? = some S.lines[i] := List.getElem?_eq_getElem (by omega)
      refine ⟨sj, ?_⟩
      rw [gj, List.length_map, List.take_length, List.take_succ, hl, List.flatten_append, List.getD_eq_getElem?_getD, hl]
      simp
    · rintro H' ⟨sj, gj⟩
      rw [List.length_map, ll, List.take_length] at gj
      refine ⟨D, _, rfl, SqL.of gj, by omega, fun ns p pm srt hp => ?_⟩
      rw [sleep_one ok pm srt] 
      exact q p _ (sj.trans (sameNew hp)) (by
        cases e : H p with
        | none => rfl
        | some o => rw [sj _ _ e] at hp; cases hp) upd_same
    · rintro σ H R R' ⟨u, e, a0, e2, h, r⟩ m
      exact ⟨u, e, a0, e2, h, m _ _ r⟩
    · intro x σ H R R' h m
      exact m _ _ h
theorem scLatePlace : FnScope ["row"] ["row"] (defScope sLatePlace) := ⟨rfl, rfl, rfl, by decide +kernel, rfl, by decide +kernel, by decide +kernel⟩
theorem ok_latePlace {f : Addr} {fd : FuncData} (F : Fun K "late_place" "late_place" sLatePlace f fd) : FnOk P w K mg base CX0 1 f fd ["row"] (spLatePlace K) := by
  refine F.ok scLatePlace (fun vs H Q E h => ?_) (fun cdv A outer s H vs Q E hr h => ?_)
  · obtain ⟨a, r, rfl, _⟩ := h
    rfl
  · obtain ⟨a, r, rfl, ha, hb, q⟩ := h
    refine ⟨_, (pss_one (ps_ret (pe_ix ix_tup (pv 0) (pe_un un_neg pe_int) (fun _ _ => rfl)))), ?_⟩
    exact ⟨_, rfl, _, rfl, a, _, _, _, rfl, rfl, ha, (v_last r hb).1, q⟩
theorem scWorld_row_at : FnScope ["self", "state", "guest"] ["self", "state", "guest"] (defScope sWorld_row_at) := ⟨rfl, rfl, rfl, by decide +kernel, rfl, by decide +kernel, by decide +kernel⟩
theorem ok_rowAt {f C : Addr} {fd : FuncData} (F : Fun K "row_at" "World.row_at" sWorld_row_at f fd) (T : TxW K C) : FnOk P w K mg base CX0 1 f fd ["self", "state", "guest"] (spRowAt C K) := by
  refine F.ok scWorld_row_at (fun vs H Q E h => ?_) (fun cdv A outer s H vs Q E hr h => ?_)
  · obtain ⟨o, t, g, S, x, rfl, _⟩ := h
    rfl
  · obtain ⟨o, t, g, S, x, rfl, hW, hS, ok, hg, hlt, q⟩ := h
    obtain ⟨a, b, c, d, ls, h1, h2, h3, h4, h5, h6⟩ := hS
    obtain ⟨dx, ds, tn, lp, lm, lr, ps, hp, hds, _, hlp, hpl, _, _⟩ := hW
    obtain ⟨e1, p0, p1, e2⟩ := ok.place hg
    have lps : ps.length = x.plans.length := pr_len hpl
    have hq : ps[g]? = some ps[g] := List.getElem?_eq_getElem (by omega)
    obtain ⟨pl, hpl2, as, hqa, hpas⟩ := pr_get hpl hq
    rw [hpl2] at e2
    have e2 := Option.some.inj e2
    have las : as.length = pl.length := pr_len hpas
    obtain ⟨k, hk⟩ := Int.eq_ofNat_of_zero_le p0
    rw [← e2, hk] at hlt
    have hrow : rowAt x S g = pl[k]? := by unfold rowAt; rw [← e2, hk, Int.toNat_natCast]
    have hpk : atI (S.places.map V.int) (g : Nat) = some (.int (k : Int)) := atI_nat (by rw [List.getElem?_map, e1, hk]; rfl)
    have ha : as[k]? = some as[k] := List.getElem?_eq_getElem (by omega)
    obtain ⟨r, hr0, hra⟩ := pr_get hpas ha
    refine ⟨_, (pss_one (ps_ret (pe_ix ix_list (pe_ix ix_list (pe_fld (pv 0) rfl) (pv 2) (fun _ _ => rfl)) (pe_ix ix_tup (pe_ix ix_tup (pv 1) pe_int (fun _ _ => rfl)) (pv 2) (fun _ _ => rfl)) (fun _ _ => rfl)))), ?_⟩
    exact ⟨_, rfl, o, C, dx, _, _, rfl, hp, T.cl, T.plans, wf_plans, _, rfl, lp, _, _, _, rfl, rfl, SqL.of hlp, atI_nat (by rw [List.getElem?_map, hq]; rfl), _, rfl, t, _, _, _, rfl, rfl, h1, atI_nat (j := 1) rfl, _, rfl, b, _, _, _, rfl, rfl, h3, hpk, _, _, _, _, rfl, rfl, SqL.of hqa, atI_nat (by rw [List.getElem?_map, ha]; rfl), q _ r (hrow.trans hr0) hra⟩
end
end Wo

set_option Elab.async false
set_option maxRecDepth 100000
set_option linter.all false
set_option maxHeartbeats 8000000
namespace Wo
open PySem L2 TL Rl Tb Wf Dc
/-! ### the moves that are possible -/
theorem pr_app {α β : Type} {R : α → β → Prop} : ∀ {xs : List α} {ys : List β} {zs : List α} {ws : List β}, Paired R xs ys → Paired R zs ws → Paired R (xs ++ zs) (ys ++ ws)
  | _, _, _, _, .nil, h => h
  | _, _, _, _, .cons r t, h => .cons r (pr_app t h)
def mvs (w : Str) (b : Nat → Bool) (n : Nat) : List (Str × Int) := ((List.range n).filter b).map fun (g : Nat) => (w, (g : Int))
theorem mvs_add (w : Str) (b : Nat → Bool) (n : Nat) : mvs w b (n + 1) = mvs w b n ++ (if b n = true then [(w, (n : Int))] else []) := by
  unfold mvs
  rw [List.range_succ, List.filter_append, List.map_append]
  congr 1
  cases h : b n <;> simp [h]
theorem mvs_len (w : Str) (b : Nat → Bool) (n : Nat) : (mvs w b n).length ≤ n := by
  unfold mvs
  rw [List.length_map]
  exact Nat.le_trans (List.length_filter_le _ _) (by rw [List.length_range]; exact Nat.le_refl _)
def stepB (x : Wrld) (S : Stt) (g : Nat) : Bool := !S.asl g && (rowAt x S g).isSome
def lateB (x : Wrld) (S : Stt) (g : Nat) : Bool := S.asl g && (match rowAt x S g with | some r => decide (r.late ≠ -1) | none => false)
def nudB (x : Wrld) (S : Stt) (g : Nat) : Bool := x.jolt && S.asl g
def canL (x : Wrld) (S : Stt) : List (Str × Int) := mvs "step" (stepB x S) x.plans.length ++ mvs "late" (lateB x S) x.plans.length ++ mvs "nudge" (nudB x S) x.plans.length
def MvAt (K : PySem.W.Frag) (H : Hp) (a : Addr) (m : Str × Int) : Prop := SqT K H a [.str m.1, .int m.2]
def LsM (K : PySem.W.Frag) (H : Hp) (l : Addr) (ms : List (Str × Int)) : Prop := ∃ as, H l = some (.lst (as.map V.ref)) ∧ Paired (MvAt K H) as ms
section
variable {K : PySem.W.Frag} {H H' : Hp} {l l' t : Addr} {as : List Addr} {ms : List (Str × Int)} {w : Str} {g : Int}
theorem mvS (s : Same H H') (p : Paired (MvAt K H) as ms) : Paired (MvAt K H') as ms := pr_mono (fun _ _ h => sqS s h) p
theorem LsM.same (s : Same H H') (h : LsM K H l ms) : LsM K H' l ms := let ⟨as, a, p⟩ := h; ⟨as, s _ _ a, mvS s p⟩
/-- a list's end is changed -/
theorem mvC {xs ys : List V} (hl : H l = some (.lst xs)) (p : Paired (MvAt K H) as ms) : Paired (MvAt K (upd H l (.lst ys))) as ms := pr_mono (fun _ _ h => sqCh hl rfl (fun b o e hb => by rw [upd_ne hb]; exact e) h) p
theorem mvPush {xs : List V} (hl : H l = some (.lst xs)) (p : Paired (MvAt K H) as ms) (ht : H t = none) (w : Str) (g : Int) (ys : List V) : Paired (MvAt K (upd (upd H t (.tup [.str w, .int g])) l (.lst ys))) (as ++ [t]) (ms ++ [(w, g)]) := by
  have e1 := sameNew (o := .tup [.str w, .int g]) ht _ _ hl
  exact mvC e1 (pr_add (mvS (sameNew ht) p) (show SqT K _ t [.str w, .int g] from SqT.of upd_same))
theorem mvKeep {xs : List V} (hl : H l = some (.lst xs)) (p : Paired (MvAt K H) as ms) (ht : H t = none) {o : HO} (ys : List V) : Paired (MvAt K (upd (upd H t o) l (.lst ys))) as ms := mvC (sameNew ht _ _ hl) (mvS (sameNew ht) p)
theorem ls_cat {ms ns : List (Str × Int)} (h1 : LsM K H l ms) (h2 : LsM K H l' ns) (b1 : ms.length ≤ 100) (b2 : ns.length ≤ 100) {Q : VK} (q : ∀ p H', Same H H' → H p = none → LsM K H' p (ms ++ ns) → Q (.ref p) H') : rCat (.ref l) (.ref l') H Q := by
  obtain ⟨as, a1, p1⟩ := h1
  obtain ⟨bs, a2, p2⟩ := h2
  have zz : 3000 < sizeLine := by rw [sizeLine_eq]; decide
  have l1 := pr_len p1
  have l2 := pr_len p2
  refine ⟨l, l', _, _, rfl, rfl, a1, a2, by rw [List.length_map, List.length_map]; omega, fun p hp => q p _ (sameNew hp) hp ⟨as ++ bs, by rw [upd_same, List.map_append], pr_app (mvS (sameNew hp) p1) (mvS (sameNew hp) p2)⟩⟩
end
section
variable {x : Wrld} {S : Stt}
theorem sl_mem {g : Nat} (hg : g < x.plans.length) : decide ((g : Int) ∈ slI x S) = S.asl g := by
  rw [Bool.eq_iff_iff, decide_eq_true_iff]
  unfold slI
  constructor
  · intro h
    obtain ⟨g', h1, h2⟩ := List.mem_map.mp h
    rw [← Int.ofNat.inj h2]
    exact (List.mem_filter.mp h1).2
  · intro h
    exact List.mem_map.mpr ⟨g, List.mem_filter.mpr ⟨List.mem_range.mpr hg, h⟩, rfl⟩
theorem sl_at {g : Int} (h : g ∈ slI x S) : ∃ k : Nat, g = (k : Int) ∧ k < x.plans.length ∧ S.asl k = true := by
  obtain ⟨k, h1, rfl⟩ := List.mem_map.mp h
  exact ⟨k, rfl, List.mem_range.mp (List.mem_filter.mp h1).1, (List.mem_filter.mp h1).2⟩
theorem sl_len : (slI x S).length ≤ x.plans.length := by
  unfold slI
  rw [List.length_map]
  exact Nat.le_trans (List.length_filter_le _ _) (by rw [List.length_range]; exact Nat.le_refl _)
theorem sl_late : ((slI x S).filter fun z => lateB x S z.toNat).map (fun z => (("late" : Str), z)) = mvs "late" (lateB x S) x.plans.length := by
  unfold slI mvs
  rw [List.filter_map, List.map_map, List.filter_filter]
  congr 1
  refine List.filter_congr fun g _ => ?_
  show (lateB x S (g : Int).toNat && S.asl g) = lateB x S g
  rw [Int.toNat_natCast]
  unfold lateB
  cases S.asl g <;> simp
theorem sl_nudge (h : x.jolt = true) : (slI x S).map (fun z => (("nudge" : Str), z)) = mvs "nudge" (nudB x S) x.plans.length := by
  unfold slI mvs
  rw [List.map_map]
  congr 1
  refine List.filter_congr fun g _ => ?_
  unfold nudB
  rw [h, Bool.true_and]
theorem no_nudge (h : x.jolt = false) : mvs "nudge" (nudB x S) x.plans.length = [] := by
  unfold mvs nudB
  rw [h]
  simp
theorem row_some {g : Nat} (ok : S.ok x) (hg : g < x.plans.length) : (rowAt x S g).isSome = decide (S.plc g < ((x.plans.getD g []).length : Int)) := by
  obtain ⟨_, p0, _, _⟩ := ok.place hg
  unfold rowAt
  rcases Nat.lt_or_ge (S.plc g).toNat (x.plans.getD g []).length with h | h
  · rw [List.getElem?_eq_getElem h, decide_eq_true (by omega)]; rfl
  · rw [List.getElem?_eq_none h, decide_eq_false (by omega)]; rfl
end
def spLCan (K : PySem.W.Frag) : Sp := fun vs H Q _ => ∃ (tw t : Addr) (S : Stt) (x : Wrld), vs = [.ref tw, .ref t] ∧ WAt H tw x ∧ SAt K H t S ∧ S.ok x ∧ x.plans.length ≤ 8 ∧ S.lines.length ≤ 12 ∧ ∀ l H', Same H H' → H l = none → LsM K H' l (canL x S) → Q (.ref l) H'
def spMv (ms : Wrld → Stt → List (Str × Int)) (C : Addr) (K : PySem.W.Frag) : Sp := fun vs H Q _ => ∃ (o t : Addr) (S : Stt) (x : Wrld), vs = [.ref o, .ref t] ∧ WO C H o x ∧ SAt K H t S ∧ S.ok x ∧ x.plans.length ≤ 8 ∧ ∀ l H', Same H H' → H l = none → LsM K H' l (ms x S) → Q (.ref l) H'
abbrev spSteps := spMv fun x S => mvs "step" (stepB x S) x.plans.length
abbrev spOwn := spMv fun x S => mvs "step" (stepB x S) x.plans.length ++ mvs "late" (lateB x S) x.plans.length
abbrev spCan := spMv canL
section
variable {P : Program} {w : World} {K : PySem.W.Frag} {mg : Str → Option Value} {base : Heap}
theorem scLCan : FnScope ["_law_world_here", "_law_state", "_law_steps", "_law_lates", "_law_shoves", "_law_guest", "_law_row_here"] ["_law_world_here", "_law_state"] (defScope sLCan) := ⟨rfl, rfl, rfl, by decide +kernel, rfl, by decide +kernel, by decide +kernel⟩
theorem ok_lcan {f fLR fLA : Addr} {fd fdLR fdLA : FuncData} (F : Fun K "_law_can" "_law_can" sLCan f fd) (G : Glb mg) (GLR : FnOk P w K mg base CX0 1 fLR fdLR ["_law_world_here", "_law_state", "_law_guest"] (spLRow K)) (mgLR : mg "_law_row" = some (.ref fLR)) (kpLR : PySem.W.keepIn K (.ref fLR) = true) (bLR : Binds K fdLR ["_law_world_here", "_law_state", "_law_guest"] [])
    (GLA : FnOk P w K mg base CX0 1 fLA fdLA ["_law_state", "_law_guest"] (spAsleep K)) (mgLA : mg "_law_asleep" = some (.ref fLA)) (kpLA : PySem.W.keepIn K (.ref fLA) = true) (bLA : Binds K fdLA ["_law_state", "_law_guest"] []) : FnOk P w K mg base CX0 2 f fd ["_law_world_here", "_law_state"] (spLCan K) := by
  refine F.ok scLCan (fun vs H Q E h => ?_) (fun cdv A outer s H vs Q E hr h => ?_)
  · obtain ⟨tw, t, S, x, rfl, _⟩ := h
    rfl
  · obtain ⟨tw, t, S, x, rfl, hW0, hS0, ok, h8, l12, q⟩ := h
    have hr1 : Room 1 _ := hr
    have zz : 3000 < sizeLine := by rw [sizeLine_eq]; decide
    have pa_cons := @pa_cons
    have pa_nil := @pa_nil
    have pe_bm := @pe_bm
    have pe_call := @pe_call
    have pe_callB := @pe_callB
    have pe_int := @pe_int
    have pe_ix := @pe_ix
    have pe_lst := @pe_lst
    have pe_non := @pe_non
    have pe_op := @pe_op
    have pe_str := @pe_str
    have pe_tup := @pe_tup
    have pe_un := @pe_un
    have pg_name := @pg_name
    have pi_range1 := @pi_range1
    have ps_expr := @ps_expr
    have ps_for := @ps_for
    have ps_if := @ps_if
    have ps_ret := @ps_ret
    have ps_set := @ps_set
    have pss_cons := @pss_cons
    have pss_cut := @pss_cut
    have pss_nil := @pss_nil
    have pss_one := @pss_one
    have pt_cmpR := @pt_cmpR
    have pt_val := @pt_val
    have pv := @pv
    revert pa_cons pa_nil pe_bm pe_call pe_callB pe_int pe_ix pe_lst pe_non pe_op pe_str pe_tup pe_un pg_name pi_range1 ps_expr ps_for ps_if ps_ret ps_set pss_cons pss_cut pss_nil pss_one pt_cmpR pt_val pv
    generalize @L2.PS = vPS
    generalize @L2.PSs = vPSs
    generalize @L2.PE = vPE
    generalize @L2.PT = vPT
    generalize @L2.PW = vPW
    generalize @L2.PC = vPC
    generalize @L2.PA = vPA
    generalize @L2.PG = vPG
    generalize @L2.PI = vPI
    generalize @L2.PO = vPO
    generalize @L2.PTs = vPTs
    generalize @L2.PPs = vPPs
    generalize @L2.PGs = vPGs
    generalize @L2.PK = vPK
    intro pa_cons pa_nil pe_bm pe_call pe_callB pe_int pe_ix pe_lst pe_non pe_op pe_str pe_tup pe_un pg_name pi_range1 ps_expr ps_for ps_if ps_ret ps_set pss_cons pss_cut pss_nil pss_one pt_cmpR pt_val pv
    refine ⟨_, (pss_cons (ps_set (i := 2) scLCan.nd rfl (Or.inl rfl) (pe_lst pa_nil))
      (pss_cons (ps_set (i := 3) scLCan.nd rfl (Or.inl rfl) (pe_lst pa_nil))
      (pss_cons (ps_set (i := 4) scLCan.nd rfl (Or.inl rfl) (pe_lst pa_nil))
      (pss_cut (ps_for PassesOwn.never rfl (pi_range1 rfl G.range (pa_cons (pe_callB call_len_seq (by rfl) G.len PySem.boot_len (pa_cons (pe_ix ix_tup (pv 0) pe_int (fun _ _ => rfl)) pa_nil)) pa_nil)) (pg_name (i := 5) scLCan.nd rfl (Or.inl rfl)) (pss_cons (ps_set (i := 6) scLCan.nd rfl (Or.inl rfl) (pe_call GLR hr1 (by rfl) mgLR kpLR bLR .nil pass0 (pa_cons (pv 0) (pa_cons (pv 1) (pa_cons (pv 5) pa_nil)))))
      (pss_one (ps_if (pt_val (pe_call GLA hr1 (by rfl) mgLA kpLA bLA .nil pass0 (pa_cons (pv 1) (pa_cons (pv 5) pa_nil)))) (pss_cut (ps_if (pt_cmpR op_ne (pe_ix ix_tup (pv 6) (pe_op op_sub (pe_callB call_len_seq (by rfl) G.len PySem.boot_len (pa_cons (pv 6) pa_nil)) pe_int) (fun _ _ => rfl)) (pe_un un_neg pe_int) (nomark _)) (pss_one (ps_expr (pe_bm PySem.F.plainAttrs_list PySem.F.slot_list_append PySem.F.type_list_append mt_append (pv 3) (pa_cons (pe_tup (pa_cons pe_str (pa_cons (pv 5) pa_nil))) pa_nil)))) pss_nil)
      (pss_one (ps_if (pt_val (pe_ix ix_tup (pv 0) pe_int (fun _ _ => rfl))) (pss_one (ps_expr (pe_bm PySem.F.plainAttrs_list PySem.F.slot_list_append PySem.F.type_list_append mt_append (pv 4) (pa_cons (pe_tup (pa_cons pe_str (pa_cons (pv 5) pa_nil))) pa_nil)))) pss_nil))) (pss_one (ps_if (pt_cmpR op_notN (pv 6) pe_non (nomark _)) (pss_one (ps_expr (pe_bm PySem.F.plainAttrs_list PySem.F.slot_list_append PySem.F.type_list_append mt_append (pv 2) (pa_cons (pe_tup (pa_cons pe_str (pa_cons (pv 5) pa_nil))) pa_nil)))) pss_nil))))))
      (pss_one (ps_ret (pe_op op_cat (pe_op op_cat (pv 2) (pv 3)) (pv 4)))))))), ?_⟩
    refine ⟨Nat.zero_le _, fun l2 h2 => ⟨Nat.zero_le _, fun l3 h3 => ⟨Nat.zero_le _, fun l4 h4 => ?_⟩⟩⟩
    have s0 := ((sameNew (o := .lst []) h2).trans (sameNew (o := .lst []) h3)).trans (sameNew (o := .lst []) h4)
    have g2 := ((sameNew (o := .lst []) h3).trans (sameNew (o := .lst []) h4)) _ _ (upd_same : (upd H l2 (.lst [])) l2 = _)
    have g3 := (sameNew (o := .lst []) h4) _ _ (upd_same : (upd (upd H l2 (.lst [])) l3 (.lst [])) l3 = _)
    have g4 : (upd (upd (upd H l2 (.lst [])) l3 (.lst [])) l4 (.lst [])) l4 = some (.lst []) := upd_same
    have n23 : l2 ≠ l3 := ne_of_none upd_same h3
    have n34 : l3 ≠ l4 := ne_of_none upd_same h4
    have n24 : l2 ≠ l4 := ne_of_none ((sameNew (o := .lst []) h3) _ _ (upd_same : (upd H l2 (.lst [])) l2 = _)) h4
    have f3 : H l3 = none := by rw [upd_ne n23.symm] at h3; exact h3
    have f4 : H l4 = none := by rw [upd_ne n34.symm, upd_ne n24.symm] at h4; exact h4
    generalize upd (upd (upd H l2 (.lst [])) l3 (.lst [])) l4 (.lst []) = H1 at s0 g2 g3 g4
    obtain ⟨ln, lv, lp, lo, ps, ht, hln, hlv, hlp, hpl, hlo⟩ := id hW0
    have lps : (ps.map V.ref).length = x.plans.length := by rw [List.length_map, pr_len hpl]
    refine ⟨fun σ' H' => ∃ (v5 v6 : Option V), σ' = [some (.ref tw), some (.ref t), some (.ref l2), some (.ref l3), some (.ref l4), v5, v6] ∧ Same H H' ∧ LsM K H' l2 (mvs "step" (stepB x S) x.plans.length) ∧ LsM K H' l3 (mvs "late" (lateB x S) x.plans.length) ∧ LsM K H' l4 (mvs "nudge" (nudB x S) x.plans.length), ?_, ?_⟩
    · refine ⟨_, rfl, tw, _, _, _, rfl, rfl, SqT.of (s0 _ _ ht), atI_nat (j := 2) rfl, lp, _, rfl, .inl (SqL.of (s0 _ _ hlp)), ?_⟩
      rw [lps]
      refine ⟨(x.plans.length : Nat), rfl, by omega, by omega, for_range (lo := 0) (n := x.plans.length) (fun i σ' H' => ∃ (v5 v6 : Option V), σ' = [some (.ref tw), some (.ref t), some (.ref l2), some (.ref l3), some (.ref l4), v5, v6] ∧ Same H H' ∧ LsM K H' l2 (mvs "step" (stepB x S) i) ∧ LsM K H' l3 (mvs "late" (lateB x S) i) ∧ LsM K H' l4 (mvs "nudge" (nudB x S) i))
        ⟨_, _, rfl, s0, ⟨[], g2, .nil⟩, ⟨[], g3, .nil⟩, ⟨[], g4, .nil⟩⟩ ?_ ?_⟩
      · rintro i σ' H' hi ⟨v5, v6, rfl, sj, ⟨a2, e2, p2⟩, ⟨a3, e3, p3⟩, ⟨a4, e4, p4⟩⟩
        rw [Int.zero_add]
        have ll2 := pr_len p2
        have ll3 := pr_len p3
        have ll4 := pr_len p4
        have m2 := mvs_len "step" (stepB x S) i
        have m3 := mvs_len "late" (lateB x S) i
        have m4 := mvs_len "nudge" (nudB x S) i
        have k2 := mvs_add "step" (stepB x S) i
        have k3 := mvs_add "late" (lateB x S) i
        have k4 := mvs_add "nudge" (nudB x S) i
        have up : ∀ {l0 t0 : Addr} {o0 o1 o2 : HO}, H' t0 = none → H l0 = none → H' l0 = some o0 → Same H (upd (upd H' t0 o1) l0 o2) := fun {l0 t0 o0 o1 o2} h0 h1 e0 b o e => by
          rw [upd_ne (ne_of_none e h1), upd_ne (ne_of_none (sj _ _ e) h0)]; exact sj _ _ e
        -- the row
        refine ⟨_, rfl, _, rfl, _, rfl, tw, t, i, S, x, rfl, hW0.same sj, hS0.same sj, ok, hi, fun a r hrow ha => ?_, fun hrow => ?_⟩
        · refine ⟨_, rfl, _, rfl, t, i, S, rfl, hS0.same sj, l12, fun H2 s2 => ?_⟩
          have sj2 := sj.trans s2
          have e2 := s2 _ _ e2
          have e3 := s2 _ _ e3
          have e4 := s2 _ _ e4
          have p2 := mvS s2 p2
          have p3 := mvS s2 p3
          have p4 := mvS s2 p4
          have ha := s2 _ _ ha
          clear s2 up
          cases hs : S.asl i with
          | true =>
            obtain ⟨r', hr', hb, _⟩ := ok.sleeps hi hs
            rw [hrow] at hr'
            obtain rfl : r = r' := Option.some.inj hr'
            have b2 : stepB x S i = false := by unfold stepB; rw [hs]; rfl
            have b3 : lateB x S i = !decide (V.int r.late = V.int (-1)) := by
              unfold lateB
              rw [hs, hrow]
              by_cases h : r.late = -1
              · simp [h]
              · simp [h]
            have b4 : nudB x S i = x.jolt := by unfold nudB; rw [hs, Bool.and_true]
            rw [b2, if_neg Bool.false_ne_true, List.append_nil] at k2
            rw [b3] at k3
            rw [b4] at k4
            refine ⟨true, rfl, iteT ?_⟩
            refine ⟨fun σ' H3 => σ' = [some (.ref tw), some (.ref t), some (.ref l2), some (.ref l3), some (.ref l4), some (.int (i : Nat)), some (.ref a)] ∧ Same H H3 ∧ LsM K H3 l2 (mvs "step" (stepB x S) (i + 1)) ∧ LsM K H3 l3 (mvs "late" (lateB x S) (i + 1)) ∧ LsM K H3 l4 (mvs "nudge" (nudB x S) i), ?_, ?_⟩
            · refine ⟨_, rfl, _, rfl, a, _, rfl, .inr (SqT.of ha), _, _, rfl, rfl, a, _, _, _, rfl, rfl, SqT.of ha, (v_last r hb).2, _, rfl, rfl, _, rfl, ?_⟩
              cases hd : (!decide (V.int r.late = V.int (-1))) with
              | true =>
                rw [hd, if_pos rfl] at k3
                refine iteT ⟨_, rfl, .inl ⟨rfl, _, SqL.of e3⟩, _, rfl, by show 2 ≤ sizeLine; omega, fun tt htt => ⟨l3, _, _, rfl, rfl, sameNew htt _ _ e3, by rw [List.length_map]; omega, rfl, ?_, ?_, ?_, ?_⟩⟩
                · intro b o e
                  rw [upd_ne (ne_of_none e f3), upd_ne (ne_of_none (sj2 _ _ e) htt)]; exact sj2 _ _ e
                · exact ⟨a2, by rw [upd_ne n23, upd_ne (ne_of_none e2 htt)]; exact e2, by rw [k2]; exact mvKeep e3 p2 htt _⟩
                · exact ⟨a3 ++ [tt], by rw [upd_same, List.map_append]; rfl, by rw [k3]; exact mvPush e3 p3 htt _ _ _⟩
                · exact ⟨a4, by rw [upd_ne n34.symm, upd_ne (ne_of_none e4 htt)]; exact e4, mvKeep e3 p4 htt _⟩
              | false =>
                rw [hd, if_neg Bool.false_ne_true, List.append_nil] at k3
                exact iteF ⟨rfl, sj2, ⟨a2, e2, by rw [k2]; exact p2⟩, ⟨a3, e3, by rw [k3]; exact p3⟩, ⟨a4, e4, p4⟩⟩
            rintro _ H3 ⟨rfl, s3, q2, q3, a4, e4, p4⟩
            refine ⟨_, rfl, tw, _, _, _, rfl, rfl, SqT.of (s3 _ _ ht), atI_nat (j := 4) rfl, x.jolt, rfl, ?_⟩
            cases hj : x.jolt with
            | true =>
              rw [hj, if_pos rfl] at k4
              obtain ⟨a2, e2, p2⟩ := q2
              obtain ⟨a3, e3, p3⟩ := q3
              refine iteT ⟨_, rfl, .inl ⟨rfl, _, SqL.of e4⟩, _, rfl, by show 2 ≤ sizeLine; omega, fun tt htt => ⟨l4, _, _, rfl, rfl, sameNew htt _ _ e4, by rw [List.length_map, pr_len p4]; omega, _, _, rfl, ?_, ?_, ?_, ?_⟩⟩
              · intro b o e
                rw [upd_ne (ne_of_none e f4), upd_ne (ne_of_none (s3 _ _ e) htt)]; exact s3 _ _ e
              · exact ⟨a2, by rw [upd_ne n24, upd_ne (ne_of_none e2 htt)]; exact e2, mvKeep e4 p2 htt _⟩
              · exact ⟨a3, by rw [upd_ne n34, upd_ne (ne_of_none e3 htt)]; exact e3, mvKeep e4 p3 htt _⟩
              · exact ⟨a4 ++ [tt], by rw [upd_same, List.map_append]; rfl, by rw [k4]; exact mvPush e4 p4 htt _ _ _⟩
            | false =>
              rw [hj, if_neg Bool.false_ne_true, List.append_nil] at k4
              exact iteF ⟨_, _, rfl, s3, q2, q3, ⟨a4, e4, by rw [k4]; exact p4⟩⟩
          | false =>
            have b2 : stepB x S i = true := by unfold stepB; rw [hs, hrow]; rfl
            have b3 : lateB x S i = false := by unfold lateB; rw [hs]; rfl
            have b4 : nudB x S i = false := by unfold nudB; rw [hs, Bool.and_false]
            rw [b2, if_pos rfl] at k2
            rw [b3, if_neg Bool.false_ne_true, List.append_nil] at k3
            rw [b4, if_neg Bool.false_ne_true, List.append_nil] at k4
            refine ⟨false, rfl, iteF ⟨_, rfl, rfl, _, rfl, iteT' (by rfl) ?_⟩⟩
            refine ⟨_, rfl, .inl ⟨rfl, _, SqL.of e2⟩, _, rfl, by show 2 ≤ sizeLine; omega, fun tt htt => ⟨l2, _, _, rfl, rfl, sameNew htt _ _ e2, by rw [List.length_map]; omega, _, _, rfl, ?_, ?_, ?_, ?_⟩⟩
            · intro b o e
              rw [upd_ne (ne_of_none e h2), upd_ne (ne_of_none (sj2 _ _ e) htt)]; exact sj2 _ _ e
            · exact ⟨a2 ++ [tt], by rw [upd_same, List.map_append]; rfl, by rw [k2]; exact mvPush e2 p2 htt _ _ _⟩
            · exact ⟨a3, by rw [upd_ne n23.symm, upd_ne (ne_of_none e3 htt)]; exact e3, by rw [k3]; exact mvKeep e2 p3 htt _⟩
            · exact ⟨a4, by rw [upd_ne n24.symm, upd_ne (ne_of_none e4 htt)]; exact e4, by rw [k4]; exact mvKeep e2 p4 htt _⟩
        · refine ⟨_, rfl, _, rfl, t, i, S, rfl, hS0.same sj, l12, fun H2 s2 => ?_⟩
          have hs : S.asl i = false := by
            cases hs : S.asl i with
            | false => rfl
            | true =>
              obtain ⟨r', hr', _⟩ := ok.sleeps hi hs
              rw [hrow] at hr'; cases hr'
          have b2 : stepB x S i = false := by unfold stepB; rw [hrow]; exact Bool.and_false _
          have b3 : lateB x S i = false := by unfold lateB; rw [hs]; rfl
          have b4 : nudB x S i = false := by unfold nudB; rw [hs, Bool.and_false]
          rw [b2, if_neg Bool.false_ne_true, List.append_nil] at k2
          rw [b3, if_neg Bool.false_ne_true, List.append_nil] at k3
          rw [b4, if_neg Bool.false_ne_true, List.append_nil] at k4
          rw [hs]
          exact ⟨false, rfl, iteF ⟨_, rfl, rfl, _, rfl, iteF' (by rfl) ⟨_, _, rfl, sj.trans s2, ⟨a2, s2 _ _ e2, by rw [k2]; exact mvS s2 p2⟩, ⟨a3, s2 _ _ e3, by rw [k3]; exact mvS s2 p3⟩, ⟨a4, s2 _ _ e4, by rw [k4]; exact mvS s2 p4⟩⟩⟩⟩
      · rintro σ' H' h
        exact h
    rintro _ H2 ⟨v5, v6, rfl, s2, L2, L3, L4⟩
    have m2 := mvs_len "step" (stepB x S) x.plans.length
    have m3 := mvs_len "late" (lateB x S) x.plans.length
    have m4 := mvs_len "nudge" (nudB x S) x.plans.length
    refine ⟨_, rfl, _, rfl, ls_cat L2 L3 (by omega) (by omega) fun p H3 s3 f3 L5 => ?_⟩
    refine ⟨_, rfl, ls_cat L5 (L4.same s3) (by rw [List.length_append]; omega) (by omega) fun p' H4 s4 f4 L6 => ?_⟩
    refine q p' H4 ((s2.trans s3).trans s4) ?_ L6
    cases e : H p' with
    | none => rfl
    | some o => rw [(s2.trans s3) _ _ e] at f4; cases f4
end
end Wo

set_option Elab.async false
set_option maxRecDepth 100000
set_option linter.all false
set_option maxHeartbeats 8000000
namespace Wo
open PySem L2 TL Rl Tb Wf Dc
/-! ### the program's moves that are possible -/
section
variable {P : Program} {w : World} {K : PySem.W.Frag} {mg : Str → Option Value} {base : Heap}
theorem scWorld_steps : FnScope ["self", "state", "lying", "ends", "plan", "guest", "end"] ["self", "state"] (defScope sWorld_steps) := ⟨rfl, rfl, rfl, by decide +kernel, rfl, by decide +kernel, by decide +kernel⟩
theorem ok_steps {f C fSL : Addr} {fd fdSL : FuncData} (F : Fun K "steps" "World.steps" sWorld_steps f fd) (T : TxW K C) (G : Glb mg) (GSL : FnOk P w K mg base CX0 1 fSL fdSL ["state"] (spSleepers K)) (mgSL : mg "sleepers" = some (.ref fSL)) (kpSL : PySem.W.keepIn K (.ref fSL) = true) (bSL : Binds K fdSL ["state"] []) : FnOk P w K mg base CX0 2 f fd ["self", "state"] (spSteps C K) := by
  refine F.ok scWorld_steps (fun vs H Q E h => ?_) (fun cdv A outer s H vs Q E hr h => ?_)
  · obtain ⟨o, t, S, x, rfl, _⟩ := h
    rfl
  · obtain ⟨o, t, S, x, rfl, hW0, hS0, ok, h8, q⟩ := h
    have hr1 : Room 1 _ := hr
    have zz : 3000 < sizeLine := by rw [sizeLine_eq]; decide
    refine ⟨_, (pss_cons (ps_set (i := 2) scWorld_steps.nd rfl (Or.inr rfl) (pe_call GSL hr1 (by rfl) mgSL kpSL bSL .nil pass0 (pa_cons (pv 1) pa_nil)))
      (pss_cut (ps_setLc (i := 3) (own := [("plan", 4)]) (g := (gName 4)) (by rfl) scWorld_steps.nd rfl rfl (sw_true rfl rfl rfl (by decide +kernel)) (pi_list (pe_fld (pv 0) rfl)) (blkOk_by (own := [("plan", 4)]) (N := ["self", "state", "lying", "ends", "plan", "guest", "end"]) (sc := defScope sWorld_steps) (by decide +kernel)) (fun _ _ _ _ _ => (pg_name (i := 4) scWorld_steps.nd rfl (Or.inl rfl))) (fun _ _ _ _ _ => pts_nil) (fun _ _ _ _ _ => (pe_callB (call_len_seqK (K := K) rfl) (by rfl) G.len PySem.boot_len (pa_cons (pv 4) pa_nil))))
      (pss_one (ps_ret (pe_lc (own := [("guest", 5), ("end", 6)]) (g := (gTup K 2 (gCons (gName 5) (gCons (gName 6) gNil)))) (by rfl) scWorld_steps.nd (pi_enum (by rfl) G.enumerate (pa_cons (pv 3) pa_nil)) (blkOk_by (own := [("guest", 5), ("end", 6)]) (N := ["self", "state", "lying", "ends", "plan", "guest", "end"]) (sc := defScope sWorld_steps) (by decide +kernel)) (fun _ _ _ _ _ => (pg_tup rfl (pgs_cons (pg_name (i := 5) scWorld_steps.nd rfl (Or.inl rfl)) (pgs_cons (pg_name (i := 6) scWorld_steps.nd rfl (Or.inl rfl)) pgs_nil)))) (fun _ _ _ _ _ => (pts_one (PW.pt (pw_and (pt_cmpR (op_notIn_seqK (K := K) rfl) (pv 5) (pv 2) (by rfl)) (pw_and1 (pt_cmpR op_lt (pe_ix (ix_tupK (K := K) rfl) (pe_ix (ix_tupK (K := K) rfl) (pv 1) pe_int (fun _ _ => rfl)) (pv 5) (fun _ _ => rfl)) (pv 6) (nomark _))))))) (fun _ _ _ _ _ => (pe_tup (pa_cons pe_str (pa_cons (pv 5) pa_nil))))))))), ?_⟩
    refine ⟨_, rfl, t, S, x, rfl, hS0, ok, h8, fun lsl H1 s1 f1 g1 => ?_⟩
    obtain ⟨dx, ds, tn, lp, lm, lr, ps, hp, hds, _, hlp, hpl, _, _⟩ := hW0
    have lps : (ps.map V.ref).length = x.plans.length := by rw [List.length_map, pr_len hpl]
    obtain ⟨a, b, c, d, ls, h1, h2, h3, h4, h5, h6⟩ := hS0
    -- the ends
    refine ⟨fun σ' H' => ∃ le, σ' = [some (.ref o), some (.ref t), some (.ref lsl), some (.ref le), none, none, none] ∧ Same H1 H' ∧ H' le = some (.lst ((x.plans.map fun pl => (pl.length : Int)).map V.int)), ?_, ?_⟩
    · refine ⟨_, rfl, o, C, dx, _, _, rfl, s1 _ _ hp, T.cl, T.plans, wf_plans, lp, rfl, ⟨_, SqL.of (s1 _ _ hlp)⟩, fun D hD => ?_⟩
      refine lc_list (K := K) (a := lp) (xs := ps.map V.ref) (fun j H' => Same H1 H' ∧ H' D = some (.lst (((x.plans.take j).map fun pl => (pl.length : Int)).map V.int))) ⟨sameNew hD, upd_same⟩ ?_ ?_ ?_
      · rintro j H' _ ⟨sj, _⟩
        exact SqL.of (sj _ _ (s1 _ _ hlp))
      · rintro j v H' hj ⟨sj, gj⟩
        obtain ⟨q0, rfl, hq0⟩ := ref_at hj
        obtain ⟨pl, hpi, as, hqa, hpas⟩ := pr_get hpl hq0
        have lj := (List.getElem?_eq_some_iff.mp hpi).1
        refine ⟨rfl, ?_⟩
        dsimp only [tYes]
        refine iteT ⟨_, rfl, q0, _, rfl, .inl (SqL.of (sj _ _ (s1 _ _ hqa))), _, gj, by rw [List.length_map, List.length_map, List.length_take]; omega, fun b o e => by rw [upd_ne (ne_of_none e hD)]; exact sj b o e, ?_⟩
        rw [upd_same, List.take_succ, hpi, List.length_map, pr_len hpas, List.map_append, List.map_append]; rfl
      · rintro H' ⟨sj, gj⟩
        rw [lps, List.take_length] at gj
        exact ⟨D, rfl, sj, gj⟩
    rintro _ H2 ⟨le, rfl, s2, g2⟩
    have s02 := s1.trans s2
    refine ⟨_, rfl, le, _, rfl, SqL.of g2, fun D hD => ?_⟩
    have lle : ((x.plans.map fun pl => (pl.length : Int)).map V.int).length = x.plans.length := by rw [List.length_map, List.length_map]
    refine lc_enum (K := K) (a := le) (xs := (x.plans.map fun pl => (pl.length : Int)).map V.int) (fun j H' => ∃ as, Same H2 H' ∧ H' D = some (.lst (as.map V.ref)) ∧ Paired (MvAt K H') as (mvs "step" (stepB x S) j)) ⟨[], sameNew hD, upd_same, .nil⟩ ?_ ?_ ?_
    · rintro j H' _ ⟨_, sj, _⟩
      exact SqL.of (sj _ _ g2)
    · rintro j v H' T2 hj ⟨as, sj, gj, pj⟩ hT2
      have lj := (List.getElem?_eq_some_iff.mp hj).1
      rw [lle] at lj
      obtain ⟨e1, p0, p1, e2⟩ := ok.place lj
      obtain rfl : v = V.int ((x.plans.getD j []).length : Int) := by
        rw [List.getElem?_map, List.getElem?_map, e2] at hj
        exact (Option.some.inj hj).symm
      refine ⟨T2, _, rfl, SqT.of upd_same, rfl, _, _, rfl, _, _, rfl, rfl, rfl, ?_⟩
      have sT2 := sameNew (o := .tup [.int (j : Nat), .int ((x.plans.getD j []).length : Int)]) hT2
      have gj2 := sT2 _ _ gj
      have sj2 := sj.trans sT2
      have pj2 := mvS sT2 pj
      generalize upd H' T2 (.tup [.int (j : Nat), .int ((x.plans.getD j []).length : Int)]) = H3 at gj2 sj2 pj2
      clear sT2 gj sj pj
      have kj := mvs_add "step" (stepB x S) j
      have lk := mvs_len "step" (stepB x S) j
      have la := pr_len pj2
      have eb : stepB x S j = (!S.asl j && decide (S.plc j < ((x.plans.getD j []).length : Int))) := by unfold stepB; rw [row_some ok lj]
      refine ⟨_, rfl, _, rfl, lsl, _, rfl, .inl (SqL.of (sj2 _ _ (s2 _ _ g1))), rfl, flats _, _, rfl, ?_⟩
      rw [inV_ints, sl_mem lj]
      cases hs : S.asl j with
      | true =>
        rw [hs] at eb
        have eb : stepB x S j = false := eb
        rw [eb] at kj
        exact iteF ⟨as, sj2, gj2, by rw [kj, if_neg Bool.false_ne_true, List.append_nil]; exact pj2⟩
      | false =>
        have hpk : atI (S.places.map V.int) (j : Nat) = some (.int (S.plc j)) := atI_nat (by rw [List.getElem?_map, e1]; rfl)
        have sj3 := s02.trans sj2
        refine iteT ⟨_, rfl, t, _, _, _, rfl, rfl, sqS sj3 h1, atI_nat (j := 1) rfl, _, rfl, b, _, _, _, rfl, rfl, sqS sj3 h3, hpk, _, rfl, _, _, rfl, rfl, _, rfl, ?_⟩
        rw [hs] at eb
        have eb : stepB x S j = decide (S.plc j < ((x.plans.getD j []).length : Int)) := eb
        rw [eb] at kj
        by_cases hlt : S.plc j < ((x.plans.getD j []).length : Int)
        · rw [decide_eq_true hlt, if_pos rfl] at kj
          refine iteT' (decide_eq_true hlt) ⟨_, rfl, by show 2 ≤ sizeLine; omega, fun tt htt => ⟨_, sameNew htt _ _ gj2, by rw [List.length_map]; omega, as ++ [tt], ?_, by rw [upd_same, List.map_append]; rfl, by rw [kj]; exact mvPush gj2 pj2 htt _ _ _⟩⟩
          intro b o e
          rw [upd_ne (ne_of_none e hD), upd_ne (ne_of_none (sj2 _ _ e) htt)]; exact sj2 _ _ e
        · rw [decide_eq_false hlt, if_neg Bool.false_ne_true, List.append_nil] at kj
          exact iteF' (decide_eq_false hlt) ⟨as, sj2, gj2, by rw [kj]; exact pj2⟩
    · rintro H' ⟨as, sj, gj, pj⟩
      rw [lle] at pj
      refine q D H' (s02.trans sj) ?_ ⟨as, gj, pj⟩
      cases e : H D with
      | none => rfl
      | some o => rw [s02 _ _ e] at hD; cases hD
theorem scWorld_own_moves : FnScope ["self", "state", "late", "guest"] ["self", "state"] (defScope sWorld_own_moves) := ⟨rfl, rfl, rfl, by decide +kernel, rfl, by decide +kernel, by decide +kernel⟩
theorem ok_own {f C fSL fLP fRA fST : Addr} {fd fdSL fdLP fdRA fdST : FuncData} (F : Fun K "own_moves" "World.own_moves" sWorld_own_moves f fd) (T : TxW K C) (G : Glb mg) (GSL : FnOk P w K mg base CX0 1 fSL fdSL ["state"] (spSleepers K)) (mgSL : mg "sleepers" = some (.ref fSL)) (kpSL : PySem.W.keepIn K (.ref fSL) = true) (bSL : Binds K fdSL ["state"] [])
    (GLP : FnOk P w K mg base CX0 1 fLP fdLP ["row"] (spLatePlace K)) (mgLP : mg "late_place" = some (.ref fLP)) (kpLP : PySem.W.keepIn K (.ref fLP) = true) (bLP : Binds K fdLP ["row"] [])
    (mRA : Meth K C "row_at" fRA) (GRA : FnOk P w K mg base CX0 1 fRA fdRA ["self", "state", "guest"] (spRowAt C K)) (bRA : Binds K fdRA ["self", "state", "guest"] [])
    (mST : Meth K C "steps" fST) (GST : FnOk P w K mg base CX0 2 fST fdST ["self", "state"] (spSteps C K)) (bST : Binds K fdST ["self", "state"] []) : FnOk P w K mg base CX0 3 f fd ["self", "state"] (spOwn C K) := by
  refine F.ok scWorld_own_moves (fun vs H Q E h => ?_) (fun cdv A outer s H vs Q E hr h => ?_)
  · obtain ⟨o, t, S, x, rfl, _⟩ := h
    rfl
  · obtain ⟨o, t, S, x, rfl, hW0, hS0, ok, h8, q⟩ := h
    have hr2 : Room 2 _ := hr
    have hr1 : Room 1 _ := hr.mono (by decide)
    have zz : 3000 < sizeLine := by rw [sizeLine_eq]; decide
    refine ⟨_, (pss_cut (ps_setLc (i := 2) (own := [("guest", 3)]) (g := (gName 3)) (by rfl) scWorld_own_moves.nd rfl rfl (sw_true rfl rfl rfl (by decide +kernel)) (pi_list (pe_call GSL hr1 (by rfl) mgSL kpSL bSL .nil pass0 (pa_cons (pv 1) pa_nil))) (blkOk_by (own := [("guest", 3)]) (N := ["self", "state", "late", "guest"]) (sc := defScope sWorld_own_moves) (by decide +kernel)) (fun _ _ _ _ _ => (pg_name (i := 3) scWorld_own_moves.nd rfl (Or.inl rfl))) (fun _ _ _ _ _ => (pts_one (pt_cmpR op_ne (pe_call GLP hr1 (by rfl) mgLP kpLP bLP .nil pass0 (pa_cons (pe_meth (pv 0) T.cl mRA GRA hr1 bRA .nil pass0 (pa_cons (pv 1) (pa_cons (pv 3) pa_nil))) pa_nil)) (pe_un un_neg pe_int) (nomark _)))) (fun _ _ _ _ _ => (pv 3)))
      (pss_one (ps_ret (pe_op op_cat (pe_meth (pv 0) T.cl mST GST hr2 bST .nil pass0 (pa_cons (pv 1) pa_nil)) (pe_lc (own := [("guest", 3)]) (g := (gName 3)) (by rfl) scWorld_own_moves.nd (pi_list (pv 2)) (blkOk_by (own := [("guest", 3)]) (N := ["self", "state", "late", "guest"]) (sc := defScope sWorld_own_moves) (by decide +kernel)) (fun _ _ _ _ _ => (pg_name (i := 3) scWorld_own_moves.nd rfl (Or.inl rfl))) (fun _ _ _ _ _ => pts_nil) (fun _ _ _ _ _ => (pe_tup (pa_cons pe_str (pa_cons (pv 3) pa_nil))))))))), ?_⟩
    have sl8 := sl_len (x := x) (S := S)
    have hp : ∃ dx ds tn lp lm lr, H o = some (.ins C dx (wf ds tn lp lm lr x.jolt)) := let ⟨dx, ds, tn, lp, lm, lr, _, h, _⟩ := hW0; ⟨dx, ds, tn, lp, lm, lr, h⟩
    obtain ⟨dx, ds, tn, lp, lm, lr, hp⟩ := hp
    -- who can be late
    refine ⟨fun σ' H' => ∃ la, σ' = [some (.ref o), some (.ref t), some (.ref la), none] ∧ Same H H' ∧ H' la = some (.lst (((slI x S).filter fun z => lateB x S z.toNat).map V.int)), ?_, ?_⟩
    · refine ⟨_, rfl, t, S, x, rfl, hS0, ok, h8, fun lsl H1 s1 f1 g1 => ?_⟩
      refine ⟨lsl, rfl, ⟨_, SqL.of g1⟩, fun D hD => ?_⟩
      refine lc_list (K := K) (a := lsl) (xs := (slI x S).map V.int) (fun j H' => Same H1 H' ∧ H' D = some (.lst ((((slI x S).take j).filter fun z => lateB x S z.toNat).map V.int))) ⟨sameNew hD, upd_same⟩ ?_ ?_ ?_
      · rintro j H' _ ⟨sj, _⟩
        exact SqL.of (sj _ _ g1)
      · rintro j v H' hj ⟨sj, gj⟩
        obtain ⟨z, hz, rfl⟩ : ∃ z, (slI x S)[j]? = some z ∧ v = V.int z := by
          rw [List.getElem?_map] at hj
          cases e : (slI x S)[j]? with
          | none => rw [e] at hj; cases hj
          | some z => rw [e] at hj; exact ⟨z, rfl, (Option.some.inj hj).symm⟩
        have lj := (List.getElem?_eq_some_iff.mp hz).1
        obtain ⟨g, rfl, hg, hs⟩ := sl_at (List.mem_of_getElem? hz)
        obtain ⟨r, hrow, hb, hlt⟩ := ok.sleeps hg hs
        have eL : lateB x S g = !decide (V.int r.late = V.int (-1)) := by
          unfold lateB
          rw [hs, hrow]
          by_cases h : r.late = -1
          · simp [h]
          · simp [h]
        have sj1 := s1.trans sj
        have eT : ((slI x S).take (j + 1)).filter (fun z => lateB x S z.toNat) = ((slI x S).take j).filter (fun z => lateB x S z.toNat) ++ (if lateB x S g = true then [(g : Int)] else []) := by
          rw [List.take_succ, hz, List.filter_append]
          congr 1
          show List.filter (fun z => lateB x S z.toNat) [(g : Int)] = _
          cases h : lateB x S g <;> simp [h]
        have lf : (((slI x S).take j).filter fun z => lateB x S z.toNat).length ≤ j := Nat.le_trans (List.length_filter_le _ _) (List.length_take_le _ _)
        refine ⟨rfl, _, rfl, o, _, _, rfl, sj1 _ _ hp, wf_row_at_no, _, rfl, _, rfl, o, t, g, S, x, rfl, hW0.same sj1, hS0.same sj1, ok, hg, hlt, fun a r' hrow' ha => ?_⟩
        rw [hrow] at hrow'
        obtain rfl : r = r' := Option.some.inj hrow'
        refine ⟨a, r, rfl, SqT.of ha, hb, _, rfl, rfl, _, rfl, ?_⟩
        rw [← eL]
        cases hL : lateB x S g with
        | true =>
          rw [hL, if_pos rfl] at eT
          exact iteT ⟨_, rfl, _, gj, by rw [List.length_map]; omega, fun b o e => by rw [upd_ne (ne_of_none e hD)]; exact sj b o e, by rw [upd_same, eT, List.map_append]; rfl⟩
        | false =>
          rw [hL, if_neg Bool.false_ne_true, List.append_nil] at eT
          exact iteF ⟨sj, by rw [eT]; exact gj⟩
      · rintro H' ⟨sj, gj⟩
        rw [List.length_map, List.take_length] at gj
        exact ⟨D, rfl, s1.trans sj, gj⟩
    rintro _ H2 ⟨la, rfl, s2, g2⟩
    refine ⟨_, rfl, o, _, _, rfl, s2 _ _ hp, wf_steps_no, _, rfl, o, t, S, x, rfl, hW0.same s2, hS0.same s2, ok, h8, fun l3 H3 s3 f3 L3 => ?_⟩
    have m3 := mvs_len "step" (stepB x S) x.plans.length
    have lf : ((slI x S).filter fun z => lateB x S z.toNat).length ≤ 8 := Nat.le_trans (List.length_filter_le _ _) (by omega)
    refine ⟨_, rfl, la, rfl, ⟨_, SqL.of (s3 _ _ g2)⟩, fun D hD => ?_⟩
    refine lc_list (K := K) (a := la) (xs := ((slI x S).filter fun z => lateB x S z.toNat).map V.int) (fun j H' => ∃ as, Same H3 H' ∧ H' D = some (.lst (as.map V.ref)) ∧ Paired (MvAt K H') as ((((slI x S).filter fun z => lateB x S z.toNat).take j).map fun z => (("late" : Str), z))) ⟨[], sameNew hD, upd_same, .nil⟩ ?_ ?_ ?_
    · rintro j H' _ ⟨_, sj, _⟩
      exact SqL.of (sj _ _ (s3 _ _ g2))
    · rintro j v H' hj ⟨as, sj, gj, pj⟩
      obtain ⟨z, hz, rfl⟩ : ∃ z, ((slI x S).filter fun z => lateB x S z.toNat)[j]? = some z ∧ v = V.int z := by
        rw [List.getElem?_map] at hj
        cases e : ((slI x S).filter fun z => lateB x S z.toNat)[j]? with
        | none => rw [e] at hj; cases hj
        | some z => rw [e] at hj; exact ⟨z, rfl, (Option.some.inj hj).symm⟩
      have lj := (List.getElem?_eq_some_iff.mp hz).1
      have la2 := pr_len pj
      rw [List.length_map, List.length_take] at la2
      refine ⟨rfl, ?_⟩
      dsimp only [tYes]
      refine iteT ⟨_, rfl, by show 2 ≤ sizeLine; omega, fun tt htt => ⟨_, sameNew htt _ _ gj, by rw [List.length_map]; omega, as ++ [tt], ?_, by rw [upd_same, List.map_append]; rfl, ?_⟩⟩
      · intro b o e
        rw [upd_ne (ne_of_none e hD), upd_ne (ne_of_none (sj _ _ e) htt)]; exact sj _ _ e
      · rw [List.take_succ, hz, List.map_append]
        exact mvPush gj pj htt _ _ _
    · rintro H' ⟨as, sj, gj, pj⟩
      rw [List.length_map, List.take_length, sl_late] at pj
      have m4 := mvs_len "late" (lateB x S) x.plans.length
      refine ls_cat (L3.same sj) ⟨as, gj, pj⟩ (Nat.le_trans m3 (by omega)) (by omega) fun p H4 s4 f4 L4 => q p H4 ((s2.trans s3).trans (sj.trans s4)) ?_ L4
      cases e : H p with
      | none => rfl
      | some o => rw [((s2.trans s3).trans sj) _ _ e] at f4; cases f4
theorem scWorld_can : FnScope ["self", "state", "nudges", "guest"] ["self", "state"] (defScope sWorld_can) := ⟨rfl, rfl, rfl, by decide +kernel, rfl, by decide +kernel, by decide +kernel⟩
theorem ok_can {f C fSL fOM : Addr} {fd fdSL fdOM : FuncData} (F : Fun K "can" "World.can" sWorld_can f fd) (T : TxW K C) (G : Glb mg) (GSL : FnOk P w K mg base CX0 1 fSL fdSL ["state"] (spSleepers K)) (mgSL : mg "sleepers" = some (.ref fSL)) (kpSL : PySem.W.keepIn K (.ref fSL) = true) (bSL : Binds K fdSL ["state"] [])
    (mOM : Meth K C "own_moves" fOM) (GOM : FnOk P w K mg base CX0 3 fOM fdOM ["self", "state"] (spOwn C K)) (bOM : Binds K fdOM ["self", "state"] []) : FnOk P w K mg base CX0 4 f fd ["self", "state"] (spCan C K) := by
  refine F.ok scWorld_can (fun vs H Q E h => ?_) (fun cdv A outer s H vs Q E hr h => ?_)
  · obtain ⟨o, t, S, x, rfl, _⟩ := h
    rfl
  · obtain ⟨o, t, S, x, rfl, hW0, hS0, ok, h8, q⟩ := h
    have hr3 : Room 3 _ := hr
    have hr1 : Room 1 _ := hr.mono (by decide)
    have zz : 3000 < sizeLine := by rw [sizeLine_eq]; decide
    refine ⟨_, (pss_cons (ps_set (i := 2) scWorld_can.nd rfl (Or.inl rfl) (pe_lst pa_nil))
      (pss_cut (ps_if (pt_val (pe_fld (pv 0) rfl)) (pss_one (ps_setLc (i := 2) (own := [("guest", 3)]) (g := (gName 3)) (by rfl) scWorld_can.nd rfl rfl (sw_true rfl rfl rfl (by decide +kernel)) (pi_list (pe_call GSL hr1 (by rfl) mgSL kpSL bSL .nil pass0 (pa_cons (pv 1) pa_nil))) (blkOk_by (own := [("guest", 3)]) (N := ["self", "state", "nudges", "guest"]) (sc := defScope sWorld_can) (by decide +kernel)) (fun _ _ _ _ _ => (pg_name (i := 3) scWorld_can.nd rfl (Or.inl rfl))) (fun _ _ _ _ _ => pts_nil) (fun _ _ _ _ _ => (pe_tup (pa_cons pe_str (pa_cons (pv 3) pa_nil)))))) pss_nil)
      (pss_one (ps_ret (pe_op op_cat (pe_meth (pv 0) T.cl mOM GOM hr3 bOM .nil pass0 (pa_cons (pv 1) pa_nil)) (pv 2)))))), ?_⟩
    have sl8 := sl_len (x := x) (S := S)
    have hp : ∃ dx ds tn lp lm lr, H o = some (.ins C dx (wf ds tn lp lm lr x.jolt)) := let ⟨dx, ds, tn, lp, lm, lr, _, h, _⟩ := hW0; ⟨dx, ds, tn, lp, lm, lr, h⟩
    obtain ⟨dx, ds, tn, lp, lm, lr, hp⟩ := hp
    refine ⟨Nat.zero_le _, fun l0 h0 => ?_⟩
    have s0 := sameNew (o := .lst []) h0
    have g0 : (upd H l0 (.lst [])) l0 = some (.lst []) := upd_same
    generalize upd H l0 (.lst []) = H1 at s0 g0
    refine ⟨fun σ' H' => ∃ ln, σ' = [some (.ref o), some (.ref t), some (.ref ln), none] ∧ Same H H' ∧ LsM K H' ln (mvs "nudge" (nudB x S) x.plans.length), ?_, ?_⟩
    · refine ⟨_, rfl, o, C, dx, _, _, rfl, s0 _ _ hp, T.cl, T.nudges, wf_nudges, x.jolt, rfl, ?_⟩
      cases hj : x.jolt with
      | false => exact iteF ⟨l0, rfl, s0, [], g0, by rw [no_nudge hj]; exact .nil⟩
      | true =>
        refine iteT ⟨_, rfl, t, S, x, rfl, hS0.same s0, ok, h8, fun lsl H2 s1 f1 g1 => ?_⟩
        refine ⟨lsl, rfl, ⟨_, SqL.of g1⟩, fun D hD => ?_⟩
        refine lc_list (K := K) (a := lsl) (xs := (slI x S).map V.int) (fun j H' => ∃ as, Same H2 H' ∧ H' D = some (.lst (as.map V.ref)) ∧ Paired (MvAt K H') as (((slI x S).take j).map fun z => (("nudge" : Str), z))) ⟨[], sameNew hD, upd_same, .nil⟩ ?_ ?_ ?_
        · rintro j H' _ ⟨_, sj, _⟩
          exact SqL.of (sj _ _ g1)
        · rintro j v H' hj ⟨as, sj, gj, pj⟩
          obtain ⟨z, hz, rfl⟩ : ∃ z, (slI x S)[j]? = some z ∧ v = V.int z := by
            rw [List.getElem?_map] at hj
            cases e : (slI x S)[j]? with
            | none => rw [e] at hj; cases hj
            | some z => rw [e] at hj; exact ⟨z, rfl, (Option.some.inj hj).symm⟩
          have lj := (List.getElem?_eq_some_iff.mp hz).1
          have la2 := pr_len pj
          rw [List.length_map, List.length_take] at la2
          refine ⟨rfl, ?_⟩
          dsimp only [tYes]
          refine iteT ⟨_, rfl, by show 2 ≤ sizeLine; omega, fun tt htt => ⟨_, sameNew htt _ _ gj, by rw [List.length_map]; omega, as ++ [tt], ?_, by rw [upd_same, List.map_append]; rfl, ?_⟩⟩
          · intro b o e
            rw [upd_ne (ne_of_none e hD), upd_ne (ne_of_none (sj _ _ e) htt)]; exact sj _ _ e
          · rw [List.take_succ, hz, List.map_append]
            exact mvPush gj pj htt _ _ _
        · rintro H' ⟨as, sj, gj, pj⟩
          rw [List.length_map, List.take_length, sl_nudge hj] at pj
          exact ⟨D, rfl, (s0.trans s1).trans sj, as, gj, pj⟩
    rintro _ H2 ⟨ln, rfl, s2, L2⟩
    refine ⟨_, rfl, o, _, _, rfl, s2 _ _ hp, wf_own_moves_no, _, rfl, o, t, S, x, rfl, hW0.same s2, hS0.same s2, ok, h8, fun l3 H3 s3 f3 L3 => ?_⟩
    have m2 := mvs_len "step" (stepB x S) x.plans.length
    have m3 := mvs_len "late" (lateB x S) x.plans.length
    have m4 := mvs_len "nudge" (nudB x S) x.plans.length
    refine ⟨_, rfl, ls_cat L3 (L2.same s3) (by rw [List.length_append]; omega) (by omega) fun p H4 s4 f4 L4 => ?_⟩
    refine q p H4 ((s2.trans s3).trans s4) ?_ L4
    cases e : H p with
    | none => rfl
    | some o => rw [(s2.trans s3) _ _ e] at f4; cases f4
end
end Wo

set_option Elab.async false
set_option maxRecDepth 100000
set_option linter.all false
set_option maxHeartbeats 8000000
namespace Wo
open PySem L2 TL Rl Tb Wf Dc
/-! ### told in order, and told again -/
def mvD (m : Str × Int) : PyData := .tuple [.str m.1, .int m.2]
theorem dp_mvs {K : PySem.W.Frag} {H : Hp} : ∀ {as : List Addr} {ms : List (Str × Int)}, Paired (MvAt K H) as ms → DpAll K H (as.map V.ref) (ms.map mvD)
  | _, _, .nil => .nil
  | _, _, .cons r t => .cons (.tup r (.cons (.str _) (.cons (.int _) .nil))) (dp_mvs t)
def WdOk (ms : List (Str × Int)) : Prop := ∀ m ∈ ms, PyData.canLay0 (.str m.1) = true
theorem wd_mvs {w : Str} {b : Nat → Bool} {n : Nat} (h : PyData.canLay0 (.str w) = true) : WdOk (mvs w b n) := fun m hm => by
  obtain ⟨g, _, rfl⟩ := List.mem_map.mp hm
  exact h
theorem wd_can (x : Wrld) (S : Stt) : WdOk (canL x S) := fun m hm => by
  rcases List.mem_append.mp hm with hm | hm
  · rcases List.mem_append.mp hm with hm | hm
    · exact wd_mvs (w := "step") (by decide +kernel) m hm
    · exact wd_mvs (w := "late") (by decide +kernel) m hm
  · exact wd_mvs (w := "nudge") (by decide +kernel) m hm
theorem lay_mvs : ∀ ms : List (Str × Int), WdOk ms → PyData.canLayAll0 (ms.map mvD) = true ∧ PyData.depthAll (ms.map mvD) ≤ 3
  | [], _ => ⟨rfl, by simp [PyData.depthAll]⟩
  | m :: r, h => by
    obtain ⟨a, b⟩ := lay_mvs r fun z hz => h z (List.mem_cons_of_mem _ hz)
    have hm := h m (List.mem_cons_self ..)
    refine ⟨?_, ?_⟩
    · show (PyData.canLay0 (mvD m) && PyData.canLayAll0 (r.map mvD)) = true
      rw [a, Bool.and_true]
      show (PyData.canLay0 (.str m.1) && (true && true)) = true
      rw [hm]; rfl
    · show max (PyData.depth (mvD m)) (PyData.depthAll (r.map mvD)) ≤ 3
      exact Nat.max_le.mpr ⟨(by simp [mvD, PyData.depth, PyData.depthAll]), b⟩
theorem shaped_mvs {ms : List (Str × Int)} (h : WdOk ms) : SeqAt.shaped (.list (ms.map mvD)) = true := by
  obtain ⟨a, b⟩ := lay_mvs ms h
  show (PyData.canLayAll0 (ms.map mvD) && decide (PyData.depthAll (ms.map mvD) + 1 ≤ 64)) = true
  rw [a, decide_eq_true (by omega)]; rfl
theorem eqv_mvs {ms : List (Str × Int)} (h : WdOk ms) : PyData.eqv (.list (ms.map mvD)) (.list (ms.map mvD)) = true := SeqAt.eqv_refl _ (lay_mvs ms h).1
theorem ne_mvs {K : PySem.W.Frag} {H : Hp} {a b : Addr} {ms : List (Str × Int)} (h : WdOk ms) (h1 : LsM K H a ms) (h2 : LsM K H b ms) {Q : VK} (q : Q (.bl false) H) : rNeD K (.ref a) (.ref b) H Q := by
  obtain ⟨as, e1, p1⟩ := h1
  obtain ⟨bs, e2, p2⟩ := h2
  refine ⟨_, _, .lst (SqL.of e1) (dp_mvs p1), .lst (SqL.of e2) (dp_mvs p2), shaped_mvs h, shaped_mvs h, ?_⟩
  rw [eqv_mvs h]; exact q
theorem kit_list {K : PySem.W.Frag} : PySem.W.kitOne K (.type "list") (.type "list") = some true := by rfl
theorem words_ok : ∀ x ∈ words, x ∈ words := fun _ h => h
def spLaw (K : PySem.W.Frag) (Pg : Addr) : Sp := fun vs H Q _ => ∃ (a : Addr) (ns : List Int), vs = [.ref a] ∧ SqL K H a (ns.map V.int) ∧ ns.length ≤ 63 ∧ H Pg = some (.tbl #[]) ∧ ∀ H', Q (.bl true) H'
section
variable {P : Program} {w : World} {K : PySem.W.Frag} {mg : Str → Option Value} {base : Heap}
theorem scLaw : FnScope ["_law_script", "_law_words", "_law_rooms", "_law_world_here", "_law_made_here", "_law_turn", "_law_state", "_law_due", "_law_found"] ["_law_script"] (defScope sLaw) := ⟨rfl, rfl, rfl, by decide +kernel, rfl, by decide +kernel, by decide +kernel⟩
theorem ok_law {f C Pg fS fWD fMD fSO fLC fCN : Addr} {fd fdS fdWD fdMD fdSO fdLC fdCN : FuncData} (F : Fun K "law" "law" sLaw f fd) (G : Glb mg) (T : TxW K C)
    (GS : FnOk P w K mg base CX0 1 fS fdS ["_law_script", "_law_k"] (spSource K)) (mgS : mg "_law_source" = some (.ref fS)) (kpS : PySem.W.keepIn K (.ref fS) = true) (bS : Binds K fdS ["_law_script", "_law_k"] [])
    (GWD : FnOk P w K mg base CX0 4 fWD fdWD ["_law_script", "_law_words", "_law_ahead"] (spWorld K)) (mgWD : mg "_law_world" = some (.ref fWD)) (kpWD : PySem.W.keepIn K (.ref fWD) = true) (bWD : Binds K fdWD ["_law_script", "_law_words", "_law_ahead"] [])
    (GMD : FnOk P w K mg base CX0 8 fMD fdMD ["_law_rooms", "_law_world_here"] (spMade C Pg)) (mgMD : mg "_law_made" = some (.ref fMD)) (kpMD : PySem.W.keepIn K (.ref fMD) = true) (bMD : Binds K fdMD ["_law_rooms", "_law_world_here"] [])
    (GSO : FnOk P w K mg base CX0 3 fSO fdSO ["_law_source_here", "_law_world_here"] (spStateOf K)) (mgSO : mg "_law_state_of" = some (.ref fSO)) (kpSO : PySem.W.keepIn K (.ref fSO) = true) (bSO : Binds K fdSO ["_law_source_here", "_law_world_here"] [])
    (GLC : FnOk P w K mg base CX0 2 fLC fdLC ["_law_world_here", "_law_state"] (spLCan K)) (mgLC : mg "_law_can" = some (.ref fLC)) (kpLC : PySem.W.keepIn K (.ref fLC) = true) (bLC : Binds K fdLC ["_law_world_here", "_law_state"] [])
    (mCN : Meth K C "can" fCN) (GCN : FnOk P w K mg base CX0 4 fCN fdCN ["self", "state"] (spCan C K)) (bCN : Binds K fdCN ["self", "state"] []) : FnOk P w K mg base CX0 9 f fd ["_law_script"] (spLaw K Pg) := by
  refine F.ok scLaw (fun vs H Q E h => ?_) (fun cdv A outer s H vs Q E hr h => ?_)
  · obtain ⟨a, ns, rfl, _⟩ := h
    rfl
  · obtain ⟨a, ns, rfl, hS, hlen, hPg, q⟩ := h
    have hr8 : Room 8 _ := hr
    have hr4 : Room 4 _ := hr.mono (by decide)
    have hr3 : Room 3 _ := hr.mono (by decide)
    have hr2 : Room 2 _ := hr.mono (by decide)
    have hr1 : Room 1 _ := hr.mono (by decide)
    have zz : 3000 < sizeLine := by rw [sizeLine_eq]; decide
    have PWpt := @PW.pt
    have pa_cons := @pa_cons
    have pa_nil := @pa_nil
    have pe_bl := @pe_bl
    have pe_bltn := @pe_bltn
    have pe_bm := @pe_bm
    have pe_call := @pe_call
    have pe_callB := @pe_callB
    have pe_int := @pe_int
    have pe_lst := @pe_lst
    have pe_meth := @pe_meth
    have pe_op := @pe_op
    have pe_str := @pe_str
    have pe_tup := @pe_tup
    have pg_name := @pg_name
    have pg_sub := @pg_sub
    have pg_tup := @pg_tup
    have pgs_cons := @pgs_cons
    have pgs_nil := @pgs_nil
    have pi_range1 := @pi_range1
    have ps_asg := @ps_asg
    have ps_expr := @ps_expr
    have ps_for := @ps_for
    have ps_if := @ps_if
    have ps_ret := @ps_ret
    have ps_set := @ps_set
    have pss_cons := @pss_cons
    have pss_cut := @pss_cut
    have pss_nil := @pss_nil
    have pss_one := @pss_one
    have pt_cmpR := @pt_cmpR
    have pt_not := @pt_not
    have pt_val := @pt_val
    have pv := @pv
    have pw_or := @pw_or
    have pw_or1 := @pw_or1
    revert PWpt pa_cons pa_nil pe_bl pe_bltn pe_bm pe_call pe_callB pe_int pe_lst pe_meth pe_op pe_str pe_tup pg_name pg_sub pg_tup pgs_cons pgs_nil pi_range1 ps_asg ps_expr ps_for ps_if ps_ret ps_set pss_cons pss_cut pss_nil pss_one pt_cmpR pt_not pt_val pv pw_or pw_or1
    generalize @L2.PS = vPS
    generalize @L2.PSs = vPSs
    generalize @L2.PE = vPE
    generalize @L2.PT = vPT
    generalize @L2.PW = vPW
    generalize @L2.PC = vPC
    generalize @L2.PA = vPA
    generalize @L2.PG = vPG
    generalize @L2.PI = vPI
    generalize @L2.PO = vPO
    generalize @L2.PTs = vPTs
    generalize @L2.PPs = vPPs
    generalize @L2.PGs = vPGs
    generalize @L2.PK = vPK
    intro PWpt pa_cons pa_nil pe_bl pe_bltn pe_bm pe_call pe_callB pe_int pe_lst pe_meth pe_op pe_str pe_tup pg_name pg_sub pg_tup pgs_cons pgs_nil pi_range1 ps_asg ps_expr ps_for ps_if ps_ret ps_set pss_cons pss_cut pss_nil pss_one pt_cmpR pt_not pt_val pv pw_or pw_or1
    refine ⟨_, (pss_cons (ps_set (i := 1) scLaw.nd rfl (Or.inl rfl) (pe_lst (pa_cons pe_str (pa_cons pe_str (pa_cons pe_str (pa_cons pe_str (pa_cons pe_str (pa_cons pe_str (pa_cons pe_str (pa_cons pe_str (pa_cons pe_str (pa_cons pe_str (pa_cons pe_str pa_nil)))))))))))))
      (pss_cons (ps_asg (pe_call GWD hr4 (by rfl) mgWD kpWD bWD .nil pass0 (pa_cons (pv 0) (pa_cons (pv 1) (pa_cons pe_bl pa_nil)))) (pg_tup rfl (pgs_cons (pg_name (i := 2) scLaw.nd rfl (Or.inl rfl)) (pgs_cons (pg_name (i := 3) scLaw.nd rfl (Or.inl rfl)) pgs_nil))))
      (pss_cons (ps_set (i := 4) scLaw.nd rfl (Or.inl rfl) (pe_call GMD hr8 (by rfl) mgMD kpMD bMD .nil pass0 (pa_cons (pv 2) (pa_cons (pv 3) pa_nil))))
      (pss_cut (ps_for PassesOwn.never rfl (pi_range1 rfl G.range (pa_cons pe_int pa_nil)) (pg_name (i := 5) scLaw.nd rfl (Or.inl rfl)) (pss_cons (ps_set (i := 6) scLaw.nd rfl (Or.inl rfl) (pe_call GSO hr3 (by rfl) mgSO kpSO bSO .nil pass0 (pa_cons (pe_call GS hr1 (by rfl) mgS kpS bS .nil pass0 (pa_cons (pv 0) (pa_cons (pe_op op_add pe_int (pv 5)) pa_nil))) (pa_cons (pv 3) pa_nil))))
      (pss_cons (ps_set (i := 7) scLaw.nd rfl (Or.inl rfl) (pe_call GLC hr2 (by rfl) mgLC kpLC bLC .nil pass0 (pa_cons (pv 3) (pa_cons (pv 6) pa_nil))))
      (pss_cons (ps_set (i := 8) scLaw.nd rfl (Or.inl rfl) (pe_meth (pv 4) T.cl mCN GCN hr4 bCN .nil pass0 (pa_cons (pv 6) pa_nil)))
      (pss_cut (ps_if (PWpt (pw_or (pt_not (pt_val (pe_callB call_isi (by rfl) G.isi (by decide +kernel) (pa_cons (pv 8) (pa_cons (pe_bltn (v := .ty "list") (u := .type "list") (by rfl) G.list (by decide +kernel) rfl) pa_nil))))) (pw_or1 (pt_cmpR (op_neD hr.units) (pv 8) (pv 7) (nomark _))))) (pss_one (ps_ret pe_bl)) pss_nil)
      (pss_cons (ps_expr (pe_bm PySem.F.plainAttrs_list PySem.F.slot_list_append PySem.F.type_list_append mt_append (pv 8) (pa_cons (pe_tup (pa_cons pe_str (pa_cons pe_int pa_nil))) pa_nil)))
      (pss_cons (ps_asg (pe_tup (pa_cons pe_str (pa_cons pe_int pa_nil))) (pg_sub (pv 8) pe_int set_list))
      (pss_one (ps_if (pt_cmpR (op_neD hr.units) (pe_meth (pv 4) T.cl mCN GCN hr4 bCN .nil pass0 (pa_cons (pv 6) pa_nil)) (pv 7) (nomark _)) (pss_one (ps_ret pe_bl)) pss_nil)))))))))
      (pss_one (ps_ret pe_bl)))))), ?_⟩
    refine ⟨by show 11 ≤ sizeLine; omega, fun lw hlw => ?_⟩
    have s1 := sameNew (o := .lst (words.map V.str)) hlw
    have g1 : (upd H lw (.lst (words.map V.str))) lw = some (.lst (words.map V.str)) := upd_same
    have e1 : upd H lw (.lst [V.str "set", V.str "add", V.str "cas", V.str "swap", V.str "take", V.str "if", V.str "load", V.str "wait", V.str "still", V.str "wake", V.str "move"]) = upd H lw (.lst (words.map V.str)) := rfl
    rw [e1]
    generalize upd H lw (.lst (words.map V.str)) = H1 at s1 g1
    refine ⟨_, rfl, _, rfl, a, ns, lw, words, false, rfl, sqLS s1 hS, hlen, g1, by decide, by decide, words_ok, fun t dR tw x rm H2 ok s2 ht hdR hW => ?_⟩
    refine ⟨_, _, rfl, SqT.of ht, rfl, _, _, rfl, _, _, rfl, rfl, ?_⟩
    have hL : LG H2 Pg := .inl (s2 _ _ (s1 _ _ hPg))
    refine ⟨_, rfl, _, rfl, dR, tw, x, false, rm, rfl, hdR, hW, ok, hL, fun o H3 k3 hL3 hWO => ?_⟩
    have nT : ∀ {b : Addr} {u : HO}, H2 b = some u → (∀ t, u ≠ .tbl t) → H3 b = some u := fun {b u} e z => k3 _ _ e fun y => by
      rw [y, s2 _ _ (s1 _ _ hPg)] at e; cases e; exact z _ rfl
    have nPg := s2 _ _ (s1 _ _ hPg)
    have hS2 := sqLS s2 (sqLS s1 hS)
    have hS3 : SqL K H3 a (ns.map V.int) := by
      rcases hS2 with (h | ⟨u, h⟩) | h
      · exact .inl (.inl (nT h (by intro t z; cases z)))
      · exact .inl (.inr ⟨u, nT h (by intro t z; cases z)⟩)
      · exact .inr h
    have hW3 : WAt H3 tw x := by
      obtain ⟨ln, lv, lp, lo, ps, a1, a2, a3, a4, a5, a6⟩ := hW
      have nn : ∀ {b : Addr} {u : HO}, H2 b = some u → (∀ t, u ≠ .tbl t) → b ≠ Pg := fun {b u} e z y => by
        rw [y, nPg] at e; cases e; exact z _ rfl
      exact ⟨ln, lv, lp, lo, ps, nT a1 (by intro t z; cases z), nT a2 (by intro t z; cases z), nT a3 (by intro t z; cases z), nT a4 (by intro t z; cases z), pr_mono (fun q rs h => by
        obtain ⟨as, b1, b2⟩ := h
        exact ⟨as, nT b1 (by intro t z; cases z), pr_mono (fun q r h => nT h (by intro t z; cases z)) b2⟩) a5, nT a6 (by intro t z; cases z)⟩
    have hp8 := ok.p8
    have nl12 : x.names.length ≤ 12 := by rw [ok.perm.length_eq, List.length_map]; exact ok.r12
    -- the four states
    refine ⟨fun _ _ => True, ?_, fun _ H' _ => q H'⟩
    refine ⟨4, rfl, by omega, by omega, for_range (lo := 0) (n := 4) (fun i σ' H' => (∃ v5 v6 v7 v8, σ' = [some (.ref a), some (.ref lw), some (.ref dR), some (.ref tw), some (.ref o), v5, v6, v7, v8]) ∧ Same H3 H') ⟨⟨_, _, _, _, rfl⟩, Same.refl _⟩ ?_ fun _ _ _ => trivial⟩
    rintro i _ H4 hi ⟨⟨v5, v6, v7, v8, rfl⟩, s4⟩
    refine ⟨_, rfl, _, rfl, _, _, rfl, rfl, a, ns, _, rfl, sqLS s4 hS3, hlen, by omega, by omega, fun p d c hp sb => ?_⟩
    have s5 := sameNew (o := srcO d c 0) hp
    refine ⟨_, rfl, p, tw, d, c, 0, x, false, rm, H4, rfl, upd_same, sb, by decide, hW3.same s4, ok, s5, hp, fun t S H5 okS k5 SA => ?_⟩
    have s45 : Same H4 H5 := fun b u e => k5 _ _ (s5 _ _ e) (ne_of_none e hp)
    have s35 := s4.trans s45
    clear k5 s5
    have l12 : S.lines.length ≤ 12 := by rw [okS.ll]; exact nl12
    refine ⟨_, rfl, _, rfl, tw, t, S, x, rfl, hW3.same s35, SA, okS, hp8, l12, fun ld H6 s6 f6 L6 => ?_⟩
    have s36 := s35.trans s6
    have hWO6 := hWO.same s36
    have SA6 := SA.same s6
    obtain ⟨dx, ds, tn, lp, lm, lr, ps, hp6, _⟩ := id hWO6
    refine ⟨_, rfl, o, dx, _, rfl, hp6, wf_can_no, _, rfl, o, t, S, x, rfl, hWO6, SA6, okS, hp8, fun lf H7 s7 f7 L7 => ?_⟩
    have wd := wd_can x S
    refine ⟨fun σ' H' => σ' = [some (.ref a), some (.ref lw), some (.ref dR), some (.ref tw), some (.ref o), some (.int (0 + (i : Int))), some (.ref t), some (.ref ld), some (.ref lf)] ∧ H' = H7, ?_, ?_⟩
    · obtain ⟨as, e7, p7⟩ := id L7
      refine ⟨_, rfl, _, .type "list", _, true, rfl, .lst e7, kit_list, true, rfl, iteF ⟨_, rfl, _, rfl, ne_mvs wd L7 (L6.same s7) ⟨false, rfl, iteF ⟨rfl, rfl⟩⟩⟩⟩
    rintro _ H7 ⟨rfl, rfl⟩
    obtain ⟨as, e7, p7⟩ := L7
    have ll : as.length ≤ 24 := by
      rw [pr_len p7]
      unfold canL
      rw [List.length_append, List.length_append]
      have := mvs_len "step" (stepB x S) x.plans.length
      have := mvs_len "late" (lateB x S) x.plans.length
      have := mvs_len "nudge" (nudB x S) x.plans.length
      omega
    -- the told list is changed
    refine ⟨_, rfl, .inl ⟨rfl, _, SqL.of e7⟩, by show 2 ≤ sizeLine; omega, fun t1 h1 => ⟨lf, _, _, rfl, rfl, sameNew h1 _ _ e7, by rw [List.length_map]; omega, ?_⟩⟩
    have n1 : lf ≠ t1 := ne_of_none e7 h1
    have s8 : Same H6 (upd (upd H7 t1 (.tup [.str "step", .int 0])) lf (.lst (as.map V.ref ++ [V.ref t1]))) := fun b u e => by
      rw [upd_ne (ne_of_none e f7), upd_ne (ne_of_none (s7 _ _ e) h1)]; exact s7 _ _ e
    have e8 : (upd (upd H7 t1 (.tup [.str "step", .int 0])) lf (.lst (as.map V.ref ++ [V.ref t1]))) lf = some (.lst (as.map V.ref ++ [V.ref t1])) := upd_same
    generalize upd (upd H7 t1 (.tup [.str "step", .int 0])) lf (.lst (as.map V.ref ++ [V.ref t1])) = H8 at s8 e8
    refine ⟨by show 2 ≤ sizeLine; omega, fun t2 h2 => ⟨_, rfl, lf, _, _, 0, rfl, rfl, sameNew h2 _ _ e8, by rw [List.length_append, List.length_singleton]; unfold ixN; rw [if_pos (by omega), if_pos (by omega)]; rfl, ?_⟩⟩
    have s9 : Same H6 (upd (upd H8 t2 (.tup [.str "late", .int 0])) lf (.lst ((as.map V.ref ++ [V.ref t1]).set 0 (V.ref t2)))) := fun b u e => by
      rw [upd_ne (ne_of_none e f7), upd_ne (ne_of_none (s8 _ _ e) h2)]; exact s8 _ _ e
    generalize upd (upd H8 t2 (.tup [.str "late", .int 0])) lf (.lst ((as.map V.ref ++ [V.ref t1]).set 0 (V.ref t2))) = H9 at s9
    refine ⟨_, rfl, o, dx, _, rfl, s9 _ _ hp6, wf_can_no, _, rfl, o, t, S, x, rfl, hWO6.same s9, SA6.same s9, okS, hp8, fun lg H10 s10 f10 L10 => ?_⟩
    exact ⟨_, rfl, ne_mvs wd L10 (L6.same (s9.trans s10)) ⟨false, rfl, iteF ⟨⟨_, _, _, _, rfl⟩, (s36.trans s9).trans s10⟩⟩⟩
end
end Wo

set_option Elab.async false
set_option maxRecDepth 100000
set_option linter.all false
set_option maxHeartbeats 8000000
namespace Wo
open PySem L2 TL Rl Tb Wf Dc
theorem all_mk {l : PySem.W.OpenLaw} {w : World} {K : PySem.W.Frag} {h : Heap} {mg : Str → Option Value} {fa aF C Pg cRF dI fI fCk fRA fST fOM fCN fRF fPF fLP fSL fS fD fNA fN fCO fRO fWD fAS fLR fLC fWI fLL fMD fSO fL : Addr} (X : K.In h) (G : h.Ns mainGlobals mg) (hfa : mg "law" = some (.ref fa))
    {odI anI odCk anCk odRA anRA odST anST odOM anOM odCN anCN odRF anRF odPF anPF odLP anLP odSL anSL odS anS odD anD odNA anNA odN anN odCO anCO odRO anRO odWD anWD odAS anAS odLR anLR odLC anLC odWI anWI odLL anLL odMD anMD odSO anSO odL anL : Option Addr} {slI slCk slRA slST slOM slCN slRF slPF slLP slSL slS slD slNA slN slCO slRO slWD slAS slLR slLC slWI slLL slMD slSO slL : Array (Option Value)} {ocI dcI pmI ctI cdI ocCk dcCk pmCk ctCk kVCk cdCk ocRA dcRA pmRA ctRA kVRA cdRA ocST dcST pmST ctST kVST cdST ocOM dcOM pmOM ctOM kVOM cdOM ocCN dcCN pmCN ctCN kVCN cdCN ocRF dcRF pmRF ctRF kVRF ocPF dcPF pmPF ctPF kVPF cdPF ocLP dcLP pmLP ctLP kVLP cdLP ocSL dcSL pmSL ctSL kVSL cdSL ocS dcS pmS ctS kVS cdS ocD dcD pmD ctD kVD cdD ocNA dcNA pmNA ctNA kVNA cdNA ocN dcN pmN ctN kVN cdN ocCO dcCO pmCO ctCO kVCO cdCO ocRO dcRO pmRO ctRO kVRO cdRO ocWD dcWD pmWD ctWD kVWD cdWD ocAS dcAS pmAS ctAS kVAS cdAS ocLR dcLR pmLR ctLR kVLR cdLR ocLC dcLC pmLC ctLC kVLC cdLC ocWI dcWI pmWI ctWI kVWI cdWI ocLL dcLL pmLL ctLL kVLL cdLL ocMD dcMD pmMD ctMD kVMD cdMD ocSO dcSO pmSO ctSO kVSO cdSO ocL dcL pmL ctL kVL cdL : Value}
    (aC : PySem.W.nsIn K mainGlobals "World" = some (some (.ref C)))
    (aI : PySem.W.findIn K (.ref C) "__init__" = some (some (.ref fI)))
    (iI : PySem.W.isFn K (.ref fI) = true)
    (lI : K.lookup fI = some ⟨ocI, odI, .func (PySem.W.fnOf "__init__" "World.__init__" (defArgs sWorld_init) (defBody sWorld_init) (defScope sWorld_init) .none (.ref dI) dcI pmI anI cdI ctI), slI⟩)
    (qI : PySem.W.codeIn K cdI "World.__init__" = true)
    (kI : PySem.W.keepIn K (.ref fI) = true)
    (aCk : PySem.W.findIn K (.ref C) "check_plans" = some (some (.ref fCk)))
    (iCk : PySem.W.isFn K (.ref fCk) = true)
    (lCk : K.lookup fCk = some ⟨ocCk, odCk, .func (PySem.W.fnOf "check_plans" "World.check_plans" (defArgs sWorld_check_plans) (defBody sWorld_check_plans) (defScope sWorld_check_plans) .none kVCk dcCk pmCk anCk cdCk ctCk), slCk⟩)
    (qCk : PySem.W.codeIn K cdCk "World.check_plans" = true)
    (kCk : PySem.W.keepIn K (.ref fCk) = true)
    (aRA : PySem.W.findIn K (.ref C) "row_at" = some (some (.ref fRA)))
    (iRA : PySem.W.isFn K (.ref fRA) = true)
    (lRA : K.lookup fRA = some ⟨ocRA, odRA, .func (PySem.W.fnOf "row_at" "World.row_at" (defArgs sWorld_row_at) (defBody sWorld_row_at) (defScope sWorld_row_at) .none kVRA dcRA pmRA anRA cdRA ctRA), slRA⟩)
    (qRA : PySem.W.codeIn K cdRA "World.row_at" = true)
    (kRA : PySem.W.keepIn K (.ref fRA) = true)
    (aST : PySem.W.findIn K (.ref C) "steps" = some (some (.ref fST)))
    (iST : PySem.W.isFn K (.ref fST) = true)
    (lST : K.lookup fST = some ⟨ocST, odST, .func (PySem.W.fnOf "steps" "World.steps" (defArgs sWorld_steps) (defBody sWorld_steps) (defScope sWorld_steps) .none kVST dcST pmST anST cdST ctST), slST⟩)
    (qST : PySem.W.codeIn K cdST "World.steps" = true)
    (kST : PySem.W.keepIn K (.ref fST) = true)
    (aOM : PySem.W.findIn K (.ref C) "own_moves" = some (some (.ref fOM)))
    (iOM : PySem.W.isFn K (.ref fOM) = true)
    (lOM : K.lookup fOM = some ⟨ocOM, odOM, .func (PySem.W.fnOf "own_moves" "World.own_moves" (defArgs sWorld_own_moves) (defBody sWorld_own_moves) (defScope sWorld_own_moves) .none kVOM dcOM pmOM anOM cdOM ctOM), slOM⟩)
    (qOM : PySem.W.codeIn K cdOM "World.own_moves" = true)
    (kOM : PySem.W.keepIn K (.ref fOM) = true)
    (aCN : PySem.W.findIn K (.ref C) "can" = some (some (.ref fCN)))
    (iCN : PySem.W.isFn K (.ref fCN) = true)
    (lCN : K.lookup fCN = some ⟨ocCN, odCN, .func (PySem.W.fnOf "can" "World.can" (defArgs sWorld_can) (defBody sWorld_can) (defScope sWorld_can) .none kVCN dcCN pmCN anCN cdCN ctCN), slCN⟩)
    (qCN : PySem.W.codeIn K cdCN "World.can" = true)
    (kCN : PySem.W.keepIn K (.ref fCN) = true)
    (aRF : PySem.W.nsIn K mainGlobals "row_fits" = some (some (.ref fRF)))
    (lRF : K.lookup fRF = some ⟨ocRF, odRF, .func (PySem.W.fnOf "row_fits" "row_fits" (defArgs sRowFits) (defBody sRowFits) (defScope sRowFits) .none kVRF dcRF pmRF anRF (.ref cRF) ctRF), slRF⟩)
    (qRF : PySem.W.codeIn K (.ref cRF) "row_fits" = true)
    (kRF : PySem.W.keepIn K (.ref fRF) = true)
    (aPF : PySem.W.nsIn K mainGlobals "part_fits" = some (some (.ref fPF)))
    (lPF : K.lookup fPF = some ⟨ocPF, odPF, .func (PySem.W.fnOf "part_fits" "part_fits" (defArgs sFits) (defBody sFits) (defScope sFits) .none kVPF dcPF pmPF anPF cdPF ctPF), slPF⟩)
    (qPF : PySem.W.codeIn K cdPF "part_fits" = true)
    (kPF : PySem.W.keepIn K (.ref fPF) = true)
    (aLP : PySem.W.nsIn K mainGlobals "late_place" = some (some (.ref fLP)))
    (lLP : K.lookup fLP = some ⟨ocLP, odLP, .func (PySem.W.fnOf "late_place" "late_place" (defArgs sLatePlace) (defBody sLatePlace) (defScope sLatePlace) .none kVLP dcLP pmLP anLP cdLP ctLP), slLP⟩)
    (qLP : PySem.W.codeIn K cdLP "late_place" = true)
    (kLP : PySem.W.keepIn K (.ref fLP) = true)
    (aSL : PySem.W.nsIn K mainGlobals "sleepers" = some (some (.ref fSL)))
    (lSL : K.lookup fSL = some ⟨ocSL, odSL, .func (PySem.W.fnOf "sleepers" "sleepers" (defArgs sSleepers) (defBody sSleepers) (defScope sSleepers) .none kVSL dcSL pmSL anSL cdSL ctSL), slSL⟩)
    (qSL : PySem.W.codeIn K cdSL "sleepers" = true)
    (kSL : PySem.W.keepIn K (.ref fSL) = true)
    (aS : PySem.W.nsIn K mainGlobals "_law_source" = some (some (.ref fS)))
    (lS : K.lookup fS = some ⟨ocS, odS, .func (PySem.W.fnOf "_law_source" "_law_source" (defArgs sSource) (defBody sSource) (defScope sSource) .none kVS dcS pmS anS cdS ctS), slS⟩)
    (qS : PySem.W.codeIn K cdS "_law_source" = true)
    (kS : PySem.W.keepIn K (.ref fS) = true)
    (aD : PySem.W.nsIn K mainGlobals "_law_draw" = some (some (.ref fD)))
    (lD : K.lookup fD = some ⟨ocD, odD, .func (PySem.W.fnOf "_law_draw" "_law_draw" (defArgs sDraw) (defBody sDraw) (defScope sDraw) .none kVD dcD pmD anD cdD ctD), slD⟩)
    (qD : PySem.W.codeIn K cdD "_law_draw" = true)
    (kD : PySem.W.keepIn K (.ref fD) = true)
    (aNA : PySem.W.nsIn K mainGlobals "_law_names" = some (some (.ref fNA)))
    (lNA : K.lookup fNA = some ⟨ocNA, odNA, .func (PySem.W.fnOf "_law_names" "_law_names" (defArgs sLNames) (defBody sLNames) (defScope sLNames) .none kVNA dcNA pmNA anNA cdNA ctNA), slNA⟩)
    (qNA : PySem.W.codeIn K cdNA "_law_names" = true)
    (kNA : PySem.W.keepIn K (.ref fNA) = true)
    (aN : PySem.W.nsIn K mainGlobals "_law_number" = some (some (.ref fN)))
    (lN : K.lookup fN = some ⟨ocN, odN, .func (PySem.W.fnOf "_law_number" "_law_number" (defArgs sLNumber) (defBody sLNumber) (defScope sLNumber) .none kVN dcN pmN anN cdN ctN), slN⟩)
    (qN : PySem.W.codeIn K cdN "_law_number" = true)
    (kN : PySem.W.keepIn K (.ref fN) = true)
    (aCO : PySem.W.nsIn K mainGlobals "_law_count" = some (some (.ref fCO)))
    (lCO : K.lookup fCO = some ⟨ocCO, odCO, .func (PySem.W.fnOf "_law_count" "_law_count" (defArgs sLCount) (defBody sLCount) (defScope sLCount) .none kVCO dcCO pmCO anCO cdCO ctCO), slCO⟩)
    (qCO : PySem.W.codeIn K cdCO "_law_count" = true)
    (kCO : PySem.W.keepIn K (.ref fCO) = true)
    (aRO : PySem.W.nsIn K mainGlobals "_law_row_of" = some (some (.ref fRO)))
    (lRO : K.lookup fRO = some ⟨ocRO, odRO, .func (PySem.W.fnOf "_law_row_of" "_law_row_of" (defArgs sLRowOf) (defBody sLRowOf) (defScope sLRowOf) .none kVRO dcRO pmRO anRO cdRO ctRO), slRO⟩)
    (qRO : PySem.W.codeIn K cdRO "_law_row_of" = true)
    (kRO : PySem.W.keepIn K (.ref fRO) = true)
    (aWD : PySem.W.nsIn K mainGlobals "_law_world" = some (some (.ref fWD)))
    (lWD : K.lookup fWD = some ⟨ocWD, odWD, .func (PySem.W.fnOf "_law_world" "_law_world" (defArgs sLWorld) (defBody sLWorld) (defScope sLWorld) .none kVWD dcWD pmWD anWD cdWD ctWD), slWD⟩)
    (qWD : PySem.W.codeIn K cdWD "_law_world" = true)
    (kWD : PySem.W.keepIn K (.ref fWD) = true)
    (aAS : PySem.W.nsIn K mainGlobals "_law_asleep" = some (some (.ref fAS)))
    (lAS : K.lookup fAS = some ⟨ocAS, odAS, .func (PySem.W.fnOf "_law_asleep" "_law_asleep" (defArgs sLAsleep) (defBody sLAsleep) (defScope sLAsleep) .none kVAS dcAS pmAS anAS cdAS ctAS), slAS⟩)
    (qAS : PySem.W.codeIn K cdAS "_law_asleep" = true)
    (kAS : PySem.W.keepIn K (.ref fAS) = true)
    (aLR : PySem.W.nsIn K mainGlobals "_law_row" = some (some (.ref fLR)))
    (lLR : K.lookup fLR = some ⟨ocLR, odLR, .func (PySem.W.fnOf "_law_row" "_law_row" (defArgs sLRow) (defBody sLRow) (defScope sLRow) .none kVLR dcLR pmLR anLR cdLR ctLR), slLR⟩)
    (qLR : PySem.W.codeIn K cdLR "_law_row" = true)
    (kLR : PySem.W.keepIn K (.ref fLR) = true)
    (aLC : PySem.W.nsIn K mainGlobals "_law_can" = some (some (.ref fLC)))
    (lLC : K.lookup fLC = some ⟨ocLC, odLC, .func (PySem.W.fnOf "_law_can" "_law_can" (defArgs sLCan) (defBody sLCan) (defScope sLCan) .none kVLC dcLC pmLC anLC cdLC ctLC), slLC⟩)
    (qLC : PySem.W.codeIn K cdLC "_law_can" = true)
    (kLC : PySem.W.keepIn K (.ref fLC) = true)
    (aWI : PySem.W.nsIn K mainGlobals "_law_with" = some (some (.ref fWI)))
    (lWI : K.lookup fWI = some ⟨ocWI, odWI, .func (PySem.W.fnOf "_law_with" "_law_with" (defArgs sLWith) (defBody sLWith) (defScope sLWith) .none kVWI dcWI pmWI anWI cdWI ctWI), slWI⟩)
    (qWI : PySem.W.codeIn K cdWI "_law_with" = true)
    (kWI : PySem.W.keepIn K (.ref fWI) = true)
    (aLL : PySem.W.nsIn K mainGlobals "_law_lain" = some (some (.ref fLL)))
    (lLL : K.lookup fLL = some ⟨ocLL, odLL, .func (PySem.W.fnOf "_law_lain" "_law_lain" (defArgs sLLain) (defBody sLLain) (defScope sLLain) .none kVLL dcLL pmLL anLL cdLL ctLL), slLL⟩)
    (qLL : PySem.W.codeIn K cdLL "_law_lain" = true)
    (kLL : PySem.W.keepIn K (.ref fLL) = true)
    (aMD : PySem.W.nsIn K mainGlobals "_law_made" = some (some (.ref fMD)))
    (lMD : K.lookup fMD = some ⟨ocMD, odMD, .func (PySem.W.fnOf "_law_made" "_law_made" (defArgs sLMade) (defBody sLMade) (defScope sLMade) .none kVMD dcMD pmMD anMD cdMD ctMD), slMD⟩)
    (qMD : PySem.W.codeIn K cdMD "_law_made" = true)
    (kMD : PySem.W.keepIn K (.ref fMD) = true)
    (aSO : PySem.W.nsIn K mainGlobals "_law_state_of" = some (some (.ref fSO)))
    (lSO : K.lookup fSO = some ⟨ocSO, odSO, .func (PySem.W.fnOf "_law_state_of" "_law_state_of" (defArgs sLStateOf) (defBody sLStateOf) (defScope sLStateOf) .none kVSO dcSO pmSO anSO cdSO ctSO), slSO⟩)
    (qSO : PySem.W.codeIn K cdSO "_law_state_of" = true)
    (kSO : PySem.W.keepIn K (.ref fSO) = true)
    (aL : PySem.W.nsIn K mainGlobals "law" = some (some (.ref fL)))
    (lL : K.lookup fL = some ⟨ocL, odL, .func (PySem.W.fnOf "law" "law" (defArgs sLaw) (defBody sLaw) (defScope sLaw) .none kVL dcL pmL anL cdL ctL), slL⟩)
    (qL : PySem.W.codeIn K cdL "law" = true)
    (kL : PySem.W.keepIn K (.ref fL) = true)
    (hTRF : PySem.W.codeHdIn K cRF Pg = true)
    (aFM : PySem.W.nsIn K mainGlobals "FORMS" = some (some (.ref aF)))
    (fOK : U.formsOk K aF = true)
    (pg : PySem.W.plainGet K C Str.empty = true)
    (hd : PySem.W.hasDictIn K C = true)
    (po : PySem.W.plainOver K C = true)
    (sa : PySem.W.findIn K (.ref C) "__setattr__" = some (some (.builtin "object.__setattr__")))
    (mk : PySem.W.makesIn K C = true)
    (kc : PySem.W.keepIn K (.ref C) = true)
    (n0 : PySem.W.findIn K (.ref C) "seats" = some none)
    (n1 : PySem.W.findIn K (.ref C) "numbers" = some none)
    (n2 : PySem.W.findIn K (.ref C) "plans" = some none)
    (n3 : PySem.W.findIn K (.ref C) "marks" = some none)
    (n4 : PySem.W.findIn K (.ref C) "ranks" = some none)
    (n5 : PySem.W.findIn K (.ref C) "nudges" = some none)
    (xI0 : ∀ (v0 v1 v2 : Value) (S : Setting), PySem.W.peek K S (bindArgs (PySem.W.fnOf "__init__" "World.__init__" (defArgs sWorld_init) (defBody sWorld_init) (defScope sWorld_init) .none (.ref dI) dcI pmI anI cdI ctI) ⟨[v0, v1, v2], []⟩) = some ([("self", v0), ("rooms", v1), ("plans", v2), ("marks", .none), ("ranks", .none), ("nudges", .bool false)] : List (Str × Value)))
    (xI1 : ∀ (v0 v1 v2 w0 w1 : Value) (S : Setting), PySem.W.peek K S (bindArgs (PySem.W.fnOf "__init__" "World.__init__" (defArgs sWorld_init) (defBody sWorld_init) (defScope sWorld_init) .none (.ref dI) dcI pmI anI cdI ctI) ⟨[v0, v1, v2], [("ranks", w0), ("nudges", w1)]⟩) = some ([("self", v0), ("rooms", v1), ("plans", v2), ("marks", .none), ("ranks", w0), ("nudges", w1)] : List (Str × Value)))
    (gl0 : PySem.W.nsIn K mainGlobals "len" = some none)
    (gl1 : PySem.W.nsIn K mainGlobals "enumerate" = some none)
    (gl2 : PySem.W.nsIn K mainGlobals "int" = some none)
    (gl3 : PySem.W.nsIn K mainGlobals "range" = some none)
    (gl4 : PySem.W.nsIn K mainGlobals "dict" = some none)
    (gl5 : PySem.W.nsIn K mainGlobals "sorted" = some none)
    (gl6 : PySem.W.nsIn K mainGlobals "isinstance" = some none)
    (gl7 : PySem.W.nsIn K mainGlobals "list" = some none)
    (gl8 : PySem.W.nsIn K mainGlobals "all" = some none)
    (gl9 : PySem.W.nsIn K mainGlobals "tuple" = some none)
    (gl10 : PySem.W.nsIn K mainGlobals "max" = some none)
    (gl11 : PySem.W.nsIn K mainGlobals "min" = some none)
    (gl12 : PySem.W.nsIn K mainGlobals "str" = some none)
    (gl13 : PySem.W.nsIn K mainGlobals "reversed" = some none)
    (gl14 : PySem.W.nsIn K mainGlobals "abs" = some none)
    (gl15 : PySem.W.nsIn K mainGlobals "zip" = some none)
    (gl16 : PySem.W.nsIn K mainGlobals "any" = some none) :
    ∃ fd : FuncData, (∀ (s : Shared) (v : Value), BindsTo s fd ⟨[v], []⟩ [("_law_script", v)]) ∧ ∀ base : Heap, K.In base → base.Ns mainGlobals mg → BM mg base → FnOk l.prog w K mg base CX0 9 fa fd ["_law_script"] (spLaw K Pg) := by
  have e := hfa.symm.trans (PySem.W.mg_of X G aL)
  cases e
  have g_zip := PySem.W.mg_none_of X G gl15
  have g_any := PySem.W.mg_none_of X G gl16
  have g : Glb mg := ⟨PySem.W.mg_none_of X G gl0, PySem.W.mg_none_of X G gl1, PySem.W.mg_none_of X G gl2, PySem.W.mg_none_of X G gl3, PySem.W.mg_none_of X G gl4, PySem.W.mg_none_of X G gl5, PySem.W.mg_none_of X G gl6, PySem.W.mg_none_of X G gl7, PySem.W.mg_none_of X G gl8, PySem.W.mg_none_of X G gl9, PySem.W.mg_none_of X G gl10, PySem.W.mg_none_of X G gl11, PySem.W.mg_none_of X G gl12, PySem.W.mg_none_of X G gl13, PySem.W.mg_none_of X G gl14⟩
  have T : TxW K C := ⟨⟨pg, hd, po, sa⟩, n0, n1, n2, n3, n4, n5⟩
  have FI := fun_mk (st := sWorld_init) lI qI kI
  have FCk := fun_mk (st := sWorld_check_plans) lCk qCk kCk
  have bCk := FCk.binds (ps := ["self"]) fun _ _ _ _ _ _ us hl => match us, hl with | [_], _ => rfl
  have FRA := fun_mk (st := sWorld_row_at) lRA qRA kRA
  have bRA := FRA.binds (ps := ["self", "state", "guest"]) fun _ _ _ _ _ _ us hl => match us, hl with | [_, _, _], _ => rfl
  have FST := fun_mk (st := sWorld_steps) lST qST kST
  have bST := FST.binds (ps := ["self", "state"]) fun _ _ _ _ _ _ us hl => match us, hl with | [_, _], _ => rfl
  have FOM := fun_mk (st := sWorld_own_moves) lOM qOM kOM
  have bOM := FOM.binds (ps := ["self", "state"]) fun _ _ _ _ _ _ us hl => match us, hl with | [_, _], _ => rfl
  have FCN := fun_mk (st := sWorld_can) lCN qCN kCN
  have bCN := FCN.binds (ps := ["self", "state"]) fun _ _ _ _ _ _ us hl => match us, hl with | [_, _], _ => rfl
  have bRF : Binds K (PySem.W.fnOf "row_fits" "row_fits" (defArgs sRowFits) (defBody sRowFits) (defScope sRowFits) .none kVRF dcRF pmRF anRF (.ref cRF) ctRF) ["row", "rooms", "end"] [] := fun s us hK hl => by
    match us, hl with
    | [v0, v1, v2], _ => exact .of_eq rfl
  have FPF := fun_mk (st := sFits) lPF qPF kPF
  have bPF := FPF.binds (ps := ["kind", "part", "rooms", "end"]) fun _ _ _ _ _ _ us hl => match us, hl with | [_, _, _, _], _ => rfl
  have FLP := fun_mk (st := sLatePlace) lLP qLP kLP
  have bLP := FLP.binds (ps := ["row"]) fun _ _ _ _ _ _ us hl => match us, hl with | [_], _ => rfl
  have FSL := fun_mk (st := sSleepers) lSL qSL kSL
  have bSL := FSL.binds (ps := ["state"]) fun _ _ _ _ _ _ us hl => match us, hl with | [_], _ => rfl
  have FS := fun_mk (st := sSource) lS qS kS
  have bS := FS.binds (ps := ["_law_script", "_law_k"]) fun _ _ _ _ _ _ us hl => match us, hl with | [_, _], _ => rfl
  have FD := fun_mk (st := sDraw) lD qD kD
  have bD := FD.binds (ps := ["_law_source_here", "_law_many"]) fun _ _ _ _ _ _ us hl => match us, hl with | [_, _], _ => rfl
  have FNA := fun_mk (st := sLNames) lNA qNA kNA
  have bNA := FNA.binds (ps := ["_law_source_here", "_law_many"]) fun _ _ _ _ _ _ us hl => match us, hl with | [_, _], _ => rfl
  have FN := fun_mk (st := sLNumber) lN qN kN
  have bN := FN.binds (ps := ["_law_source_here"]) fun _ _ _ _ _ _ us hl => match us, hl with | [_], _ => rfl
  have FCO := fun_mk (st := sLCount) lCO qCO kCO
  have bCO := FCO.binds (ps := ["_law_source_here"]) fun _ _ _ _ _ _ us hl => match us, hl with | [_], _ => rfl
  have FRO := fun_mk (st := sLRowOf) lRO qRO kRO
  have bRO := FRO.binds (ps := ["_law_source_here", "_law_names_here", "_law_size", "_law_words", "_law_low"]) fun _ _ _ _ _ _ us hl => match us, hl with | [_, _, _, _, _], _ => rfl
  have FWD := fun_mk (st := sLWorld) lWD qWD kWD
  have bWD := FWD.binds (ps := ["_law_script", "_law_words", "_law_ahead"]) fun _ _ _ _ _ _ us hl => match us, hl with | [_, _, _], _ => rfl
  have FAS := fun_mk (st := sLAsleep) lAS qAS kAS
  have bAS := FAS.binds (ps := ["_law_state", "_law_guest"]) fun _ _ _ _ _ _ us hl => match us, hl with | [_, _], _ => rfl
  have FLR := fun_mk (st := sLRow) lLR qLR kLR
  have bLR := FLR.binds (ps := ["_law_world_here", "_law_state", "_law_guest"]) fun _ _ _ _ _ _ us hl => match us, hl with | [_, _, _], _ => rfl
  have FLC := fun_mk (st := sLCan) lLC qLC kLC
  have bLC := FLC.binds (ps := ["_law_world_here", "_law_state"]) fun _ _ _ _ _ _ us hl => match us, hl with | [_, _], _ => rfl
  have FWI := fun_mk (st := sLWith) lWI qWI kWI
  have bWI := FWI.binds (ps := ["_law_items", "_law_at", "_law_value"]) fun _ _ _ _ _ _ us hl => match us, hl with | [_, _, _], _ => rfl
  have FLL := fun_mk (st := sLLain) lLL qLL kLL
  have bLL := FLL.binds (ps := ["_law_line", "_law_guest", "_law_orders"]) fun _ _ _ _ _ _ us hl => match us, hl with | [_, _, _], _ => rfl
  have FMD := fun_mk (st := sLMade) lMD qMD kMD
  have bMD := FMD.binds (ps := ["_law_rooms", "_law_world_here"]) fun _ _ _ _ _ _ us hl => match us, hl with | [_, _], _ => rfl
  have FSO := fun_mk (st := sLStateOf) lSO qSO kSO
  have bSO := FSO.binds (ps := ["_law_source_here", "_law_world_here"]) fun _ _ _ _ _ _ us hl => match us, hl with | [_, _], _ => rfl
  have FL := fun_mk (st := sLaw) lL qL kL
  have bI0 : Binds K (PySem.W.fnOf "__init__" "World.__init__" (defArgs sWorld_init) (defBody sWorld_init) (defScope sWorld_init) .none (.ref dI) dcI pmI anI cdI ctI) ["self", "rooms", "plans", "marks", "ranks", "nudges"] [.none, .none, .bool false] := fun s us hK hl => by
    have hl3 : us.length = 3 := by rw [List.length_append] at hl; simpa using hl
    match us, hl3 with
    | [v0, v1, v2], _ => exact PySem.W.kp_binds hK (fun S => xI0 v0 v1 v2 S)
  have bI1 : KBinds K (PySem.W.fnOf "__init__" "World.__init__" (defArgs sWorld_init) (defBody sWorld_init) (defScope sWorld_init) .none (.ref dI) dcI pmI anI cdI ctI) ["self", "rooms", "plans", "marks", "ranks", "nudges"] ["ranks", "nudges"] (gP 3 2 [Value.none] [0, 1, 2, 3, 4, 5]) (gP 3 2 [V.non] [0, 1, 2, 3, 4, 5]) := ⟨fun s us ws hK hl => by
    obtain ⟨h1, h2⟩ := gP_is (L := 5) hl
    match us, ws, h1, h2 with
    | [v0, v1, v2], [w0, w1], _, _ => exact PySem.W.kp_binds hK (fun S => xI1 v0 v1 v2 w0 w1 S), fun r rz => gP_vals (.cons rfl .nil) r rz⟩
  refine ⟨PySem.W.fnOf "law" "law" (defArgs sLaw) (defBody sLaw) (defScope sLaw) .none kVL dcL pmL anL cdL ctL, fun s v => .of_eq rfl, fun base _ _ hbm => ?_⟩
  have GRF : FnOk l.prog w K mg base CX0 4 fRF _ _ (spRowFits Pg) := ok_rowFits lRF qRF hTRF hbm g g_zip lPF qPF kPF (PySem.W.mg_of X G aPF) (U.formsOk_ok (PySem.W.mg_of X G aFM) fOK)
  have GCk : FnOk l.prog w K mg base CX0 5 fCk _ _ (spCk C Pg) := ok_check FCk T g GRF (PySem.W.mg_of X G aRF) kRF bRF
  have GI : FnOk l.prog w K mg base CX0 6 fI _ _ (spWInit C Pg) := ok_winit FI T g ⟨aCk, iCk, kCk⟩ GCk bCk
  have GSL : FnOk l.prog w K mg base CX0 1 fSL _ _ (spSleepers K) := ok_sleepers FSL g
  have GLP : FnOk l.prog w K mg base CX0 1 fLP _ _ (spLatePlace K) := ok_latePlace FLP
  have GRA : FnOk l.prog w K mg base CX0 1 fRA _ _ (spRowAt C K) := ok_rowAt FRA T
  have GST : FnOk l.prog w K mg base CX0 2 fST _ _ (spSteps C K) := ok_steps FST T g GSL (PySem.W.mg_of X G aSL) kSL bSL
  have GOM : FnOk l.prog w K mg base CX0 3 fOM _ _ (spOwn C K) := ok_own FOM T g GSL (PySem.W.mg_of X G aSL) kSL bSL GLP (PySem.W.mg_of X G aLP) kLP bLP ⟨aRA, iRA, kRA⟩ GRA bRA ⟨aST, iST, kST⟩ GST bST
  have GCN : FnOk l.prog w K mg base CX0 4 fCN _ _ (spCan C K) := ok_can FCN T g GSL (PySem.W.mg_of X G aSL) kSL bSL ⟨aOM, iOM, kOM⟩ GOM bOM
  have GS : FnOk l.prog w K mg base CX0 1 fS _ _ (spSource K) := ok_source FS g
  have GD : FnOk l.prog w K mg base CX0 1 fD _ _ spDraw := ok_draw FD
  have GNA : FnOk l.prog w K mg base CX0 2 fNA _ _ spNames := ok_names FNA g GD (PySem.W.mg_of X G aD) kD bD
  have GN : FnOk l.prog w K mg base CX0 2 fN _ _ spNumber := ok_number FN GD (PySem.W.mg_of X G aD) kD bD
  have GCO : FnOk l.prog w K mg base CX0 2 fCO _ _ spCount := ok_count FCO GD (PySem.W.mg_of X G aD) kD bD
  have GRO : FnOk l.prog w K mg base CX0 3 fRO _ _ spRowOf := ok_rowOf FRO g GD (PySem.W.mg_of X G aD) kD bD GN (PySem.W.mg_of X G aN) kN bN GCO (PySem.W.mg_of X G aCO) kCO bCO
  have GWD : FnOk l.prog w K mg base CX0 4 fWD _ _ (spWorld K) := ok_world FWD g GD (PySem.W.mg_of X G aD) kD bD GN (PySem.W.mg_of X G aN) kN bN GS (PySem.W.mg_of X G aS) kS bS GNA (PySem.W.mg_of X G aNA) kNA bNA GRO (PySem.W.mg_of X G aRO) kRO bRO
  have GMD : FnOk l.prog w K mg base CX0 8 fMD _ _ (spMade C Pg) := ok_made FMD g GI ⟨mk, aI, iI, kc⟩ (PySem.W.mg_of X G aC) bI0 bI1
  have GWI : FnOk l.prog w K mg base CX0 1 fWI _ _ (spWith K) := ok_with FWI
  have GLL : FnOk l.prog w K mg base CX0 1 fLL _ _ (spLain K) := ok_lain FLL g
  have GSO : FnOk l.prog w K mg base CX0 3 fSO _ _ (spStateOf K) := ok_stateOf FSO g GD (PySem.W.mg_of X G aD) kD bD GN (PySem.W.mg_of X G aN) kN bN GWI (PySem.W.mg_of X G aWI) kWI bWI GLL (PySem.W.mg_of X G aLL) kLL bLL
  have GAS : FnOk l.prog w K mg base CX0 1 fAS _ _ (spAsleep K) := ok_asleep FAS g_any
  have GLR : FnOk l.prog w K mg base CX0 1 fLR _ _ (spLRow K) := ok_lrow FLR g
  have GLC : FnOk l.prog w K mg base CX0 2 fLC _ _ (spLCan K) := ok_lcan FLC g GLR (PySem.W.mg_of X G aLR) kLR bLR GAS (PySem.W.mg_of X G aAS) kAS bAS
  exact ok_law FL g T GS (PySem.W.mg_of X G aS) kS bS GWD (PySem.W.mg_of X G aWD) kWD bWD GMD (PySem.W.mg_of X G aMD) kMD bMD GSO (PySem.W.mg_of X G aSO) kSO bSO GLC (PySem.W.mg_of X G aLC) kLC bLC ⟨aCN, iCN, kCN⟩ GCN bCN
theorem walk {l : PySem.W.OpenLaw} {q : Program} {loose : List Str} {XP : (Str → Option Value) → Heap → Prop} {YP : World → Heap → Prop} {d : DefRec} {K : Params → PySem.W.Frag} (Pg : Addr) (hn : l.most = some 63) (hdf : d.params.defaults = [])
    (hY : ∀ (w : World) (h : Heap), YP w h → (K w.params).In h ∧ ∀ P ∈ ([Pg] : List Addr), h.get? P = some (PySem.W.tabObj #[])) (hcs : ∀ w : World, ∀ P ∈ ([Pg] : List Addr), ∃ c, PySem.W.codeHdIn (K w.params) c P = true) (hnt : ∀ w : World, PySem.W.noTabs (K w.params) = true)
    (F : ∀ (w : World) (mg : Str → Option Value) (fa : Addr) (h : Heap), (K w.params).In h → h.Ns mainGlobals mg → mg d.name = some (.ref fa) →
      ∃ fd : FuncData, (∀ (s : Shared) (u : Value), BindsTo s fd ⟨[u], []⟩ [("_law_script", u)]) ∧ ∀ base : Heap, (K w.params).In base → base.Ns mainGlobals mg → BM mg base → FnOk l.prog w (K w.params) mg base CX0 9 fa fd ["_law_script"] (spLaw (K w.params) Pg)) :
    PySem.W.WalkO q loose XP YP l.row.toRowW d [] (fun f vs => PySem.call f vs) :=
  walk_ofT (n := 63) (k := 9) (x := "_law_script") (ts := [Pg]) (CX := fun _ => CX0) (sp := fun w => spLaw (K w.params) Pg) hn (by decide) hdf ⟨rfl, by decide, by decide⟩
    hY hcs hnt F (fun _ _ a ns hl _ hT hS => ⟨a, ns, rfl, hS, hl, hT Pg (by simp), fun _ => rfl⟩) fun _ _ _ _ _ z => z
end Wo

set_option maxHeartbeats 0
section
open PySem PySem.W PyProof.Rows
open_top U.hd for PySem.Challenge.rw_dozehall_k41_moves_told_in_order
end

open PySem PySem.W PyProof.Rows
set_option Elab.async false
set_option maxRecDepth 100000 in
set_option maxHeartbeats 0 in
theorem PySem.Challenge.cw_dozehall_k41_moves_told_in_order_holds : PySem.Challenge.rw_dozehall_k41_moves_told_in_order.Holds := by
  w_on; o_law; o_head (kmHook U.hd.heap_39 [2, 3, 15, 17, 18, 20, 21, 22, 29, 31, 32, 34, 35, 36, 37, 38, 39, 42, 49, 50, 51, 54, 55, 56, 57, 58, 59, 60, 61, 62, 63, 64, 65, 66, 68, 69, 71, 72, 73, 75, 76, 78, 79, 80, 82, 83, 85, 86, 94, 95, 98, 99, 100, 102, 103, 105, 106, 107, 109, 110, 112, 113, 114, 117, 118, 119, 121, 122, 124, 125, 126, 128, 129, 131, 132, 133, 135, 136, 138, 139, 140, 142, 143, 145, 146, 147, 149, 150, 152, 153, 154, 156, 157, 159, 160, 161, 163, 164, 166, 167, 168, 170, 171, 173, 174, 175, 178, 179, 180, 183, 184, 185, 187, 188, 190, 191, 192, 194, 195, 197, 198, 199, 201, 202, 204, 205, 206, 208, 209, 211, 212, 213, 215, 216, 218, 219, 220, 221, 222, 223, 224, 227, 230, 231, 232, 234, 235, 237, 238, 239, 241, 242, 244, 245, 246, 249, 250, 251, 253, 254, 256, 257, 258, 260, 261, 263, 264, 265, 268, 269, 270, 273, 274, 275, 278, 279, 280, 282, 283, 285, 286, 287, 289, 290, 292, 293, 294, 296, 297, 299, 300, 301, 303, 304, 306, 307, 308, 311, 312, 313, 316, 317, 318, 320, 321, 323, 324] (fun _ => by kernel_rfl) [67]); (case hw => w_witness2)
  k_fill
  refine Wo.walk 67 (l := PySem.Challenge.rw_dozehall_k41_moves_told_in_order) rfl rfl (fun w h Y => ⟨PySem.W.km_in_of Y, fun P hP => PySem.W.km_tabs_of Y _ (by simpa using hP)⟩) ?cc ?nt ?F
  case nt => exact fun w => by kernel_rfl
  case cc =>
    intro w P hP
    simp only [List.mem_cons, List.not_mem_nil, or_false] at hP
    subst hP
    exact ⟨71, by kernel_rfl⟩
  case F =>
    intro w mg fa h KX G hmg
    refine' Wo.all_mk KX G hmg ?aC ?aI ?iI ?lI ?qI ?kI ?aCk ?iCk ?lCk ?qCk ?kCk ?aRA ?iRA ?lRA ?qRA ?kRA ?aST ?iST ?lST ?qST ?kST ?aOM ?iOM ?lOM ?qOM ?kOM ?aCN ?iCN ?lCN ?qCN ?kCN ?aRF ?lRF ?qRF ?kRF ?aPF ?lPF ?qPF ?kPF ?aLP ?lLP ?qLP ?kLP ?aSL ?lSL ?qSL ?kSL ?aS ?lS ?qS ?kS ?aD ?lD ?qD ?kD ?aNA ?lNA ?qNA ?kNA ?aN ?lN ?qN ?kN ?aCO ?lCO ?qCO ?kCO ?aRO ?lRO ?qRO ?kRO ?aWD ?lWD ?qWD ?kWD ?aAS ?lAS ?qAS ?kAS ?aLR ?lLR ?qLR ?kLR ?aLC ?lLC ?qLC ?kLC ?aWI ?lWI ?qWI ?kWI ?aLL ?lLL ?qLL ?kLL ?aMD ?lMD ?qMD ?kMD ?aSO ?lSO ?qSO ?kSO ?aL ?lL ?qL ?kL ?hTRF ?aFM ?fOK ?pg ?hd ?po ?sa ?mk ?kc ?n0 ?n1 ?n2 ?n3 ?n4 ?n5 ?xI0 ?xI1 ?gl0 ?gl1 ?gl2 ?gl3 ?gl4 ?gl5 ?gl6 ?gl7 ?gl8 ?gl9 ?gl10 ?gl11 ?gl12 ?gl13 ?gl14 ?gl15 ?gl16
    (case aC => k_is)
    (case aI => k_is)
    (case iI => k_is)
    (case lI => k_is)
    (case qI => k_is)
    (case kI => k_is)
    (case aCk => k_is)
    (case iCk => k_is)
    (case lCk => k_is)
    (case qCk => k_is)
    (case kCk => k_is)
    (case aRA => k_is)
    (case iRA => k_is)
    (case lRA => k_is)
    (case qRA => k_is)
    (case kRA => k_is)
    (case aST => k_is)
    (case iST => k_is)
    (case lST => k_is)
    (case qST => k_is)
    (case kST => k_is)
    (case aOM => k_is)
    (case iOM => k_is)
    (case lOM => k_is)
    (case qOM => k_is)
    (case kOM => k_is)
    (case aCN => k_is)
    (case iCN => k_is)
    (case lCN => k_is)
    (case qCN => k_is)
    (case kCN => k_is)
    (case aRF => k_is)
    (case lRF => k_is)
    (case qRF => k_is)
    (case kRF => k_is)
    (case aPF => k_is)
    (case lPF => k_is)
    (case qPF => k_is)
    (case kPF => k_is)
    (case aLP => k_is)
    (case lLP => k_is)
    (case qLP => k_is)
    (case kLP => k_is)
    (case aSL => k_is)
    (case lSL => k_is)
    (case qSL => k_is)
    (case kSL => k_is)
    (case aS => k_is)
    (case lS => k_is)
    (case qS => k_is)
    (case kS => k_is)
    (case aD => k_is)
    (case lD => k_is)
    (case qD => k_is)
    (case kD => k_is)
    (case aNA => k_is)
    (case lNA => k_is)
    (case qNA => k_is)
    (case kNA => k_is)
    (case aN => k_is)
    (case lN => k_is)
    (case qN => k_is)
    (case kN => k_is)
    (case aCO => k_is)
    (case lCO => k_is)
    (case qCO => k_is)
    (case kCO => k_is)
    (case aRO => k_is)
    (case lRO => k_is)
    (case qRO => k_is)
    (case kRO => k_is)
    (case aWD => k_is)
    (case lWD => k_is)
    (case qWD => k_is)
    (case kWD => k_is)
    (case aAS => k_is)
    (case lAS => k_is)
    (case qAS => k_is)
    (case kAS => k_is)
    (case aLR => k_is)
    (case lLR => k_is)
    (case qLR => k_is)
    (case kLR => k_is)
    (case aLC => k_is)
    (case lLC => k_is)
    (case qLC => k_is)
    (case kLC => k_is)
    (case aWI => k_is)
    (case lWI => k_is)
    (case qWI => k_is)
    (case kWI => k_is)
    (case aLL => k_is)
    (case lLL => k_is)
    (case qLL => k_is)
    (case kLL => k_is)
    (case aMD => k_is)
    (case lMD => k_is)
    (case qMD => k_is)
    (case kMD => k_is)
    (case aSO => k_is)
    (case lSO => k_is)
    (case qSO => k_is)
    (case kSO => k_is)
    (case aL => k_is)
    (case lL => k_is)
    (case qL => k_is)
    (case kL => k_is)
    (case hTRF => kernel_rfl)
    (case aFM => k_is)
    (case fOK => kernel_rfl)
    (case pg => k_is)
    (case hd => k_is)
    (case po => k_is)
    (case sa => k_is)
    (case mk => k_is)
    (case kc => k_is)
    (case n0 => k_is)
    (case n1 => k_is)
    (case n2 => k_is)
    (case n3 => k_is)
    (case n4 => k_is)
    (case n5 => k_is)
    (case xI0 => exact fun _ _ _ _ => by kernel_rfl)
    (case xI1 => exact fun _ _ _ _ _ _ => by kernel_rfl)
    (case gl0 => k_is)
    (case gl1 => k_is)
    (case gl2 => k_is)
    (case gl3 => k_is)
    (case gl4 => k_is)
    (case gl5 => k_is)
    (case gl6 => k_is)
    (case gl7 => k_is)
    (case gl8 => k_is)
    (case gl9 => k_is)
    (case gl10 => k_is)
    (case gl11 => k_is)
    (case gl12 => k_is)
    (case gl13 => k_is)
    (case gl14 => k_is)
    (case gl15 => k_is)
    (case gl16 => k_is)
