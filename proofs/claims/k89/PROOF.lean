import PyProof.Rows.All
import Wide.All
import OpenK.AllK
import Wide.FinOn
import PyProof.EqAt
import PyProof.EqKinds
import PyProof.TupleCall
import KE.BitLaws
import PyProof.Draws
import PyProof.TupleIter
import PyProof.WalksMore
import PyProof.ZipIter
import PySem.Challenge.RW_dozehall_k89_rows_read_or_refused
set_option Elab.async false
set_option linter.all false
set_option maxRecDepth 100000
/-! THE HAND LAYER, for ints, bools, texts, own classes, lists, tuples, dicts, comprehensions, walks over dicts, enumerate, zip, reversed, texts, calls, loops. Paste it whole ahead of your own text; what your proof does not reach may be deleted. -/
namespace L2
open PySem PySem.Spec PyProof.Rows
/-- a key: an int or a str -/
abbrev Key := Sum Int Str
def keyIs : Key → Value → Bool
  | .inl k, v => Value.isInt k v
  | .inr x, v => Value.isStrOf x v
def keyH (w : World) : Key → Int
  | .inl k => hashInt k
  | .inr x => hashStr w x
theorem keyIs_shape : ∀ {k : Key} {v : Value}, keyIs k v = true → (∃ i t, k = Sum.inl i ∧ v = Value.int i t) ∨ (∃ x t, k = Sum.inr x ∧ v = Value.str x t)
  | .inl i, v, h => by
    obtain ⟨t, e⟩ := Value.isInt_shape (k := i) (v := v) h
    exact .inl ⟨i, t, rfl, e⟩
  | .inr x, v, h => by
    obtain ⟨t, e⟩ := Value.isStrOf_shape (x := x) (v := v) h
    exact .inr ⟨x, t, rfl, e⟩
theorem keyIs_int (i : Int) (t : Tok) : keyIs (.inl i) (.int i t) = true := by simp [keyIs, Value.isInt]
theorem keyIs_str (x : Str) (t : Tok) : keyIs (.inr x) (.str x t) = true := by simp [keyIs, Value.isStrOf]
theorem key_ll (a b : Int) : decide ((Sum.inl a : Key) = Sum.inl b) = (a == b) := by
  by_cases e : a = b
  · subst e; simp
  · have h : ¬ (Sum.inl a : Key) = Sum.inl b := fun q => e (Sum.inl.inj q)
    rw [decide_eq_false h]
    exact (beq_eq_false_iff_ne.mpr e).symm
theorem key_rr (a b : Str) : decide ((Sum.inr a : Key) = Sum.inr b) = decide (a = b) := by
  by_cases e : a = b
  · subst e; simp
  · have h : ¬ (Sum.inr a : Key) = Sum.inr b := fun q => e (Sum.inr.inj q)
    rw [decide_eq_false h, decide_eq_false e]
theorem key_lr (a : Int) (b : Str) : decide ((Sum.inl a : Key) = Sum.inr b) = false := decide_eq_false (fun q => nomatch q)
theorem key_rl (a : Str) (b : Int) : decide ((Sum.inr a : Key) = Sum.inl b) = false := decide_eq_false (fun q => nomatch q)

def mixKind (prog : Program) (w : World) : PySem.KeyKind prog w Key where
  is := keyIs
  hash := keyH w
  inj := fun v a b ha hb => by
    rcases keyIs_shape ha with ⟨i, t, rfl, rfl⟩ | ⟨x, t, rfl, rfl⟩
    · rcases keyIs_shape hb with ⟨j, u, rfl, e⟩ | ⟨y, u, rfl, e⟩
      · injection e with e1 _; rw [e1]
      · exact nomatch e
    · rcases keyIs_shape hb with ⟨j, u, rfl, e⟩ | ⟨y, u, rfl, e⟩
      · exact nomatch e
      · injection e with e1 _; rw [e1]
  byValue := fun k v h => by
    rcases keyIs_shape h with ⟨i, t, rfl, rfl⟩ | ⟨x, t, rfl, rfl⟩ <;> rfl
  pyHash := fun hv h => by
    rcases keyIs_shape hv with ⟨i, t, rfl, rfl⟩ | ⟨x, t, rfl, rfl⟩
    · exact wpAny_pyHash_int h
    · exact wpAny_pyHash_str h
  eqBool := fun hu hv h => by
    rcases keyIs_shape hu with ⟨i, t, rfl, rfl⟩ | ⟨x, t, rfl, rfl⟩
    · rcases keyIs_shape hv with ⟨j, u, rfl, rfl⟩ | ⟨y, u, rfl, rfl⟩
      · rw [key_ll] at h; exact wpAny_eqBool_int h
      · rw [key_lr] at h; exact SeqAt.EqAt.int_str i t y u _ _ _ _ h
    · rcases keyIs_shape hv with ⟨j, u, rfl, rfl⟩ | ⟨y, u, rfl, rfl⟩
      · rw [key_rl] at h; exact SeqAt.EqAt.str_int x t j u _ _ _ _ h
      · rw [key_rr] at h; exact wpAny_eqBool_str h
  «strs» := fun k x t v h => by
    rcases keyIs_shape h with ⟨i, u, rfl, e⟩ | ⟨y, u, rfl, e⟩
    · exact nomatch e
    · injection e with e1 _
      subst e1
      cases v <;> rfl

theorem mixKind_int (prog : Program) (w : World) (i : Int) (t : Tok) : (mixKind prog w).is (.inl i) (.int i t) = true := keyIs_int i t
theorem mixKind_str (prog : Program) (w : World) (x : Str) (t : Tok) : (mixKind prog w).is (.inr x) (.str x t) = true := keyIs_str x t
end L2
namespace L2
open PySem PySem.Spec PyProof.Rows
/-- a value, without the heap -/
inductive V where
  | non | bl (b : Bool) | int (i : Int) | str (x : Str) | byt (b : Array UInt8) | flt (b : UInt64) | ref (a : Addr) | ty (n : String)
  deriving DecidableEq

def RelV : V → Value → Prop
  | .non, u => u = Value.none
  | .bl b, u => u = Value.bool b
  | .int i, u => ∃ t, u = Value.int i t
  | .str x, u => ∃ t, u = Value.str x t
  | .byt b, u => ∃ t, u = Value.bytes b t
  | .flt b, u => ∃ t, u = Value.float b t
  | .ref a, u => u = Value.ref a
  | .ty n, u => u = Value.type n

abbrev Vals : List V → List Value → Prop := Paired RelV
theorem Vals.length {xs : List V} {us : List Value} (r : Vals xs us) : xs.length = us.length := Paired.length r
theorem Vals.get : ∀ {xs : List V} {us : List Value} {i : Nat} {x : V}, Vals xs us → xs[i]? = some x → ∃ u, us[i]? = some u ∧ RelV x u
  | _, _, _, _, .nil, e => by simp at e
  | _, _, 0, _, .cons r _, e => by simp at e; subst e; exact ⟨_, rfl, r⟩
  | _, _, i + 1, x, .cons _ t, e => by
    obtain ⟨u, h1, h2⟩ := Vals.get (i := i) (x := x) t (by simpa using e)
    exact ⟨u, by simpa using h1, h2⟩
theorem Vals.set {x : V} {u : Value} (r : RelV x u) : ∀ {xs : List V} {us : List Value} (i : Nat), Vals xs us → Vals (xs.set i x) (us.set i u)
  | _, _, _, .nil => .nil
  | _, _, 0, .cons _ t => .cons r t
  | _, _, i + 1, .cons q t => .cons q (Vals.set r i t)
theorem Vals.append : ∀ {xs ys : List V} {us ws : List Value}, Vals xs us → Vals ys ws → Vals (xs ++ ys) (us ++ ws)
  | _, _, _, _, .nil, s => s
  | _, _, _, _, .cons r t, s => .cons r (Vals.append t s)
theorem Vals.take : ∀ {xs : List V} {us : List Value} (n : Nat), Vals xs us → Vals (xs.take n) (us.take n)
  | _, _, 0, _ => .nil
  | _, _, _ + 1, .nil => .nil
  | _, _, n + 1, .cons r t => .cons r (Vals.take n t)
theorem Vals.drop : ∀ {xs : List V} {us : List Value} (n : Nat), Vals xs us → Vals (xs.drop n) (us.drop n)
  | _, _, 0, r => r
  | _, _, _ + 1, .nil => .nil
  | _, _, n + 1, .cons _ t => Vals.drop n t
def RelO : Option V → Option Value → Prop
  | some v, some u => RelV v u
  | none, none => True
  | _, _ => False
def KV {κ : Type} : List (κ × V) → List (κ × Value) → Prop := Paired fun (p : κ × V) (q : κ × Value) => p.1 = q.1 ∧ RelV p.2 q.2

/-- a key of a dict (00_mix): an int or a text -/
def kV : Key → V
  | .inl i => .int i
  | .inr x => .str x

/-- what stands at a tracked address -/
inductive HO where
  /-- a list -/
  | lst (xs : List V)
  /-- a tuple (never changes) -/
  | tup (xs : List V)
  /-- a dict whose keys are ints and texts; one whose keys are tuples of ints and texts (the empty one is both) -/
  | dK (kvs : List (Key × V)) | dT (kvs : List (List Key × V))
  /-- a set of ints: its members, its size -/
  | set (S : Int → Bool) (n : Nat)
  /-- an instance of the class at C, its dict at dx, its attributes -/
  | ins (C dx : Addr) (fs : List (Str × V))
  /-- the dict of the instance at x -/
  | own (x : Addr)
  /-- the dict of an exception -/
  | xd (fs : List (Str × V))
  /-- a bound method, f of x -/
  | met (f x : Addr)
  /-- a range object lo, lo + 1, .. below hi -/
  | rng (lo hi : Int)
  /-- a thing that is known to the object (the script; a dict while a loop walks it): read, never written while it is so -/
  | frz (o : Obj) (u : HO)
  /-- a code object's table -/
  | tbl (ps : Array Value)
  /-- any other thing, by what is true of its one object (a def of one's own: SetO a S n := HO.ext fun h => ..) -/
  | ext (φ : Heap → Prop)

abbrev Hp := Addr → Option HO
def upd (H : Hp) (a : Addr) (o : HO) : Hp := fun b => if b = a then some o else H b
theorem upd_same {H : Hp} {a : Addr} {o : HO} : upd H a o a = some o := by unfold upd; rw [if_pos rfl]
theorem upd_ne {H : Hp} {a b : Addr} {o : HO} (h : b ≠ a) : upd H a o b = H b := by unfold upd; rw [if_neg h]
theorem upd_upd {H : Hp} {a : Addr} {o u : HO} : upd (upd H a o) a u = upd H a u := by
  funext b; unfold upd; split <;> rfl
/-- two objects of different content stand apart -/
theorem ne_of {H : Hp} {a b : Addr} {o u : HO} (h : H a = some o) (h' : H b = some u) (d : o ≠ u) : a ≠ b := by
  intro e; subst e; rw [h] at h'; exact d (Option.some.inj h')
theorem ne_of_none {H : Hp} {a b : Addr} {o : HO} (h : H a = some o) (h' : H b = none) : a ≠ b := by
  intro e; subst e; rw [h] at h'; cases h'

section
variable (P : Program) (w : World)
def ObjOk (H : Hp) (h : Heap) (a : Addr) : HO → Prop
  | .lst xs => xs.length ≤ sizeLine ∧ ∃ (its : List Value) (n : Nat), Vals xs its ∧ h.get? a = some { cls := .type "list", data := .seq its.toArray n }
  | .tup xs => xs.length ≤ sizeLine ∧ ∃ its : List Value, Vals xs its ∧ IsTup h a its.toArray
  | .dK kvs => kvs.length ≤ sizeLine ∧ (a == sysModules) = false ∧ ∃ vs, KV kvs vs ∧ h.DictOf (mixKind P w) a vs
  | .dT kvs => kvs.length ≤ sizeLine ∧ (a == sysModules) = false ∧ ∃ xs : List (List Key × Addr × Value),
      Paired (fun (p : List Key × V) (q : List Key × Addr × Value) => p.1 = q.1 ∧ H q.2.1 = some (.tup (p.1.map kV)) ∧ RelV p.2 q.2.2) kvs xs ∧
      ∃ o es ep, h.get? a = some o ∧ o.ExactDict ∧ o.data = .dict es ep ∧ es.toList = xs.map (entryOfKey (tupleKind (mixKind P w))) ∧ (xs.map (·.1)).Nodup
  | .set S n => h.SetOf (intKind P w) a S n
  | .ins C dx fs => H dx = some (.own a) ∧ fs.length ≤ 1000 ∧ dx ≠ a ∧ h.get? a = some (PySem.W.instObj C dx) ∧
      ∃ mA, h.Ns1 dx mA ∧ (∀ f, RelO (fs.lookup f) (mA f)) ∧ PySem.Within mA (fs.map (·.1))
  | .own _ => ∃ o, h.get? a = some o
  | .xd fs => ∃ mA, h.Ns1 a mA ∧ ∀ f, RelO (fs.lookup f) (mA f)
  | .rng lo hi => ∃ t u v, h.get? a = some { cls := .type "range", data := .fields #[.int lo t, .int hi u, .int 1 v] }
  | .frz o u => h.get? a = some o ∧ ObjOk H h a u
  | .tbl ps => h.get? a = some { cls := .none, data := .fields ps }
  | .met f x => h.get? a = some (PySem.W.methodObj (.ref f) (.ref x))
  | .ext φ => φ h ∧ (∃ o, h.get? a = some o) ∧ ∀ h1 h2 : Heap, φ h1 → (∀ o, h1.get? a = some o → h2.get? a = some o) → φ h2
/-- the abstract heap is held -/
def HOk (H : Hp) (h : Heap) : Prop := ∀ a o, H a = some o → ObjOk P w H h a o
end
section
variable {P : Program} {w : World} {H H' : Hp} {h h' : Heap} {a : Addr} {o : HO}
theorem ObjOk.lt (x : ObjOk P w H h a o) : a < h.objs.size := by
  cases o with
  | lst xs => obtain ⟨_, _, _, _, e⟩ := x; exact Heap.lt_size e
  | tup xs => obtain ⟨_, _, _, p⟩ := x; exact p.lt
  | dK kvs => obtain ⟨_, _, _, _, o, _, _, e, _⟩ := x; exact Heap.lt_size e
  | dT kvs => obtain ⟨_, _, _, _, o, _, _, e, _⟩ := x; exact Heap.lt_size e
  | set S n => obtain ⟨o, _, _, _, e, _⟩ := x; exact Heap.lt_size e
  | ins C dx fs => obtain ⟨_, _, _, e, _⟩ := x; exact Heap.lt_size e
  | own y => obtain ⟨_, e⟩ := x; exact Heap.lt_size e
  | xd fs => obtain ⟨_, ⟨_, _, _, e, _⟩, _⟩ := x; exact Heap.lt_size e
  | rng lo hi => obtain ⟨_, _, _, e⟩ := x; exact Heap.lt_size e
  | frz ob u => obtain ⟨e, _⟩ := x; exact Heap.lt_size e
  | tbl ps => exact Heap.lt_size (show h.get? a = some _ from x)
  | met f y => exact Heap.lt_size (show h.get? a = some _ from x)
  | ext φ => obtain ⟨_, ⟨_, e⟩, _⟩ := x; exact Heap.lt_size e
theorem Paired.mapP {α β : Type} {F G : α → β → Prop} : ∀ {l₁ : List α} {l₂ : List β}, Paired F l₁ l₂ → (∀ a b, F a b → G a b) → Paired G l₁ l₂
  | _, _, .nil, _ => .nil
  | _, _, .cons r t, f => .cons (f _ _ r) (Paired.mapP t f)
/-- what an object's description leans on: its own object, its own dict, the tuples -/
theorem ObjOk.stay (x : ObjOk P w H h a o) (k : ∀ b u, (b = a ∨ H b = some (.own a)) → h.get? b = some u → h'.get? b = some u)
    (ho : ∀ b, H b = some (.own a) → H' b = some (.own a)) (ht : ∀ b xs, H b = some (.tup xs) → H' b = some (.tup xs)) : ObjOk P w H' h' a o := by
  induction o with
  | lst xs => obtain ⟨z, its, n, r, e⟩ := x; exact ⟨z, its, n, r, k _ _ (.inl rfl) e⟩
  | tup xs => obtain ⟨z, its, r, ob, e, c⟩ := x; exact ⟨z, its, r, ob, k _ _ (.inl rfl) e, c⟩
  | dK kvs => obtain ⟨z, y, vs, r, ob, es, ep, e, c⟩ := x; exact ⟨z, y, vs, r, ob, es, ep, k _ _ (.inl rfl) e, c⟩
  | dT kvs =>
    obtain ⟨z, y, xs, r, ob, es, ep, e, c⟩ := x
    exact ⟨z, y, xs, Paired.mapP r fun p q z => ⟨z.1, ht _ _ z.2.1, z.2.2⟩, ob, es, ep, k _ _ (.inl rfl) e, c⟩
  | set S n => obtain ⟨ob, es, ep, t, e, c⟩ := x; exact ⟨ob, es, ep, t, k _ _ (.inl rfl) e, c⟩
  | ins C dx fs =>
    obtain ⟨d, z, ne, e, mA, ⟨od, es, ep, e2, c⟩, r⟩ := x
    exact ⟨ho _ d, z, ne, k _ _ (.inl rfl) e, mA, ⟨od, es, ep, k _ _ (.inr d) e2, c⟩, r⟩
  | own y => obtain ⟨ob, e⟩ := x; exact ⟨ob, k _ _ (.inl rfl) e⟩
  | xd fs => obtain ⟨mA, ⟨od, es, ep, e, c⟩, r⟩ := x; exact ⟨mA, ⟨od, es, ep, k _ _ (.inl rfl) e, c⟩, r⟩
  | rng lo hi => obtain ⟨t, u, v, e⟩ := x; exact ⟨t, u, v, k _ _ (.inl rfl) e⟩
  | frz ob u ih => obtain ⟨e, q⟩ := x; exact ⟨k _ _ (.inl rfl) e, ih q⟩
  | tbl ps =>
    have e : h.get? a = some { cls := .none, data := .fields ps } := x
    show h'.get? a = some { cls := .none, data := .fields ps }
    exact k a _ (.inl rfl) e
  | met f y =>
    have e : h.get? a = some (PySem.W.methodObj (.ref f) (.ref y)) := x
    show h'.get? a = some (PySem.W.methodObj (.ref f) (.ref y))
    exact k a _ (.inl rfl) e
  | ext φ => obtain ⟨p, ⟨o, e⟩, st⟩ := x; exact ⟨st _ _ p fun o q => k _ _ (.inl rfl) q, ⟨o, k _ _ (.inl rfl) e⟩, st⟩
theorem HOk.lt (x : HOk P w H h) (e : H a = some o) : a < h.objs.size := (x a o e).lt
theorem HOk.fresh (x : HOk P w H h) (e : h.objs.size ≤ a) : H a = none := by
  cases q : H a with
  | none => rfl
  | some u => exact absurd (Nat.lt_of_lt_of_le (x.lt q) e) (Nat.lt_irrefl _)
/-- every object of the heap is kept -/
theorem HOk.kept (x : HOk P w H h) (k : ∀ b u, h.get? b = some u → h'.get? b = some u) : HOk P w H h' := fun a o e =>
  (x a o e).stay (fun b u _ q => k b u q) (fun _ q => q) fun _ _ q => q
/-- a new object is laid and tracked -/
theorem HOk.laid (x : HOk P w H h) (k : ∀ b u, h.get? b = some u → h'.get? b = some u) (hp : h.objs.size ≤ a) (new : ObjOk P w (upd H a o) h' a o) : HOk P w (upd H a o) h' := fun b u e => by
  have hn := x.fresh hp
  by_cases hb : b = a
  · subst hb; rw [upd_same] at e; cases e; exact new
  · rw [upd_ne hb] at e
    exact (x b u e).stay (fun c v _ q => k c v q) (fun c q => by rw [upd_ne (ne_of_none q hn)]; exact q) fun c xs q => by rw [upd_ne (ne_of_none q hn)]; exact q
end
/-- what may be read as u: it is u, or a known u -/
def Rd (H : Hp) (a : Addr) (u : HO) : Prop := H a = some u ∨ ∃ o, H a = some (.frz o u)
theorem Rd.ok {P : Program} {w : World} {H : Hp} {h : Heap} {a : Addr} {u : HO} (r : Rd H a u) (x : HOk P w H h) : ObjOk P w H h a u := by
  rcases r with r | ⟨o, r⟩
  · exact x a u r
  · obtain ⟨_, q⟩ := x a _ r
    exact q
/-- what may be written -/
def Mut : Option HO → Prop
  | some (.lst _) => True
  | some (.dK _) => True
  | some (.dT _) => True
  | some (.set _ _) => True
  | some (.ins _ _ _) => True
  | some (.ext _) => True
  | _ => False
section
variable {P : Program} {w : World} {H : Hp} {h h' : Heap} {x e : Addr} {o' : HO}
/-- the object at e is changed: x itself, or the dict of the instance x -/
theorem HOk.write (ok : HOk P w H h) (mu : Mut (H x)) (he : e = x ∨ H e = some (.own x)) (k : ∀ b u, b ≠ e → h.get? b = some u → h'.get? b = some u) (heo : ∃ u, h'.get? e = some u)
    (new : ObjOk P w (upd H x o') h' x o') : HOk P w (upd H x o') h' := fun b u q => by
  have nown : ∀ c y, H c = some (.own y) → c ≠ x := fun c y r z => by subst z; rw [r] at mu; exact mu
  have ntup : ∀ c xs, H c = some (.tup xs) → c ≠ x := fun c xs r z => by subst z; rw [r] at mu; exact mu
  by_cases hb : b = x
  · subst hb; rw [upd_same] at q; cases q; exact new
  · rw [upd_ne hb] at q
    by_cases hbe : b = e
    · have q' : H b = some (.own x) := by
        rcases he with z | z
        · exact absurd (hbe.trans z) hb
        · rw [hbe]; exact z
      rw [q] at q'; cases q'
      obtain ⟨v, hv⟩ := heo
      exact ⟨v, by rw [hbe]; exact hv⟩
    · refine (ok b u q).stay (fun c v hc r => k c v ?_ r) (fun c r => by rw [upd_ne (nown c b r)]; exact r) fun c xs r => by rw [upd_ne (ntup c xs r)]; exact r
      rcases hc with rfl | hc
      · exact hbe
      · rintro rfl
        rcases he with z | z
        · exact nown c b hc z
        · rw [hc] at z; cases z; exact hb rfl
end
/-! ### kept unless tracked; of the frames at fs (the callers') the slots may change (an exception that passes writes there); of the records at ex (iterators) nothing is said -/
structure Un (fs ex : List Addr) (H H' : Hp) (h h' : Heap) : Prop where
  keep : ∀ b o, h.get? b = some o → H b = none → b ∉ fs → b ∉ ex → h'.get? b = some o
  slot : ∀ b o, h.get? b = some o → H b = none → b ∈ fs → b ∉ ex → ∃ sl, h'.get? b = some { o with slots := sl }
  free : ∀ b o, h.get? b = some o → H b = none → b ∉ ex → H' b = none
  there : ∀ b o, h.get? b = some o → b ∉ ex → ∃ o', h'.get? b = some o'
  tups : ∀ b xs, H b = some (.tup xs) → H' b = some (.tup xs)
  frzs : ∀ b o u, H b = some (.frz o u) → H' b = some (.frz o u)
  tbls : ∀ b ps, H b = some (.tbl ps) → ∃ more, H' b = some (.tbl (ps ++ more))
section
variable {fs fs' ex ex' : List Addr} {H H1 H2 : Hp} {h h1 h2 h' : Heap} {a x e : Addr} {o : HO}
theorem Un.any (u : Un fs ex H H1 h h1) {b : Addr} {ob : Obj} (q : h.get? b = some ob) (n : H b = none) (hx : b ∉ ex) : ∃ sl, h1.get? b = some { ob with slots := sl } := by
  by_cases hb : b ∈ fs
  · exact u.slot b ob q n hb hx
  · exact ⟨ob.slots, u.keep b ob q n hb hx⟩
theorem Un.kept (k : ∀ b u, h.get? b = some u → h'.get? b = some u) : Un fs ex H H h h' :=
  ⟨fun b ob q _ _ _ => k b ob q, fun b ob q _ _ _ => ⟨ob.slots, k b ob q⟩, fun _ _ _ n _ => n, fun b ob q _ => ⟨ob, k b ob q⟩, fun _ _ q => q, fun _ _ _ q => q, fun _ ps q => ⟨#[], by rw [q]; simp⟩⟩
theorem Un.refl : Un fs ex H H h h := Un.kept fun _ _ q => q
theorem Un.laid (k : ∀ b u, h.get? b = some u → h'.get? b = some u) (hp : h.objs.size ≤ a) (hn : H a = none) : Un fs ex H (upd H a o) h h' where
  keep := fun b u q _ _ _ => k b u q
  slot := fun b u q _ _ _ => ⟨u.slots, k b u q⟩
  free := fun b u q n _ => by rw [upd_ne (Nat.ne_of_lt (Nat.lt_of_lt_of_le (Heap.lt_size q) hp))]; exact n
  there := fun b u q _ => ⟨u, k b u q⟩
  tups := fun b xs q => by rw [upd_ne (ne_of_none q hn)]; exact q
  frzs := fun b u xs q => by rw [upd_ne (ne_of_none q hn)]; exact q
  tbls := fun b ps q => ⟨#[], by rw [upd_ne (ne_of_none q hn), q]; simp⟩
theorem Un.write (mu : Mut (H x)) (he : e = x ∨ H e = some (.own x)) (k : ∀ b u, b ≠ e → h.get? b = some u → h'.get? b = some u) (heo : ∃ u, h'.get? e = some u) : Un fs ex H (upd H x o) h h' := by
  have hx : ∀ b, H b = none → b ≠ x := fun b n z => by subst z; rw [n] at mu; exact mu
  have hb : ∀ b, H b = none → b ≠ e := fun b n z => by
    subst z
    rcases he with r | r
    · exact hx b n r
    · rw [n] at r; cases r
  have hm : ∀ b u, H b = some u → ¬ Mut (some u) → b ≠ x := fun b u q nm z => by subst z; rw [q] at mu; exact nm mu
  refine ⟨fun b u q n _ _ => k b u (hb b n) q, fun b u q n _ _ => ⟨u.slots, k b u (hb b n) q⟩, fun b u q n _ => by rw [upd_ne (hx b n)]; exact n, fun b u q _ => ?_,
    fun b xs q => by rw [upd_ne (hm b _ q fun z => z)]; exact q, fun b u xs q => by rw [upd_ne (hm b _ q fun z => z)]; exact q, fun b ps q => ⟨#[], by rw [upd_ne (hm b _ q fun z => z), q]; simp⟩⟩
  by_cases hbe : b = e
  · subst hbe; exact heo
  · exact ⟨u, k b u hbe q⟩
end
/-! ### the heap without what is tracked -/
def trk (h : Heap) (H : Hp) : List Addr := (List.range h.objs.size).filter fun a => (H a).isSome
def hidT (h : Heap) (H : Hp) : Heap := PySem.W.hideAll h (trk h H)
theorem hidT_size (h : Heap) (H : Hp) : (hidT h H).objs.size = h.objs.size := PySem.W.hideAll_size _ _
theorem hidT_get {h : Heap} {H : Hp} {b : Addr} {o : Obj} (e : h.get? b = some o) (n : H b = none) : (hidT h H).get? b = some o :=
  PySem.W.hideAll_get _ e fun hm => by
    have q : (H b).isSome = true := (List.mem_filter.mp hm).2
    rw [n] at q; simp at q
theorem of_hidT {h : Heap} {H : Hp} {b : Addr} {o : Obj} (e : (hidT h H).get? b = some o) : h.get? b = some o ∧ H b = none := by
  have e' : h.get? b = some o := PySem.W.of_hideAll (trk h H) e
  refine ⟨e', ?_⟩
  cases q : H b with
  | none => rfl
  | some x =>
    have hm : b ∈ trk h H := List.mem_filter.mpr ⟨List.mem_range.mpr (Heap.lt_size e'), by simp [q]⟩
    have z : (hidT h H).get? b = none := PySem.W.hideAll_none (trk h H) hm
    rw [z] at e; cases e

/-! ### OpenK's ledger, filled with every new object but one -/
end L2
namespace L2
open PySem PySem.Spec PyProof.Rows
/-- the module's facts, over the base: the heap at the law's entry without what is tracked there -/
structure Mod (K : PySem.W.Frag) (mg : Str → Option Value) (base : Heap) : Prop where
  kin : K.In base
  glob : base.Ns mainGlobals mg
  blt : ∃ mb, base.Ns builtinsNs mb ∧ ∀ x : Str, x ≠ "__name__" → mb x = bootBuiltins x
  nolimit : base.NoLimit

/-- the context: a def's body (or a comprehension's block) running. base: fixed through the whole law; s₀, H₀: the entry; outer: the frames whose slots others may change (a def's callers); stack: all frames that run;
   ex: iterators that were made ahead of the entry and are walked here (a comprehension's); fn: the names whose cells were made at the entry (a def: all; a comprehension's block: its own); calm: not within an except suite; pn: pins that every state bears; xe: what is wanted of an exception that leaves the code -/
structure Cx where
  prog : Program
  w : World
  K : PySem.W.Frag
  mg : Str → Option Value
  base : Heap
  A : Around
  N : List Str
  s_0 : Shared
  H_0 : Hp
  env : Env
  outer : List Env
  stack : List Env
  ex : List Addr
  fn : Str → Bool
  calm : Bool
  pn : List (Addr × Obj)
  xe : Value → Shared → Prop
/-- the callers' frames -/
def frs (l : List Env) : List Addr := l.filterMap (·.frame)
abbrev Cx.fs (X : Cx) : List Addr := frs X.outer

def Vis (sc : Scope) (x : Str) : Prop := sc.names.lookup x = some .local ∨ sc.names.lookup x = some .cell ∨ sc.names.lookup x = some .free
def Loc (sc : Scope) (x : Str) : Prop := sc.names.lookup x = some .local ∨ sc.names.lookup x = some .cell
def Look (env : Env) (h : Heap) (m : Str → Option Value) (x : Str) (u : Value) : Prop :=
  (env.kindOf x = some .local ∧ m x = some u) ∨ ((env.kindOf x = some .cell ∨ env.kindOf x = some .free) ∧ ∃ c, env.cells.lookup x = some c ∧ h.IsCell c (some u))

structure Cx.Ok (X : Cx) : Prop where
  mod : Mod X.K X.mg X.base
  kind : X.env.scope.kind = .function
  glob : X.env.globals = mainGlobals
  blt : X.env.builtins = builtinsNs
  above : X.s_0.heap.objs.size ≤ X.env.locals
  inj : ∀ x y c, X.env.cells.lookup x = some c → X.env.cells.lookup y = some c → x = y
  has : ∀ x, (X.env.kindOf x = some .cell ∨ X.env.kindOf x = some .free) → ∃ c, X.env.cells.lookup x = some c
  cab : ∀ x c, X.fn x = true → X.env.cells.lookup x = some c → X.s_0.heap.objs.size ≤ c
  hd : X.calm = true → X.A.handled = none
  frames : X.A.frames = some X.stack
  stk : X.stack = X.outer ∨ (X.stack = X.env :: X.outer ∧ X.env.frame = some X.env.locals)
  exf : ∀ b ∈ X.ex, b ≠ X.env.locals ∧ ∀ x c, X.env.cells.lookup x = some c → c ≠ b
  bs : ∀ b o, X.base.get? b = some o → X.s_0.heap.get? b = some o ∧ X.H_0 b = none
  bsz : X.base.objs.size ≤ X.s_0.heap.objs.size
  noex : ∀ b o, X.base.get? b = some o → b ∉ X.ex
  exfs : ∀ b ∈ X.ex, b ∉ X.fs
  funs : X.s_0.heap.FunFrames X.base X.outer
  frf : ∀ b ∈ X.fs, X.H_0 b = none

structure Inv (X : Cx) (pins : List (Addr × Obj)) (σ : List (Option V)) (H : Hp) (s : Shared) : Prop where
  ok : X.Ok
  os : s.os = X.s_0.os
  bare : AllBare s.gens
  base : Un X.fs X.ex X.H_0 H X.s_0.heap s.heap
  loc : ∃ m, s.heap.Ns X.env.locals m ∧ ∀ (i : Nat) (x : Str) (v : V), X.N[i]? = some x → σ[i]? = some (some v) → Vis X.env.scope x → ∃ u, RelV v u ∧ Look X.env s.heap m x u
  cell : ∀ x c, X.env.cells.lookup x = some c → ∃ v, s.heap.IsCell c v
  free : H X.env.locals = none
  freeC : ∀ x c, X.env.cells.lookup x = some c → H c = none
  pin : ∀ p ∈ X.pn ++ pins, s.heap.get? p.1 = some p.2 ∧ H p.1 = none ∧ p.1 ≠ X.env.locals ∧ p.1 ∉ X.fs ∧ ∀ v, p.2.data ≠ .cell v
  hok : HOk X.prog X.w H s.heap
  len : σ.length = X.N.length

section
variable {X : Cx} {pins : List (Addr × Obj)} {σ : List (Option V)} {H H' : Hp} {s : Shared} {h' : Heap}
theorem Cx.Ok.nofr (ok : X.Ok) {b : Addr} {o : Obj} (e : X.base.get? b = some o) : b ∉ X.fs := fun hb => by
  have := (ok.funs.mem hb).1
  rw [e] at this; cases this
theorem Inv.bs (I : Inv X pins σ H s) : ∀ b o, X.base.get? b = some o → s.heap.get? b = some o ∧ H b = none := fun b o e =>
  ⟨I.base.keep b o (I.ok.bs b o e).1 (I.ok.bs b o e).2 (I.ok.nofr e) (I.ok.noex b o e), I.base.free b o (I.ok.bs b o e).1 (I.ok.bs b o e).2 (I.ok.noex b o e)⟩
theorem Inv.bk (I : Inv X pins σ H s) : ∀ b o, X.base.get? b = some o → s.heap.get? b = some o := fun b o e => (I.bs b o e).1
theorem Inv.mod (I : Inv X pins σ H s) : Mod X.K X.mg X.base := I.ok.mod
theorem Inv.kIn (I : Inv X pins σ H s) : X.K.In s.heap := I.ok.mod.kin.keeps I.bk
theorem Inv.nolimit (I : Inv X pins σ H s) : s.heap.NoLimit := I.ok.mod.nolimit.keeps I.bk
/-- the frame over the base: for OpenK's rules (K.In X.base is I.mod.kin) -/
theorem Inv.fr (I : Inv X pins σ H s) : ∃ m, Fr X.base X.env.locals s.heap m :=
  let ⟨m, hn, _⟩ := I.loc
  ⟨m, hn, I.bk, Nat.le_trans I.ok.bsz I.ok.above⟩
theorem Inv.lt (I : Inv X pins σ H s) : X.env.locals < s.heap.objs.size := let ⟨_, hn, _⟩ := I.loc; hn.lt
theorem Inv.sz (I : Inv X pins σ H s) : X.s_0.heap.objs.size ≤ s.heap.objs.size := Nat.le_trans I.ok.above (Nat.le_of_lt I.lt)
theorem Inv.nofs (I : Inv X pins σ H s) {a : Addr} (h : s.heap.objs.size ≤ a) : a ∉ X.fs := fun hb => by
  obtain ⟨_, o, ho, _⟩ := I.ok.funs.mem hb
  exact absurd (Nat.lt_of_lt_of_le (Heap.lt_size ho) (Nat.le_trans I.sz h)) (Nat.lt_irrefl _)
theorem Inv.cne (I : Inv X pins σ H s) : ∀ x c, X.env.cells.lookup x = some c → c ≠ X.env.locals := fun x c e z => by
  obtain ⟨v, o, ho, hd⟩ := I.cell x c e
  obtain ⟨m, ⟨o', es, ep, ho', hd', _⟩, _⟩ := I.loc
  rw [z, ho'] at ho; cases ho; rw [hd'] at hd; cases hd
theorem Inv.funs (I : Inv X pins σ H s) : s.heap.FunFrames X.base X.outer := by
  have all : ∀ (l : List Env), (∀ b ∈ frs l, b ∈ X.fs) → X.s_0.heap.FunFrames X.base l → s.heap.FunFrames X.base l := by
    intro l
    induction l with
    | nil => intro _ _; trivial
    | cons env r ih =>
      intro hs hl
      obtain ⟨hk, ⟨L, o, hf, hn, ho, hd⟩, hr⟩ := hl
      have hL : L ∈ X.fs := hs L (by unfold frs; rw [List.filterMap_cons, hf]; exact List.mem_cons_self)
      obtain ⟨sl, e⟩ := I.base.slot L o ho (I.ok.frf L hL) hL fun z => I.ok.exfs L z hL
      exact ⟨hk, ⟨L, _, hf, hn, e, hd⟩, ih (fun b hb => hs b (by unfold frs; rw [List.filterMap_cons, hf]; exact List.mem_cons_of_mem _ hb)) hr⟩
  exact all X.outer (fun _ hb => hb) I.ok.funs

/-- the frames that run, for a call -/
theorem Inv.stack (I : Inv X pins σ H s) : s.heap.FunFrames X.base X.stack := by
  rcases I.ok.stk with e | ⟨e, hf⟩
  · rw [e]; exact I.funs
  · rw [e]
    obtain ⟨m, hn, _⟩ := I.loc
    refine .cons (by rw [I.ok.kind]; decide) hf hn ?_ I.funs
    exact Heap.get?_none_of_le (Nat.le_trans I.ok.bsz I.ok.above)
theorem Inv.stkSub (I : Inv X pins σ H s) : ∀ b ∈ frs X.stack, b ∈ X.env.locals :: X.fs := fun b hb => by
  rcases I.ok.stk with e | ⟨e, hf⟩
  · rw [e] at hb; exact List.mem_cons_of_mem _ hb
  · rw [e] at hb
    unfold frs at hb
    rw [List.filterMap_cons, hf] at hb
    exact hb
theorem Inv.stkFree (I : Inv X pins σ H s) : ∀ b ∈ frs X.stack, H b = none := fun b hb => by
  rcases List.mem_cons.mp (I.stkSub b hb) with e | hb
  · rw [e]; exact I.free
  · obtain ⟨_, o, ho, _⟩ := I.ok.funs.mem hb
    exact I.base.free b o ho (I.ok.frf b hb) fun z => I.ok.exfs b z hb

/-- THE STEP: the untracked objects but the frame and the records at ch are kept (the callers' frames up to slots), the frame's map is kept, the new abstract heap is held -/
theorem Inv.step {g' : Array GenState} {t' : Nat} {d' : Drawn} {ch : List Addr} (I : Inv X pins σ H s)
    (hch : ∀ b ∈ ch, (b ∈ X.ex ∨ X.s_0.heap.objs.size ≤ b) ∧ b ≠ X.env.locals ∧ (∀ x c, X.env.cells.lookup x = some c → c ≠ b) ∧ ∀ p ∈ X.pn ++ pins, p.1 ≠ b)
    (keep : ∀ b o, b ≠ X.env.locals → b ∉ X.fs → b ∉ ch → s.heap.get? b = some o → H b = none → h'.get? b = some o)
    (slot : ∀ b o, b ≠ X.env.locals → b ∈ X.fs → b ∉ ch → s.heap.get? b = some o → H b = none → ∃ sl, h'.get? b = some { o with slots := sl }) (free : ∀ b o, b ∉ ch → s.heap.get? b = some o → H b = none → H' b = none)
    (there : ∀ b o, b ∉ ch → s.heap.get? b = some o → ∃ o', h'.get? b = some o')
    (tups : ∀ b xs, H b = some (.tup xs) → H' b = some (.tup xs)) (frzs : ∀ b o u, H b = some (.frz o u) → H' b = some (.frz o u)) (tbls : ∀ b ps, H b = some (.tbl ps) → ∃ more, H' b = some (.tbl (ps ++ more)))
    (ns : ∀ m, s.heap.Ns X.env.locals m → h'.Ns X.env.locals m) (hok : HOk X.prog X.w H' h') (hg : AllBare g') :
    Inv X pins σ H' { s with heap := h', gens := g', drawn := d', toks := t' } := by
  have neL : ∀ b o, X.s_0.heap.get? b = some o → b ≠ X.env.locals := fun b o e => Nat.ne_of_lt (Nat.lt_of_lt_of_le (Heap.lt_size e) I.ok.above)
  have neC : ∀ b o, X.s_0.heap.get? b = some o → b ∉ X.ex → b ∉ ch := fun b o e hx hb => by
    rcases (hch b hb).1 with z | z
    · exact hx z
    · exact absurd (Nat.lt_of_lt_of_le (Heap.lt_size e) z) (Nat.lt_irrefl _)
  have cellK : ∀ x c, X.env.cells.lookup x = some c → ∀ v, s.heap.IsCell c v → h'.IsCell c v := fun x c e v ⟨o, ho, hd⟩ => by
    have nch : c ∉ ch := fun z => (hch c z).2.2.1 x c e rfl
    by_cases hc : c ∈ X.fs
    · obtain ⟨sl, q⟩ := slot c o (I.cne x c e) hc nch ho (I.freeC x c e)
      exact ⟨_, q, hd⟩
    · exact ⟨o, keep c o (I.cne x c e) hc nch ho (I.freeC x c e), hd⟩
  refine ⟨I.ok, I.os, hg, ⟨fun b o e n hb hx => ?_, fun b o e n hb hx => ?_, fun b o e n hx => ?_, fun b o e hx => ?_, fun b xs e => tups b xs (I.base.tups b xs e), fun b o xs e => frzs b o xs (I.base.frzs b o xs e), fun b ps e => ?_⟩, ?_, fun x c e => ?_, ?_, fun x c e => ?_, fun p hp => ?_, hok, I.len⟩
  · exact keep b o (neL b o e) hb (neC b o e hx) (I.base.keep b o e n hb hx) (I.base.free b o e n hx)
  · obtain ⟨sl, e1⟩ := I.base.slot b o e n hb hx
    obtain ⟨sl', e2⟩ := slot b _ (neL b o e) hb (neC b o e hx) e1 (I.base.free b o e n hx)
    exact ⟨sl', e2⟩
  · obtain ⟨o', e1⟩ := I.base.there b o e hx
    exact free b o' (neC b o e hx) e1 (I.base.free b o e n hx)
  · obtain ⟨o', e1⟩ := I.base.there b o e hx
    exact there b o' (neC b o e hx) e1
  · obtain ⟨m1, e1⟩ := I.base.tbls b ps e
    obtain ⟨m2, e2⟩ := tbls b _ e1
    exact ⟨m1 ++ m2, by rw [e2, Array.append_assoc]⟩
  · obtain ⟨m, hn, hl⟩ := I.loc
    refine ⟨m, ns m hn, fun i x v e1 e2 e3 => ?_⟩
    obtain ⟨u, r, l⟩ := hl i x v e1 e2 e3
    refine ⟨u, r, ?_⟩
    rcases l with l | ⟨k, c, e, z⟩
    · exact .inl l
    · exact .inr ⟨k, c, e, cellK x c e _ z⟩
  · obtain ⟨v, z⟩ := I.cell x c e
    exact ⟨v, cellK x c e v z⟩
  · obtain ⟨m, ⟨o, _, _, ho, _⟩, _⟩ := I.loc
    exact free _ o (fun z => (hch _ z).2.1 rfl) ho I.free
  · obtain ⟨v, o, ho, hd⟩ := I.cell x c e
    exact free c o (fun z => (hch c z).2.2.1 x c e rfl) ho (I.freeC x c e)
  · obtain ⟨e, n, ne, nf, d⟩ := I.pin p hp
    have nch : p.1 ∉ ch := fun z => (hch p.1 z).2.2.2 p hp rfl
    exact ⟨keep p.1 p.2 ne nf nch e n, free p.1 p.2 nch e n, ne, nf, d⟩
/-- .. where the frame's own object is kept too -/
theorem Inv.un {t' : Nat} (I : Inv X pins σ H s) (u : Un X.fs [] H H' s.heap h') (hok : HOk X.prog X.w H' h') : Inv X pins σ H' { s with heap := h', toks := t' } := by
  obtain ⟨m, ⟨o, es, ep, ho, r⟩, _⟩ := id I.loc
  obtain ⟨sl, hL⟩ := u.any ho I.free (by simp)
  exact I.step (g' := s.gens) (d' := s.drawn) (ch := []) (fun _ z => nomatch z) (fun b o _ hb _ e n => u.keep b o e n hb (by simp)) (fun b o _ hb _ e n => u.slot b o e n hb (by simp)) (fun b o _ e n => u.free b o e n (by simp)) (fun b o _ e => u.there b o e (by simp)) u.tups u.frzs u.tbls (fun m' hm => by
    obtain ⟨o', es', ep', ho', r'⟩ := hm
    rw [ho] at ho'; cases ho'
    exact ⟨_, es', ep', hL, r'⟩) hok I.bare
/-- behind a call (or a comprehension's block): the slots of this frame may have changed too, the records at ch may have turned -/
theorem Inv.call {g' : Array GenState} {t' : Nat} {d' : Drawn} {ch : List Addr} (I : Inv X pins σ H s) (u : Un (frs X.stack) ch H H' s.heap h') (hok : HOk X.prog X.w H' h') (hg : AllBare g')
    (hch : ∀ b ∈ ch, (b ∈ X.ex ∨ X.s_0.heap.objs.size ≤ b) ∧ b ≠ X.env.locals ∧ (∀ x c, X.env.cells.lookup x = some c → c ≠ b) ∧ ∀ p ∈ X.pn ++ pins, p.1 ≠ b) :
    Inv X pins σ H' { s with heap := h', gens := g', drawn := d', toks := t' } := by
  obtain ⟨m, ⟨o, es, ep, ho, r⟩, _⟩ := id I.loc
  obtain ⟨sl, hL⟩ := u.any ho I.free fun z => (hch _ z).2.1 rfl
  exact I.step (ch := ch) hch (fun b o hL hb hc e n => u.keep b o e n (fun z => (List.mem_cons.mp (I.stkSub b z)).elim hL hb) hc) (fun b o _ _ hc e n => u.any e n hc) (fun b o hc e n => u.free b o e n hc) (fun b o hc e => u.there b o e hc) u.tups u.frzs u.tbls (fun m' hm => by
    obtain ⟨o', es', ep', ho', r'⟩ := hm
    rw [ho] at ho'; cases ho'
    exact ⟨_, es', ep', hL, r'⟩) hok hg
/-- an untracked record of ours (an iterator) has turned -/
theorem Inv.turned {t' : Nat} {it : Addr} (I : Inv X pins σ H s) (k : ∀ b o, b ≠ it → s.heap.get? b = some o → h'.get? b = some o) (hn : H it = none) (hL : it ≠ X.env.locals)
    (h1 : it ∈ X.ex ∨ X.s_0.heap.objs.size ≤ it) (h2 : ∀ x c, X.env.cells.lookup x = some c → c ≠ it) (h3 : ∀ p ∈ X.pn ++ pins, p.1 ≠ it) : Inv X pins σ H { s with heap := h', toks := t' } := by
  have nit : ∀ b u, H b = some u → b ≠ it := fun b u e z => by rw [z, hn] at e; cases e
  refine I.step (g' := s.gens) (d' := s.drawn) (ch := [it]) (fun b hb => ?_) (fun b o _ _ hc e _ => k b o (fun z => hc (by simp [z])) e) (fun b o _ _ hc e _ => ⟨o.slots, k b o (fun z => hc (by simp [z])) e⟩) (fun _ _ _ _ n => n)
    (fun b o hc e => ⟨o, k b o (fun z => hc (by simp [z])) e⟩) (fun _ _ e => e) (fun _ _ _ e => e) (fun b ps e => ⟨#[], by rw [e]; simp⟩) (fun m hm => ?_) (fun b u e => ?_) I.bare
  · have e : b = it := by simpa using hb
    subst e
    exact ⟨h1, hL, h2, h3⟩
  · obtain ⟨o, es, ep, ho, r⟩ := hm
    exact ⟨o, es, ep, k _ o (Ne.symm hL) ho, r⟩
  · refine (I.hok b u e).stay (fun c v hc q => k c v ?_ q) (fun _ q => q) fun _ _ q => q
    rcases hc with z | z
    · rw [z]; exact nit b u e
    · exact nit c _ z
theorem Inv.tok (I : Inv X pins σ H s) (t : Nat) : Inv X pins σ H { s with toks := t } := I.un (h' := s.heap) (t' := t) Un.refl I.hok
/-- all objects kept -/
theorem Inv.kept {t' : Nat} (I : Inv X pins σ H s) (k : ∀ b u, s.heap.get? b = some u → h'.get? b = some u) : Inv X pins σ H { s with heap := h', toks := t' } := I.un (Un.kept k) (I.hok.kept k)
/-- a new object laid and tracked -/
theorem Inv.laid {a : Addr} {o : HO} {t' : Nat} (I : Inv X pins σ H s) (k : ∀ b u, s.heap.get? b = some u → h'.get? b = some u) (hp : s.heap.objs.size ≤ a) (new : ObjOk X.prog X.w (upd H a o) h' a o) :
    Inv X pins σ (upd H a o) { s with heap := h', toks := t' } := I.un (Un.laid k hp (I.hok.fresh hp)) (I.hok.laid k hp new)
/-- an object written -/
theorem Inv.write {x e : Addr} {o : HO} {t' : Nat} (I : Inv X pins σ H s) (mu : Mut (H x)) (he : e = x ∨ H e = some (.own x)) (k : ∀ b u, b ≠ e → s.heap.get? b = some u → h'.get? b = some u) (heo : ∃ u, h'.get? e = some u)
    (new : ObjOk X.prog X.w (upd H x o) h' x o) : Inv X pins σ (upd H x o) { s with heap := h', toks := t' } := I.un (Un.write mu he k heo) (I.hok.write mu he k heo new)
/-- forgetting slots, pins -/
theorem Inv.weak {σ' : List (Option V)} (I : Inv X pins σ H s) (hl : σ'.length = σ.length) (w : ∀ (i : Nat) v, σ'[i]? = some (some v) → σ[i]? = some (some v)) : Inv X pins σ' H s :=
  ⟨I.ok, I.os, I.bare, I.base, let ⟨m, hn, hl'⟩ := I.loc; ⟨m, hn, fun i x v e1 e2 e3 => hl' i x v e1 (w i v e2) e3⟩, I.cell, I.free, I.freeC, I.pin, I.hok, hl.trans I.len⟩
theorem Inv.pins_of {pins' : List (Addr × Obj)} (I : Inv X pins σ H s) (h : ∀ p ∈ pins', s.heap.get? p.1 = some p.2 ∧ H p.1 = none ∧ p.1 ≠ X.env.locals ∧ p.1 ∉ X.fs ∧ ∀ v, p.2.data ≠ .cell v) : Inv X pins' σ H s :=
  ⟨I.ok, I.os, I.bare, I.base, I.loc, I.cell, I.free, I.freeC, fun p hp => (List.mem_append.mp hp).elim (fun z => I.pin p (List.mem_append_left _ z)) (h p), I.hok, I.len⟩

theorem nodup_ix {N : List Str} (hN : N.Nodup) {i j : Nat} {x : Str} (a : N[i]? = some x) (b : N[j]? = some x) : i = j := by
  obtain ⟨h1, e1⟩ := List.getElem?_eq_some_iff.mp a
  obtain ⟨h2, e2⟩ := List.getElem?_eq_some_iff.mp b
  exact (List.getElem_inj hN).mp (e1.trans e2.symm)

/-- a name is stored; what changed -/
theorem store_ok2 {M : Model} {A : Around} {E : Value → Shared → Prop} {i : Nat} {x : Str} {v : V} {u : Value} {Q : Unit → Shared → Prop} (I : Inv X pins σ H s) (hN : X.N.Nodup) (hi : X.N[i]? = some x) (hx : Loc X.env.scope x) (r : RelV v u)
    (h : ∀ s', Inv X pins (σ.set i (some v)) H s' → (∃ a, Heap.SameBut a s.heap s'.heap ∧ (a = X.env.locals ∨ X.env.cells.lookup x = some a)) → Q () s') (hf : X.fn x = true ∨ X.env.scope.names.lookup x = some .local := by first | exact .inl rfl | exact .inr rfl | assumption) : wpAny M A (storeName X.env x u) Q E s := by
  obtain ⟨m, hn, hl⟩ := id I.loc
  have hcls : (X.env.scope.kind == .class || (X.env.scope.kind == .module && X.env.locals != X.env.globals)) = false := by rw [I.ok.kind]; rfl
  have hiσ : i < σ.length := by rw [I.len]; exact (List.getElem?_eq_some_iff.mp hi).1
  have cne := I.cne
  have tracked : ∀ {a : Addr} {h' : Heap}, (∃ o, s.heap.get? a = some o ∧ H a = none) → Heap.SameBut a s.heap h' → HOk X.prog X.w H h' := fun {a h'} ha hs b ob e => by
    obtain ⟨_, _, hfree⟩ := ha
    refine (I.hok b ob e).stay (fun c w' hc q => (hs.2 c ?_).trans q) (fun _ q => q) fun _ _ q => q
    rintro rfl
    rcases hc with rfl | hc
    · rw [hfree] at e; cases e
    · rw [hfree] at hc; cases hc
  rcases hx with hk | hk
  · refine wpAny_storeName_local hk hn (fun h' hn' hs => ?_) hcls
    obtain ⟨oL, _, _, hoL, _⟩ := id hn
    refine h _ ⟨I.ok, I.os, I.bare, ⟨fun b o e n hb hx => ?_, fun b o e n hb hx => ?_, I.base.free, fun b o e hx => ?_, I.base.tups, I.base.frzs, I.base.tbls⟩, ⟨_, hn', fun j y v' e1 e2 e3 => ?_⟩, fun y c e => ?_, I.free, I.freeC, fun p hp => ?_, tracked ⟨oL, hoL, I.free⟩ hs, by simpa using I.len⟩ ⟨_, hs, .inl rfl⟩
    · exact (hs.2 b (Nat.ne_of_lt (Nat.lt_of_lt_of_le (Heap.lt_size e) I.ok.above))).trans (I.base.keep b o e n hb hx)
    · obtain ⟨sl, e1⟩ := I.base.slot b o e n hb hx
      exact ⟨sl, (hs.2 b (Nat.ne_of_lt (Nat.lt_of_lt_of_le (Heap.lt_size e) I.ok.above))).trans e1⟩
    · obtain ⟨o', e1⟩ := I.base.there b o e hx
      exact ⟨o', (hs.2 b (Nat.ne_of_lt (Nat.lt_of_lt_of_le (Heap.lt_size e) I.ok.above))).trans e1⟩
    · by_cases hj : j = i
      · subst hj
        rw [hi] at e1; cases e1
        rw [List.getElem?_set_self hiσ] at e2
        cases e2
        exact ⟨u, r, .inl ⟨hk, by simp⟩⟩
      · rw [List.getElem?_set_ne (Ne.symm hj)] at e2
        obtain ⟨u', r', q⟩ := hl j y v' e1 e2 e3
        refine ⟨u', r', ?_⟩
        rcases q with ⟨k, e⟩ | ⟨k, c, e, z⟩
        · refine .inl ⟨k, ?_⟩
          have : y ≠ x := fun e => hj (nodup_ix hN e1 (e ▸ hi))
          simp [this, e]
        · exact .inr ⟨k, c, e, z.sameBut hs (cne y c e)⟩
    · obtain ⟨w', z⟩ := I.cell y c e
      exact ⟨w', z.sameBut hs (cne y c e)⟩
    · obtain ⟨e, n, ne, nf, d⟩ := I.pin p hp
      exact ⟨(hs.2 p.1 ne).trans e, n, ne, nf, d⟩
  · have hfn : X.fn x = true := by
      rcases hf with z | z
      · exact z
      · rw [z] at hk; cases hk
    obtain ⟨c, hc⟩ := I.ok.has x (.inl hk)
    obtain ⟨w', z⟩ := I.cell x c hc
    refine wpAny_storeName_cell I.ok.kind hk hc z (fun h' hc' hs => ?_)
    obtain ⟨oc, hoc, hocd⟩ := id z
    refine h { s with heap := h' } ⟨I.ok, I.os, I.bare, ⟨fun b o e n hb hx => ?_, fun b o e n hb hx => ?_, I.base.free, fun b o e hx => ?_, I.base.tups, I.base.frzs, I.base.tbls⟩, ⟨m, hn.sameBut hs (Ne.symm (cne x c hc)), fun j y v' e1 e2 e3 => ?_⟩, fun y c' e => ?_, I.free, I.freeC, fun p hp => ?_, tracked ⟨oc, hoc, I.freeC x c hc⟩ hs, by simpa using I.len⟩ ⟨c, hs, .inr hc⟩
    · exact (hs.2 b (Nat.ne_of_lt (Nat.lt_of_lt_of_le (Heap.lt_size e) (I.ok.cab x c hfn hc)))).trans (I.base.keep b o e n hb hx)
    · obtain ⟨sl, e1⟩ := I.base.slot b o e n hb hx
      exact ⟨sl, (hs.2 b (Nat.ne_of_lt (Nat.lt_of_lt_of_le (Heap.lt_size e) (I.ok.cab x c hfn hc)))).trans e1⟩
    · obtain ⟨o', e1⟩ := I.base.there b o e hx
      exact ⟨o', (hs.2 b (Nat.ne_of_lt (Nat.lt_of_lt_of_le (Heap.lt_size e) (I.ok.cab x c hfn hc)))).trans e1⟩
    · by_cases hj : j = i
      · subst hj
        rw [hi] at e1; cases e1
        rw [List.getElem?_set_self hiσ] at e2
        cases e2
        exact ⟨u, r, .inr ⟨.inl hk, c, hc, hc'⟩⟩
      · rw [List.getElem?_set_ne (Ne.symm hj)] at e2
        obtain ⟨u', r', q⟩ := hl j y v' e1 e2 e3
        refine ⟨u', r', ?_⟩
        rcases q with q | ⟨k, c', e, z'⟩
        · exact .inl q
        · refine .inr ⟨k, c', e, z'.sameBut hs ?_⟩
          rintro rfl
          exact hj (nodup_ix hN e1 (I.ok.inj _ _ _ e hc ▸ hi))
    · by_cases hcc : c' = c
      · subst hcc; exact ⟨_, hc'⟩
      · obtain ⟨w2, z2⟩ := I.cell y c' e
        exact ⟨w2, z2.sameBut hs hcc⟩
    · obtain ⟨e, n, ne, nf, d⟩ := I.pin p hp
      refine ⟨(hs.2 p.1 ?_).trans e, n, ne, nf, d⟩
      intro q
      rw [q, hoc] at e
      have q' : oc = p.2 := Option.some.inj e
      exact d w' (by rw [← q']; exact hocd)
theorem store_ok {M : Model} {A : Around} {E : Value → Shared → Prop} {i : Nat} {x : Str} {v : V} {u : Value} {Q : Unit → Shared → Prop} (I : Inv X pins σ H s) (hN : X.N.Nodup) (hi : X.N[i]? = some x) (hx : Loc X.env.scope x) (r : RelV v u)
    (h : ∀ s', Inv X pins (σ.set i (some v)) H s' → Q () s') (hf : X.fn x = true ∨ X.env.scope.names.lookup x = some .local := by first | exact .inl rfl | exact .inr rfl | assumption) : wpAny M A (storeName X.env x u) Q E s :=
  store_ok2 I hN hi hx r (fun s' I' _ => h s' I') hf
/-- behind a call or a block, the state as it is -/
theorem Inv.call' {s' : Shared} {ch : List Addr} (I : Inv X pins σ H s) (ho : s'.os = s.os) (u : Un (frs X.stack) ch H H' s.heap s'.heap) (hok : HOk X.prog X.w H' s'.heap) (hg : AllBare s'.gens)
    (hch : ∀ b ∈ ch, (b ∈ X.ex ∨ X.s_0.heap.objs.size ≤ b) ∧ b ≠ X.env.locals ∧ (∀ x c, X.env.cells.lookup x = some c → c ≠ b) ∧ ∀ p ∈ X.pn ++ pins, p.1 ≠ b) : Inv X pins σ H' s' := by
  obtain ⟨h', g', d', t', o'⟩ := s'
  have e : o' = s.os := ho
  subst e
  exact I.call (g' := g') (t' := t') (d' := d') u hok hg hch
end
/-! ### the judgements -/
/-- an exception: its class, its own dict's address (where it has one), the abstract heap behind it -/
abbrev XK := Value → Option Addr → Hp → Prop
abbrev St := List (Option V)
abbrev VK := V → Hp → Prop
/-- an expression's reading; a test's; an argument list's -/
abbrev TE := St → Hp → VK → Prop
abbrev TT := St → Hp → (Bool → Hp → Prop) → Prop
abbrev TA := St → Hp → (List V → Hp → Prop) → Prop
/-- what is wanted behind a statement -/
structure Ends where
  nx : St → Hp → Prop
  rt : VK
  bk : St → Hp → Prop := fun _ _ => False
  ct : St → Hp → Prop := fun _ _ => False
abbrev TS := Ends → St → Hp → Prop

def EP (X : Cx) (pins : List (Addr × Obj)) (σ : St) (Q : VK) (u : Value) (s' : Shared) : Prop := ∃ v H', Inv X pins σ H' s' ∧ RelV v u ∧ Q v H'
def TP (X : Cx) (pins : List (Addr × Obj)) (σ : St) (Q : Bool → Hp → Prop) (b : Bool) (s' : Shared) : Prop := ∃ H', Inv X pins σ H' s' ∧ Q b H'
def AP (X : Cx) (pins : List (Addr × Obj)) (σ : St) (Q : List V → Hp → Prop) (us : List Value) (s' : Shared) : Prop := ∃ vs H', Inv X pins σ H' s' ∧ Vals vs us ∧ Q vs H'
def SP (X : Cx) (pins : List (Addr × Obj)) (D : Ends) (f : Flow) (s' : Shared) : Prop :=
  match f with
  | .next => ∃ σ' H', Inv X pins σ' H' s' ∧ D.nx σ' H'
  | .brk => ∃ σ' H', Inv X pins σ' H' s' ∧ D.bk σ' H'
  | .cont => ∃ σ' H', Inv X pins σ' H' s' ∧ D.ct σ' H'
  | .ret u => ∃ v σ' H', Inv X pins σ' H' s' ∧ RelV v u ∧ D.rt v H'

def PE (X : Cx) (e : Expr) (t : TE) : Prop :=
  ∀ (pins : List (Addr × Obj)) (s : Shared) (σ : St) (H : Hp) (Q : VK), Inv X pins σ H s → t σ H Q → wpAny (model X.prog X.w) X.A (eval e X.env) (EP X pins σ Q) X.xe s
def PT (X : Cx) (e : Expr) (t : TT) : Prop :=
  ∀ (pins : List (Addr × Obj)) (s : Shared) (σ : St) (H : Hp) (Q : Bool → Hp → Prop), Inv X pins σ H s → t σ H Q → wpAny (model X.prog X.w) X.A (isTrue e X.env (eval e X.env)) (TP X pins σ Q) X.xe s
/-- a test whatever its 'whole' is (and, or) -/
def PW (X : Cx) (e : Expr) (t : TT) : Prop :=
  ∀ (whole : Sem Value) (pins : List (Addr × Obj)) (s : Shared) (σ : St) (H : Hp) (Q : Bool → Hp → Prop), Inv X pins σ H s → t σ H Q → wpAny (model X.prog X.w) X.A (isTrue e X.env whole) (TP X pins σ Q) X.xe s
theorem PW.pt {X : Cx} {e : Expr} {t : TT} (h : PW X e t) : PT X e t := h _
/-- an argument list (no star), from the left -/
def PA (X : Cx) (es : List Expr) (t : TA) : Prop :=
  ∀ (pos : Pos) (pins : List (Addr × Obj)) (s : Shared) (σ : St) (H : Hp) (Q : List V → Hp → Prop), Inv X pins σ H s → t σ H Q → wpAny (model X.prog X.w) X.A (spliced (backTo pos (starEach es X.env))) (AP X pins σ Q) X.xe s
def PS (X : Cx) (st : Stmt) (t : TS) : Prop :=
  ∀ (pins : List (Addr × Obj)) (s : Shared) (σ : St) (H : Hp) (D : Ends), Inv X pins σ H s → t D σ H → wpAny (model X.prog X.w) X.A (exec st X.env) (SP X pins D) X.xe s
def PSs (X : Cx) (st : List Stmt) (t : TS) : Prop :=
  ∀ (pins : List (Addr × Obj)) (s : Shared) (σ : St) (H : Hp) (D : Ends), Inv X pins σ H s → t D σ H → wpAny (model X.prog X.w) X.A (execs st X.env) (SP X pins D) X.xe s
/-- weaken the end -/
theorem thn {α : Type} {t : Sem α} {Q Q' : α → Shared → Prop} {M : Model} {A : Around} {E : Value → Shared → Prop} {s : Shared} (h : wpAny M A t Q E s) (hQ : ∀ a s, Q a s → Q' a s) : wpAny M A t Q' E s := wpAny_mono h hQ fun _ _ x => x
end L2
namespace L2
open PySem PySem.Spec PyProof.Rows
section
variable {X : Cx}
/-- two expressions in a row -/
theorem bin {a b : Expr} {ta tb : TE} (ha : PE X a ta) (hb : PE X b tb) {pins : List (Addr × Obj)} {s : Shared} {σ : St} {H : Hp} {R : V → V → Hp → Prop} (I : Inv X pins σ H s) (h : ta σ H fun x H1 => tb σ H1 fun y H2 => R x y H2)
    {α : Type} {Q : α → Shared → Prop} {f : Value → Value → Sem α}
    (hf : ∀ v u s2 x y H2, Inv X pins σ H2 s2 → RelV x v → RelV y u → R x y H2 → wpAny (model X.prog X.w) X.A (f v u) Q X.xe s2) :
    wpAny (model X.prog X.w) X.A (eval a X.env) (fun v s₁ => wpAny (model X.prog X.w) X.A (eval b X.env) (fun u s₂ => wpAny (model X.prog X.w) X.A (f v u) Q X.xe s₂) X.xe s₁) X.xe s := by
  refine thn (ha pins s σ H _ I h) fun v s1 ⟨x, H1, I1, r1, q1⟩ => ?_
  refine thn (hb pins s1 σ H1 _ I1 q1) fun u s2 ⟨y, H2, I2, r2, q2⟩ => ?_
  exact hf v u s2 x y H2 I2 r1 r2 q2

/-! ### names and constants -/
def tVar (i : Nat) : TE := fun σ H Q => ∃ v, σ[i]? = some (some v) ∧ Q v H
def tC (v : V) : TE := fun _ H Q => Q v H
theorem pe_var {i : Nat} {x : Str} {pos : Pos} (hN : X.N[i]? = some x) (hv : Vis X.env.scope x) (hd : (x == ("__debug__" : Str)) = false := by decide) (hcd : (x == ("__classdict__" : Str)) = false := by decide) : PE X (.Name x pos) (tVar i) := by
  intro pins s σ H Q I h
  obtain ⟨v, e, h⟩ := h
  obtain ⟨m, hn, hl⟩ := I.loc
  obtain ⟨u, r, l⟩ := hl i x v hN e hv
  have fin : EP X pins σ Q u s := ⟨v, H, I, r, h⟩
  rcases l with ⟨hk, hm⟩ | ⟨hk, c, hc, hcell⟩
  · exact wpAny_Name (wpAny_loadName_local I.ok.kind hk hn hm fin) hd
  · rcases hk with hk | hk
    · exact wpAny_Name (wpAny_loadName_cell I.ok.kind hk hc hcell fin) hd
    · exact wpAny_Name (wpAny_loadName_free I.ok.kind hk hc hcell fin hcd) hd
theorem pe_int {i j pos} : PE X (.Constant (.int i) j pos) (tC (.int i)) := fun _ _ _ H _ I h => wpAny_Constant_int ⟨.int i, H, I.tok _, ⟨_, rfl⟩, h⟩
theorem pe_bl {b j pos} : PE X (.Constant (.bool b) j pos) (tC (.bl b)) := fun _ _ _ H _ I h => Constant_bool ⟨.bl b, H, I, rfl, h⟩
theorem pe_non {j pos} : PE X (.Constant .none j pos) (tC .non) := fun _ _ _ H _ I h => Constant_none ⟨.non, H, I, rfl, h⟩
theorem pe_str {x j pos} : PE X (.Constant (.str x) j pos) (tC (.str x)) := fun _ _ _ H _ I h => Calls.Constant_str ⟨.str x, H, I.tok _, ⟨_, rfl⟩, h⟩

/-- a global name of the def -/
def Gl (X : Cx) (x : Str) : Prop := X.env.kindOf x = some .globalImplicit
theorem ld_glob {E : Value → Shared → Prop} {pins : List (Addr × Obj)} {s : Shared} {σ : St} {H : Hp} {x : Str} {u : Value} {pos : Pos} {Q : Value → Shared → Prop} (I : Inv X pins σ H s) (hg : Gl X x) (hm : X.mg x = some u) (h : Q u s)
    (hd : (x == ("__debug__" : Str)) = false := by decide) : wpAny (model X.prog X.w) X.A (eval (.Name x pos) X.env) Q E s :=
  Calls.Name_function_global I.ok.kind hg (Calls.loadGlobal_global (by rw [I.ok.glob]; exact I.mod.glob.keeps I.bk) hm h) hd
theorem ld_blt {E : Value → Shared → Prop} {pins : List (Addr × Obj)} {s : Shared} {σ : St} {H : Hp} {x : Str} {u : Value} {pos : Pos} {Q : Value → Shared → Prop} (I : Inv X pins σ H s) (hg : Gl X x) (hm : X.mg x = none) (hv : bootBuiltins x = some u) (h : Q u s)
    (hn : x ≠ "__name__" := by decide) (hd : (x == ("__debug__" : Str)) = false := by decide) : wpAny (model X.prog X.w) X.A (eval (.Name x pos) X.env) Q E s := by
  obtain ⟨mb, h1, h2⟩ := I.mod.blt
  exact Calls.Name_function_global I.ok.kind hg (Calls.loadGlobal_builtin (by rw [I.ok.glob]; exact I.mod.glob.keeps I.bk) hm (by rw [I.ok.blt]; exact h1.keeps I.bk) ((h2 x hn).trans hv) h) hd
/-- a module's constant, a class, a function, as a value -/
theorem pe_glob {x : Str} {v : V} {u : Value} {pos : Pos} (hg : Gl X x) (hm : X.mg x = some u) (r : RelV v u) (hd : (x == ("__debug__" : Str)) = false := by decide) : PE X (.Name x pos) (tC v) :=
  fun _ _ _ H _ I h => ld_glob I hg hm ⟨v, H, I, r, h⟩ hd
theorem pe_bltn {x : Str} {v : V} {u : Value} {pos : Pos} (hg : Gl X x) (hm : X.mg x = none) (hv : bootBuiltins x = some u) (r : RelV v u) (hn : x ≠ "__name__" := by decide) (hd : (x == ("__debug__" : Str)) = false := by decide) : PE X (.Name x pos) (tC v) :=
  fun _ _ _ H _ I h => ld_blt I hg hm hv ⟨v, H, I, r, h⟩ hn hd

/-! ### arithmetic -/
variable {a b : Expr} {ta tb : TE} {pos : Pos}
/-! ### comparisons -/
def PC (X : Cx) (op : CmpOp) (a b : Expr) (t : TE) : Prop :=
  ∀ (pins : List (Addr × Obj)) (s : Shared) (σ : St) (H : Hp) (Q : VK), Inv X pins σ H s → t σ H Q →
    wpAny (model X.prog X.w) X.A (eval a X.env) (fun v s₁ => wpAny (model X.prog X.w) X.A (eval b X.env) (fun u s₂ => wpAny (model X.prog X.w) X.A (compareOp op v u) (EP X pins σ Q) X.xe s₂) X.xe s₁) X.xe s
/-- a comparison as a value, as a test -/
def tB (t : TE) : TT := fun σ H Q => t σ H fun x H1 => ∃ c, x = .bl c ∧ Q c H1
theorem pt_cmp {op : CmpOp} {t : TE} (h : PC X op a b t) (h1 : behindInMarks op b = false := by first | exact nobehind _ (by decide) (by decide) | rfl) : PT X (.Compare a [op] [b] pos) (tB t) := by
  intro pins s σ H Q I hw
  refine wpAny_isTrue_Compare1 (thn (h pins s σ H _ I hw) fun v s1 h1 => thn h1 fun u s2 h2 => thn h2 fun c s3 ⟨x, H1, I1, r1, q1⟩ => ?_) h1
  obtain ⟨d, rfl, q⟩ := q1
  cases r1
  exact wpAny_truthy_bool ⟨H1, I1, q⟩
/-- an expression whose value is a bool, as a test -/
theorem pt_val {e : Expr} {t : TE} (h : PE X e t) (he : ∀ whole, isTrue e X.env whole = (do let v ← whole; standAt e.pos; holding [v] (truthy v)) := by intro _; rfl) : PT X e (tB t) := by
  intro pins s σ H Q I hw
  refine isTrue_plain (thn (h pins s σ H _ I hw) fun v s1 ⟨x, H1, I1, r1, q1⟩ => ?_) (he _)
  obtain ⟨d, rfl, q⟩ := q1
  cases r1
  exact wpAny_truthy_bool ⟨H1, I1, q⟩

/-! ### and, or, not -/
variable {tA tB' : TT} {rest : List Expr}
def tAnd (t u : TT) : TT := fun σ H Q => t σ H fun c H1 => if c = true then u σ H1 Q else Q false H1
def tOr (t u : TT) : TT := fun σ H Q => t σ H fun c H1 => if c = true then Q true H1 else u σ H1 Q
def tNot (t : TT) : TT := fun σ H Q => t σ H fun c H1 => Q (!c) H1
theorem pw_and1 (ha : PT X a tA) : PW X (.BoolOp .And [a] pos) tA := by
  intro wh pins s σ H Q I h
  refine isTrue_and (thn (ha pins s σ H Q I h) fun c s1 e => ?_)
  cases c with
  | true => exact isTrue_and_nil e
  | false => exact e
theorem pw_or1 (ha : PT X a tA) : PW X (.BoolOp .Or [a] pos) tA := by
  intro wh pins s σ H Q I h
  refine isTrue_or (thn (ha pins s σ H Q I h) fun c s1 e => ?_)
  cases c with
  | false => exact isTrue_or_nil e
  | true => exact e
theorem pw_and (ha : PT X a tA) (hb : PW X (.BoolOp .And (b :: rest) pos) tB') : PW X (.BoolOp .And (a :: b :: rest) pos) (tAnd tA tB') := by
  intro wh pins s σ H Q I h
  refine isTrue_and (thn (ha pins s σ H _ I h) fun c s1 ⟨H1, I1, q1⟩ => ?_)
  cases c with
  | true => exact hb wh pins s1 σ H1 Q I1 q1
  | false => exact ⟨H1, I1, q1⟩
theorem pw_or (ha : PT X a tA) (hb : PW X (.BoolOp .Or (b :: rest) pos) tB') : PW X (.BoolOp .Or (a :: b :: rest) pos) (tOr tA tB') := by
  intro wh pins s σ H Q I h
  refine isTrue_or (thn (ha pins s σ H _ I h) fun c s1 ⟨H1, I1, q1⟩ => ?_)
  cases c with
  | true => exact ⟨H1, I1, q1⟩
  | false => exact hb wh pins s1 σ H1 Q I1 q1
theorem pt_not (ha : PT X a tA) : PT X (.UnaryOp .Not a pos) (tNot tA) := by
  intro pins s σ H Q I h
  exact isTrue_not (ha pins s σ H (fun c H1 => Q (!c) H1) I h)
/-- .. as values (bools) -/
def tAndV (ta tb : TE) : TE := fun σ H Q => ta σ H fun x H1 => ∃ c, x = .bl c ∧ if c = true then tb σ H1 Q else Q (.bl false) H1
def tOrV (ta tb : TE) : TE := fun σ H Q => ta σ H fun x H1 => ∃ c, x = .bl c ∧ if c = true then Q (.bl true) H1 else tb σ H1 Q
def tNotV (ta : TE) : TE := fun σ H Q => ta σ H fun x H1 => ∃ c, x = .bl c ∧ Q (.bl (!c)) H1
theorem pe_one {op} {t : TE} (h : PE X a t) : PE X (.BoolOp op [a] pos) t := fun pins s σ H Q I hw => BoolOp_one (h pins s σ H Q I hw)
theorem pe_and (ha : PE X a ta) (hb : PE X (.BoolOp .And (b :: rest) pos) tb) : PE X (.BoolOp .And (a :: b :: rest) pos) (tAndV ta tb) := by
  intro pins s σ H Q I h
  refine BoolOp_and (thn (ha pins s σ H _ I h) fun v s1 ⟨x, H1, I1, r1, q1⟩ => ?_)
  obtain ⟨c, rfl, q1⟩ := q1
  cases r1
  refine wpAny_truthy_bool ?_
  cases c with
  | true => exact hb pins s1 σ H1 Q I1 q1
  | false => exact ⟨.bl false, H1, I1, rfl, q1⟩
theorem pe_or (ha : PE X a ta) (hb : PE X (.BoolOp .Or (b :: rest) pos) tb) : PE X (.BoolOp .Or (a :: b :: rest) pos) (tOrV ta tb) := by
  intro pins s σ H Q I h
  refine BoolOp_or (thn (ha pins s σ H _ I h) fun v s1 ⟨x, H1, I1, r1, q1⟩ => ?_)
  obtain ⟨c, rfl, q1⟩ := q1
  cases r1
  refine wpAny_truthy_bool ?_
  cases c with
  | false => exact hb pins s1 σ H1 Q I1 q1
  | true => exact ⟨.bl true, H1, I1, rfl, q1⟩
theorem pe_not (ha : PE X a ta) : PE X (.UnaryOp .Not a pos) (tNotV ta) := by
  intro pins s σ H Q I h
  refine UnaryOp_ (thn (ha pins s σ H _ I h) fun v s1 ⟨x, H1, I1, r1, q1⟩ => ?_)
  obtain ⟨c, rfl, q1⟩ := q1
  cases r1
  exact not_of (wpAny_truthy_bool ⟨.bl (!c), H1, I1, rfl, q1⟩)
/-- a if t else b -/
def tIf (t : TT) (ta tb : TE) : TE := fun σ H Q => t σ H fun c H1 => if c = true then ta σ H1 Q else tb σ H1 Q
theorem pe_ifExp {c : Expr} (hc : PT X c tA) (ha : PE X a ta) (hb : PE X b tb) : PE X (.IfExp c a b pos) (tIf tA ta tb) := by
  intro pins s σ H Q I h
  refine wpAny_IfExp (thn (hc pins s σ H _ I h) fun d s1 ⟨H1, I1, q1⟩ => ?_)
  cases d with
  | true => exact ha pins s1 σ H1 Q I1 q1
  | false => exact hb pins s1 σ H1 Q I1 q1
end
end L2
namespace L2
open PySem PySem.Spec PyProof.Rows
/-! ### a list, a tuple that is read: tracked, frozen, or an object of the module -/
def SqL (K : PySem.W.Frag) (H : Hp) (a : Addr) (xs : List V) : Prop :=
  Rd H a (.lst xs) ∨
    ∃ (o : Obj) (its : Array Value) (n : Nat), K.lookup a = some o ∧ o.cls = .type "list" ∧ o.dict = none ∧ o.data = .seq its n ∧ its.size ≤ sizeLine ∧ Vals xs its.toList
def SqT (K : PySem.W.Frag) (H : Hp) (a : Addr) (xs : List V) : Prop :=
  Rd H a (.tup xs) ∨
    ∃ (o : Obj) (its : Array Value) (n : Nat), K.lookup a = some o ∧ o.cls = .type "tuple" ∧ o.data = .seq its n ∧ its.size ≤ sizeLine ∧ Vals xs its.toList
def absV : Value → Option V
  | .none => some .non
  | .bool b => some (.bl b)
  | .int i _ => some (.int i)
  | .str x _ => some (.str x)
  | .bytes b _ => some (.byt b)
  | .float b _ => some (.flt b)
  | .ref a => some (.ref a)
  | .type n => some (.ty n)
  | _ => none
theorem RelV.abs {x : V} {u : Value} (r : RelV x u) : absV u = some x := by
  cases x with
  | non => cases r; rfl
  | bl _ => cases r; rfl
  | int _ => obtain ⟨t, rfl⟩ := r; rfl
  | str _ => obtain ⟨t, rfl⟩ := r; rfl
  | byt _ => obtain ⟨t, rfl⟩ := r; rfl
  | flt _ => obtain ⟨t, rfl⟩ := r; rfl
  | ref _ => cases r; rfl
  | ty _ => cases r; rfl
theorem RelV.inj {x y : V} {u : Value} (r : RelV x u) (q : RelV y u) : x = y := Option.some.inj (r.abs.symm.trans q.abs)
theorem Vals.inj : ∀ {xs ys : List V} {us : List Value}, Vals xs us → Vals ys us → xs = ys
  | _, _, _, .nil, .nil => rfl
  | _, _, _, .cons r t, .cons r' t' => by rw [r.inj r', Vals.inj t t']
section
variable {X : Cx} {pins : List (Addr × Obj)} {σ : St} {H : Hp} {s : Shared} {a : Addr} {xs ys : List V}
theorem SqL.of {K : PySem.W.Frag} (h : H a = some (.lst xs)) : SqL K H a xs := .inl (.inl h)
theorem SqT.of {K : PySem.W.Frag} (h : H a = some (.tup xs)) : SqT K H a xs := .inl (.inl h)
theorem Inv.list (I : Inv X pins σ H s) (h : SqL X.K H a xs) : ∃ its : List Value, Vals xs its ∧ PlainL s.heap a its.toArray ∧ xs.length ≤ sizeLine := by
  rcases h with h | ⟨o, its, n, hk, hc, hd, hs, hz, r⟩
  · obtain ⟨z, its, n, r, e⟩ := h.ok I.hok
    exact ⟨its, r, ⟨_, n, e, rfl, rfl, rfl⟩, z⟩
  · refine ⟨its.toList, r, ⟨o, n, I.kIn a o hk, hc, hd, by simpa using hs⟩, ?_⟩
    have e := r.length
    simp only [Array.length_toList] at e
    omega
theorem Inv.tuple (I : Inv X pins σ H s) (h : SqT X.K H a xs) : ∃ its : List Value, Vals xs its ∧ IsTup s.heap a its.toArray ∧ xs.length ≤ sizeLine := by
  rcases h with h | ⟨o, its, n, hk, hc, hs, hz, r⟩
  · obtain ⟨z, its, r, p⟩ := h.ok I.hok
    exact ⟨its, r, p, z⟩
  · refine ⟨its.toList, r, ⟨o, I.kIn a o hk, hc, n, by simpa using hs⟩, ?_⟩
    have e := r.length
    simp only [Array.length_toList] at e
    omega
theorem Inv.list_inj (I : Inv X pins σ H s) (h : SqL X.K H a xs) (h' : SqL X.K H a ys) : xs = ys := by
  obtain ⟨its, r, ⟨o, n, e, _, _, d⟩, _⟩ := I.list h
  obtain ⟨its', r', ⟨o', n', e', _, _, d'⟩, _⟩ := I.list h'
  rw [e] at e'; cases e'
  rw [d] at d'
  injection d' with d1 _
  have : its = its' := by simpa using congrArg Array.toList d1
  subst this
  exact r.inj r'
theorem Inv.tuple_inj (I : Inv X pins σ H s) (h : SqT X.K H a xs) (h' : SqT X.K H a ys) : xs = ys := by
  obtain ⟨its, r, ⟨o, e, _, n, d⟩, _⟩ := I.tuple h
  obtain ⟨its', r', ⟨o', e', _, n', d'⟩, _⟩ := I.tuple h'
  rw [e] at e'; cases e'
  rw [d] at d'
  injection d' with d1 _
  have : its = its' := by simpa using congrArg Array.toList d1
  subst this
  exact r.inj r'
end
/-! ### another wish about exceptions -/
abbrev Cx.wish (X : Cx) (E : Value → Shared → Prop) : Cx := { X with xe := E }
/-- no exception leaves -/
abbrev Cx.nox (X : Cx) : Cx := X.wish fun _ _ => False
theorem Cx.Ok.wish {X : Cx} (ok : X.Ok) (E : Value → Shared → Prop) : (X.wish E).Ok :=
  ⟨ok.mod, ok.kind, ok.glob, ok.blt, ok.above, ok.inj, ok.has, ok.cab, ok.hd, ok.frames, ok.stk, ok.exf, ok.bs, ok.bsz, ok.noex, ok.exfs, ok.funs, ok.frf⟩
theorem Cx.Ok.unwish {X : Cx} {E : Value → Shared → Prop} (ok : (X.wish E).Ok) : X.Ok :=
  ⟨ok.mod, ok.kind, ok.glob, ok.blt, ok.above, ok.inj, ok.has, ok.cab, ok.hd, ok.frames, ok.stk, ok.exf, ok.bs, ok.bsz, ok.noex, ok.exfs, ok.funs, ok.frf⟩
section
variable {X : Cx} {pins : List (Addr × Obj)} {σ : St} {H : Hp} {s : Shared} {E : Value → Shared → Prop}
theorem Inv.wish (I : Inv X pins σ H s) (E : Value → Shared → Prop) : Inv (X.wish E) pins σ H s := ⟨I.ok.wish E, I.os, I.bare, I.base, I.loc, I.cell, I.free, I.freeC, I.pin, I.hok, I.len⟩
theorem Inv.unwish (I : Inv (X.wish E) pins σ H s) : Inv X pins σ H s := ⟨I.ok.unwish, I.os, I.bare, I.base, I.loc, I.cell, I.free, I.freeC, I.pin, I.hok, I.len⟩
theorem SP.unwish {D : Ends} {f : Flow} {s' : Shared} (h : SP (X.wish E) pins D f s') : SP X pins D f s' := by
  cases f with
  | next => obtain ⟨σ', H', I, q⟩ := h; exact ⟨σ', H', I.unwish, q⟩
  | brk => obtain ⟨σ', H', I, q⟩ := h; exact ⟨σ', H', I.unwish, q⟩
  | cont => obtain ⟨σ', H', I, q⟩ := h; exact ⟨σ', H', I.unwish, q⟩
  | ret u => obtain ⟨v, σ', H', I, r, q⟩ := h; exact ⟨v, σ', H', I.unwish, r, q⟩
theorem PSs.nox {st : List Stmt} {t : TS} (h : PSs X.nox st t) : PSs X st t := fun pins s σ H D I hw =>
  wpAny_mono (h pins s σ H D (I.wish _) hw) (fun _ _ q => q.unwish) fun _ _ z => False.elim z
end
/-! ### blocks and small statements -/
section
variable {X : Cx} {st : Stmt} {rest : List Stmt} {t u : TS} {e : Expr} {te : TE} {pos : Pos}
def tNext : TS := fun D σ H => D.nx σ H
def tSeq (t u : TS) : TS := fun D σ H => t { D with nx := u D } σ H
theorem pss_nil : PSs X [] tNext := fun _ _ σ H _ I h => wpAny_execs_nil ⟨σ, H, I, h⟩
theorem pss_cons (h1 : PS X st t) (h2 : PSs X rest u) : PSs X (st :: rest) (tSeq t u) := by
  intro pins s σ H D I h
  refine wpAny_execs_cons (thn (h1 pins s σ H { D with nx := u D } I h) fun f s1 q => ?_)
  cases f with
  | next =>
    obtain ⟨σ', H', I', q⟩ := q
    exact h2 pins s1 σ' H' D I' q
  | ret v => exact q
  | brk => exact q
  | cont => exact q
theorem pss_one (h1 : PS X st t) : PSs X [st] t := by
  intro pins s σ H D I h
  refine wpAny_execs_cons (thn (h1 pins s σ H D I h) fun f s1 q => ?_)
  cases f with
  | next => exact wpAny_execs_nil q
  | ret v => exact q
  | brk => exact q
  | cont => exact q
/-- in a def's body nothing is shown -/
theorem Inv.quiet {pins : List (Addr × Obj)} {σ : St} {H : Hp} {s : Shared} (I : Inv X pins σ H s) : interactive X.env = false := by simp [interactive, I.ok.kind]
/-- an expression whose value is dropped -/
def tDrop (te : TE) : TS := fun D σ H => te σ H fun _ H1 => D.nx σ H1
theorem ps_expr (he : PE X e te) (hs : swapsWith e none pos.line X.env = pure false := by rfl) : PS X (.Expr e pos) (tDrop te) := by
  intro pins s σ H D I h
  exact wpAny_Expr_any (thn (he pins s σ H _ I h) fun v s1 ⟨x, H1, I1, r1, q1⟩ => ⟨σ, H1, I1, q1⟩) I.quiet hs
def tRet (te : TE) : TS := fun D σ H => te σ H D.rt
theorem ps_ret (he : PE X e te) : PS X (.Return (some e) pos) (tRet te) := by
  intro pins s σ H D I h
  exact wpAny_Return_some (thn (he pins s σ H _ I h) fun v s1 ⟨x, H1, I1, r1, q1⟩ => ⟨x, σ, H1, I1, r1, q1⟩)
def tIfS (c : TT) (t u : TS) : TS := fun D σ H => c σ H fun b H1 => if b = true then t D σ H1 else u D σ H1
theorem ps_if {c : Expr} {a b : List Stmt} {tc : TT} (hc : PT X c tc) (ha : PSs X a t) (hb : PSs X b u) : PS X (.If c a b pos) (tIfS tc t u) := by
  intro pins s σ H D I h
  refine wpAny_If (thn (hc pins s σ H _ I h) fun d s1 ⟨H1, I1, q1⟩ => ?_)
  cases d with
  | true => exact ha pins s1 σ H1 D I1 q1
  | false => exact hb pins s1 σ H1 D I1 q1
end
/-! ### targets -/
abbrev TG := V → St → Hp → (St → Hp → Prop) → Prop
abbrev TGs := List V → St → Hp → (St → Hp → Prop) → Prop
def PG (X : Cx) (target : Expr) (t : TG) : Prop :=
  ∀ (pins : List (Addr × Obj)) (s : Shared) (σ : St) (H : Hp) (v : V) (u : Value) (Q : St → Hp → Prop), Inv X pins σ H s → RelV v u → t v σ H Q →
    wpAny (model X.prog X.w) X.A (assign target X.env u) (fun _ s' => ∃ σ' H', Inv X pins σ' H' s' ∧ Q σ' H') X.xe s
/-- several targets, one after another -/
def PGs (X : Cx) (ts : List Expr) (t : TGs) : Prop :=
  ∀ (pins : List (Addr × Obj)) (s : Shared) (σ : St) (H : Hp) (vs : List V) (us : List Value) (Q : St → Hp → Prop), Inv X pins σ H s → Vals vs us → t vs σ H Q →
    wpAny (model X.prog X.w) X.A (assignInOrder ((assignEach ts X.env).map (·.2)) us) (fun _ s' => ∃ σ' H', Inv X pins σ' H' s' ∧ Q σ' H') X.xe s
/-- o[i] = v, by values -/
abbrev TSet := V → V → V → Hp → (Hp → Prop) → Prop
def PSet (X : Cx) (t : TSet) : Prop :=
  ∀ (pins : List (Addr × Obj)) (s : Shared) (σ : St) (H : Hp) (o i v : V) (ov iv u : Value) (Q : Hp → Prop), Inv X pins σ H s → RelV o ov → RelV i iv → RelV v u → t o i v H Q →
    wpAny (model X.prog X.w) X.A (setItem ov iv u) (fun _ s' => ∃ H', Inv X pins σ H' s' ∧ Q H') X.xe s
section
variable {X : Cx} {pos : Pos}
def gName (i : Nat) : TG := fun v σ H Q => Q (σ.set i (some v)) H
theorem pg_name {i : Nat} {x : Str} (hN : X.N.Nodup) (hi : X.N[i]? = some x) (hx : Loc X.env.scope x) (hf : X.fn x = true ∨ X.env.scope.names.lookup x = some .local := by first | exact .inl rfl | exact .inr rfl | assumption) : PG X (.Name x pos) (gName i) := by
  intro pins s σ H v u Q I r h
  exact wpAny_assign_Name (store_ok I hN hi hx r (fun s' I' => ⟨_, H, I', h⟩) hf)
def gNil : TGs := fun vs σ H Q => vs = [] ∧ Q σ H
def gCons (t : TG) (u : TGs) : TGs := fun vs σ H Q => ∃ v r, vs = v :: r ∧ t v σ H fun σ' H' => u r σ' H' Q
theorem pgs_nil : PGs X [] gNil := by
  intro pins s σ H vs us Q I r h
  obtain ⟨e, h⟩ := h
  subst e
  cases r
  exact assignInOrder_nil ⟨σ, H, I, h⟩
theorem pgs_cons {e : Expr} {es : List Expr} {t : TG} {u : TGs} (h1 : PG X e t) (h2 : PGs X es u)
    (hs : (assignEach (e :: es) X.env).map (·.2) = assign e X.env :: (assignEach es X.env).map (·.2) := by rfl) : PGs X (e :: es) (gCons t u) := by
  intro pins s σ H vs us Q I r h
  obtain ⟨v, vr, e1, h⟩ := h
  subst e1
  cases r with
  | cons r rr =>
    rw [hs]
    refine assignInOrder_cons (thn (h1 pins s σ H _ _ _ I r h) fun _ s1 ⟨σ1, H1, I1, q1⟩ => ?_)
    exact h2 pins s1 σ1 H1 _ _ Q I1 rr q1
/-- (a, b, ..) = a tuple of that length -/
def gTup (K : PySem.W.Frag) (n : Nat) (t : TGs) : TG := fun v σ H Q => ∃ a xs, v = .ref a ∧ SqT K H a xs ∧ xs.length = n ∧ t xs σ H Q
theorem pg_tup {es : List Expr} {k : Nat} {t : TGs} {n : Nat} (hc : X.calm = true) (h : PGs X es t)
    (hn : (assignEach es X.env).length = n := by rfl) (hst : (assignEach es X.env).findIdx? (·.1) = none := by rfl) : PG X (.Tuple es k pos) (gTup X.K n t) := by
  intro pins s σ H v u Q I r hw
  obtain ⟨a, xs, e1, hq, hl, hw⟩ := hw
  subst e1
  cases r
  obtain ⟨its, rv, ht, hz⟩ := I.tuple hq
  refine assign_Tuple_tuple (I.ok.hd hc) ht (by simp [hn, ← hl, rv.length]) hst fun h' hx => ?_
  have I1 : Inv X pins σ H { s with heap := h' } := I.kept (t' := s.toks) fun b o e => hx b o (Nat.ne_of_lt (Heap.lt_size e)) e
  exact h pins _ σ H xs _ Q I1 (by simpa using rv) hw
/-- o[i] = .. -/
def gSub (to ti : TE) (t : TSet) : TG := fun v σ H Q => to σ H fun o H1 => ti σ H1 fun i H2 => t o i v H2 fun H3 => Q σ H3
theorem pg_sub {o i : Expr} {to ti : TE} {t : TSet} (ho : PE X o to) (hi : PE X i ti) (hs : PSet X t)
    (ha : ∀ v, assign (.Subscript o i pos) X.env v = (do
      let ov ← holding [v] (eval o X.env)
      let iv ← holding [v, ov] (eval i X.env)
      standAt pos
      holding [v, ov, iv] (setItem ov iv v)
      release [v, ov, iv] []) := by intro _; rfl) : PG X (.Subscript o i pos) (gSub to ti t) := by
  intro pins s σ H v u Q I r h
  rw [ha]
  refine wpAny_bind (wpAny_holding (thn (ho pins s σ H _ I h) fun ov s1 ⟨x, H1, I1, r1, q1⟩ => ?_))
  refine wpAny_bind (wpAny_holding (thn (hi pins s1 σ H1 _ I1 q1) fun iv s2 ⟨y, H2, I2, r2, q2⟩ => ?_))
  refine wpAny_bind (wpAny_standAt (wpAny_bind (wpAny_holding (thn (hs pins s2 σ H2 x y v ov iv u _ I2 r1 r2 r q2) fun _ s3 ⟨H3, I3, q3⟩ => ?_))))
  exact wpAny_release ⟨σ, H3, I3, q3⟩
/-- target = value -/
def tAsg (te : TE) (g : TG) : TS := fun D σ H => te σ H fun x H1 => g x σ H1 D.nx
theorem ps_asg {tg e : Expr} {te : TE} {g : TG} (he : PE X e te) (hg : PG X tg g) (hs : swapsWithSole [tg] e pos.line X.env = pure false := by rfl) (hw : swappedStores [tg] e X.env = pure none := by rfl)
    (h1 : (assignEach [tg] X.env).map (·.2) = [assign tg X.env] := by rfl) : PS X (.Assign [tg] e pos) (tAsg te g) := by
  intro pins s σ H D I h
  refine wpAny_Assign_stores (thn (he pins s σ H _ I h) fun v s1 ⟨x, H1, I1, r1, q1⟩ => ?_) hs hw
  rw [h1]
  exact thn (hg pins s1 σ H1 x v _ I1 r1 q1) fun _ s2 q => q
/-- name = value -/
theorem ps_set {i : Nat} {x : Str} {e : Expr} {te : TE} {pos' : Pos} (hN : X.N.Nodup) (hi : X.N[i]? = some x) (hx : Loc X.env.scope x) (he : PE X e te) (hs : swapsWith e (some (.Name x pos')) pos.line X.env = pure false := by rfl) (hf : X.fn x = true ∨ X.env.scope.names.lookup x = some .local := by first | exact .inl rfl | exact .inr rfl | assumption) :
    PS X (.Assign [.Name x pos'] e pos) (tAsg te (gName i)) := by
  intro pins s σ H D I h
  refine wpAny_Assign_Name (thn (he pins s σ H _ I h) fun v s1 ⟨y, H1, I1, r1, q1⟩ => ?_) hs
  exact store_ok I1 hN hi hx r1 (fun s2 I2 => ⟨_, H1, I2, q1⟩) hf
end
/-! ### while -/
section
variable {X : Cx} {pos : Pos}
end
/-! ### what a loop or a comprehension walks -/
/-- at turn i: it yields x (the heap may grow), or it stops -/
structure It where
  go : Nat → Hp → Prop
  yld : Nat → Hp → V → Hp → Prop
  stop : Nat → Hp → Prop
/-- the iterator's own objects may turn: they are not the frame's, not pinned, younger than the entry (or a comprehension's own) -/
def FpOk (X : Cx) (pins : List (Addr × Obj)) (H : Hp) (b : Addr) : Prop :=
  H b = none ∧ b ≠ X.env.locals ∧ b ∉ X.fs ∧ (b ∈ X.ex ∨ X.s_0.heap.objs.size ≤ b) ∧ (∀ x c, X.env.cells.lookup x = some c → c ≠ b) ∧ ∀ p ∈ X.pn ++ pins, p.1 ≠ b
theorem Inv.fpOk {X : Cx} {pins : List (Addr × Obj)} {σ : St} {H H' : Hp} {s : Shared} {b : Addr} (I : Inv X pins σ H s) (hb : s.heap.objs.size ≤ b) (hn : H' b = none) : FpOk X pins H' b := by
  refine ⟨hn, Nat.ne_of_gt (Nat.lt_of_lt_of_le I.lt hb), I.nofs hb, .inr (Nat.le_trans I.sz hb), fun x c e z => ?_, fun p hp z => ?_⟩
  · obtain ⟨v, q⟩ := I.cell x c e
    exact absurd (Nat.lt_of_lt_of_le q.lt (by rw [z]; exact hb)) (Nat.lt_irrefl _)
  · exact absurd (Nat.lt_of_lt_of_le (Heap.lt_size (I.pin p hp).1) (by rw [z]; exact hb)) (Nat.lt_irrefl _)
structure Turn (P : Program) (w : World) (K : PySem.W.Frag) (tg : Expr) (J : It) (fp : List Addr) (it : Addr) (tn : Nat → Heap → Prop) : Prop where
  mem : it ∈ fp
  obj : ∀ i h, tn i h → ∀ b ∈ fp, ∃ o, h.get? b = some o ∧ ∀ v, o.data ≠ .cell v
  keep : ∀ i h h', tn i h → (∀ b ∈ fp, ∀ o, h.get? b = some o → h'.get? b = some o) → tn i h'
  item : ∀ (X : Cx), X.prog = P → X.w = w → X.K = K → X.calm = true → ∀ (i : Nat) (pins : List (Addr × Obj)) (s : Shared) (σ : St) (H : Hp) (E : Value → Shared → Prop), Inv X pins σ H s → (∀ b ∈ fp, FpOk X pins H b) → tn i s.heap → J.go i H →
    wpAny (model P w) X.A (pyNext (.ref it)) (fun r s1 => ∃ u, r = some u ∧
      wpAny (model P w) X.A (letOwnedTupleGo tg (.ref it) u) (fun _ s2 => ∃ x H', Inv X pins σ H' s2 ∧ RelV x u ∧ J.yld i H x H' ∧ tn (i + 1) s2.heap ∧ ∀ b ∈ fp, H' b = none) E s1) E s
  done : ∀ (X : Cx), X.prog = P → X.w = w → X.K = K → X.calm = true → ∀ (i : Nat) (pins : List (Addr × Obj)) (s : Shared) (σ : St) (H : Hp) (E : Value → Shared → Prop), Inv X pins σ H s → (∀ b ∈ fp, FpOk X pins H b) → tn i s.heap → J.stop i H →
    wpAny (model P w) X.A (pyNext (.ref it)) (fun r s1 => r = none ∧ Inv X pins σ H s1) E s
  self : ∀ (A : Around) (i : Nat) (s : Shared) (Q : Value → Shared → Prop) (E : Value → Shared → Prop), tn i s.heap → Q (.ref it) s → wpAny (model P w) A (pyIter (.ref it)) Q E s
abbrev TI := St → Hp → (It → Hp → Prop) → Prop
/-- an iterator has come -/
def PIE (X : Cx) (pins : List (Addr × Obj)) (σ : St) (tg : Expr) (R : It → Hp → Prop) (itv : Value) (s2 : Shared) : Prop :=
  ∃ (it : Addr) (fp : List Addr) (tn : Nat → Heap → Prop) (J : It) (H' : Hp), itv = .ref it ∧ Inv X pins σ H' s2 ∧ Turn X.prog X.w X.K tg J fp it tn ∧ tn 0 s2.heap ∧ (∀ b ∈ fp, FpOk X pins H' b) ∧ R J H'
def PI (X : Cx) (tg iter : Expr) (wi : TI) : Prop :=
  ∀ (pins : List (Addr × Obj)) (s : Shared) (σ : St) (H : Hp) (R : It → Hp → Prop), Inv X pins σ H s → wi σ H R →
    wpAny (model X.prog X.w) X.A (eval iter X.env) (fun v s1 => wpAny (model X.prog X.w) X.A (pyIter v) (PIE X pins σ tg R) X.xe s1) X.xe s

/-- the step ahead of the store is nothing for an iterator that keeps no tuple -/
theorem go_of {M : Model} {A : Around} {E : Value → Shared → Prop} {s : Shared} {tg : Expr} {it : Addr} {u : Value} {o : Obj} {n : String} {vs : Array Value} {Q : Unit → Shared → Prop} (ho : s.heap.get? it = some o) (hc : o.cls = .type n) (hd : o.data = .fields vs)
    (hn : ["enumerate", "zip", "dict_itemiterator", "dict_reverseitemiterator", "odict_iterator", "itertools.zip_longest", "itertools.pairwise"].contains n = false) (hQ : Q () s) : wpAny M A (letOwnedTupleGo tg (.ref it) u) Q E s := by
  unfold letOwnedTupleGo
  cases tg <;> first
    | exact wpAny_pure hQ
    | (cases u <;> first
        | exact wpAny_pure hQ
        | (refine wpAny_bind (wpAny_load ho ?_)
           rw [hc, hd]
           show wpAny M A (if (["enumerate", "zip", "dict_itemiterator", "dict_reverseitemiterator", "odict_iterator", "itertools.zip_longest", "itertools.pairwise"].contains n && vs[0]? == some (rawInt _)) = true then _ else _) Q E s
           rw [if_neg (by intro h; rw [hn, Bool.false_and] at h; cases h)]
           exact wpAny_pure hQ))

/-- the list at a, as it stands at each turn (a loop may append to it) -/
def Itl (K : PySem.W.Frag) (a : Addr) : It :=
  ⟨fun i H => ∃ xs x, SqL K H a xs ∧ xs[i]? = some x, fun i H x H' => H' = H ∧ ∀ xs, SqL K H a xs → xs[i]? = some x, fun i H => ∃ xs, SqL K H a xs ∧ xs.length ≤ i⟩
def Itt (K : PySem.W.Frag) (a : Addr) : It :=
  ⟨fun i H => ∃ xs x, SqT K H a xs ∧ xs[i]? = some x, fun i H x H' => H' = H ∧ ∀ xs, SqT K H a xs → xs[i]? = some x, fun i H => ∃ xs, SqT K H a xs ∧ xs.length ≤ i⟩
/-- lo, lo + 1, .. (n of them) -/
def Itr (lo : Int) (n : Nat) : It := ⟨fun i _ => i < n, fun i H x H' => H' = H ∧ x = .int (lo + i), fun i _ => n ≤ i⟩
theorem turn_list {P : Program} {w : World} {K : PySem.W.Frag} {tg : Expr} (a it : Addr) : Turn P w K tg (Itl K a) [it] it (fun i h => h.IsListIter it a i) where
  mem := by simp
  obj := fun i h st b hb => by
    have e : b = it := by simpa using hb
    subst e
    obtain ⟨o, e, c, d⟩ := st
    exact ⟨o, e, fun v z => by rw [d] at z; cases z⟩
  keep := fun i h h' st k => st.at fun o e => k it (by simp) o e
  item := by
    intro X hP hw hK hc i pins s σ H E I hf st hg
    subst hP hw hK
    obtain ⟨xs, x, hq, hx⟩ := hg
    obtain ⟨its, rv, p, hz⟩ := I.list hq
    obtain ⟨u, hu, ru⟩ := rv.get hx
    obtain ⟨f0, f1, f2, f3, f4, f5⟩ := hf it (by simp)
    refine wpAny_pyNext_list_item st p.isList (x := u) (by simpa using hu) fun h' st' sb => ?_
    have I1 : Inv X pins σ H { s with heap := h' } := I.turned (t' := s.toks) (fun b o hb e => (sb.2 b hb).trans e) f0 f1 f3 f4 f5
    obtain ⟨o, e, c, d⟩ := id st'
    exact ⟨u, rfl, go_of (s := { s with heap := h' }) e c d (by decide) ⟨x, H, I1, ru, ⟨rfl, fun ys hy => by rw [I.list_inj hy hq]; exact hx⟩, st', fun b hb => (hf b hb).1⟩⟩
  done := by
    intro X hP hw hK hc i pins s σ H E I hf st hg
    subst hP hw hK
    obtain ⟨xs, hq, hx⟩ := hg
    obtain ⟨its, rv, p, hz⟩ := I.list hq
    obtain ⟨f0, f1, f2, f3, f4, f5⟩ := hf it (by simp)
    have hl := rv.length
    exact wpAny_pyNext_list_end (I.ok.hd hc) st p.isList (by simp; omega) fun h' eb => ⟨rfl, I.turned (t' := s.toks) (fun b o hb e => eb b o hb e) f0 f1 f3 f4 f5⟩
  self := fun _ _ _ _ _ st h => wpAny_pyIter_listiter st h
theorem turn_tuple {P : Program} {w : World} {K : PySem.W.Frag} {tg : Expr} (a it : Addr) : Turn P w K tg (Itt K a) [it] it (fun i h => h.IsTupleIter it a i) where
  mem := by simp
  obj := fun i h st b hb => by
    have e : b = it := by simpa using hb
    subst e
    obtain ⟨o, e, c, d⟩ := st
    exact ⟨o, e, fun v z => by rw [d] at z; cases z⟩
  keep := fun i h h' st k => st.at fun o e => k it (by simp) o e
  item := by
    intro X hP hw hK hc i pins s σ H E I hf st hg
    subst hP hw hK
    obtain ⟨xs, x, hq, hx⟩ := hg
    obtain ⟨its, rv, p, hz⟩ := I.tuple hq
    obtain ⟨u, hu, ru⟩ := rv.get hx
    obtain ⟨f0, f1, f2, f3, f4, f5⟩ := hf it (by simp)
    refine wpAny_pyNext_tuple_item st (show s.heap.IsTuple a its.toArray from p) (x := u) (by simpa using hu) fun h' st' sb => ?_
    have I1 : Inv X pins σ H { s with heap := h' } := I.turned (t' := s.toks) (fun b o hb e => (sb.2 b hb).trans e) f0 f1 f3 f4 f5
    obtain ⟨o, e, c, d⟩ := id st'
    exact ⟨u, rfl, go_of (s := { s with heap := h' }) e c d (by decide) ⟨x, H, I1, ru, ⟨rfl, fun ys hy => by rw [I.tuple_inj hy hq]; exact hx⟩, st', fun b hb => (hf b hb).1⟩⟩
  done := by
    intro X hP hw hK hc i pins s σ H E I hf st hg
    subst hP hw hK
    obtain ⟨xs, hq, hx⟩ := hg
    obtain ⟨its, rv, p, hz⟩ := I.tuple hq
    obtain ⟨f0, f1, f2, f3, f4, f5⟩ := hf it (by simp)
    have hl := rv.length
    exact wpAny_pyNext_tuple_end (I.ok.hd hc) st (show s.heap.IsTuple a its.toArray from p) (by simp; omega) fun h' eb => ⟨rfl, I.turned (t' := s.toks) (fun b o hb e => eb b o hb e) f0 f1 f3 f4 f5⟩
  self := fun _ _ _ _ _ st h => wpAny_pyIter_tupleiter st h
theorem turn_range {P : Program} {w : World} {K : PySem.W.Frag} {tg : Expr} (it : Addr) (lo : Int) (n : Nat) : Turn P w K tg (Itr lo n) [it] it (fun i h => IsRangeIter h it (lo + (i : Nat) * 1) ((n : Int) - (i : Nat)) 1) where
  mem := by simp
  obj := fun i h st b hb => by
    have e : b = it := by simpa using hb
    subst e
    exact ⟨_, st, fun v z => by
      have z' : Data.fields _ = Data.cell v := z
      cases z'⟩
  keep := fun i h h' st k => k it (by simp) _ st
  item := by
    intro X hP hw hK hc i pins s σ H E I hf st hg
    subst hP hw hK
    obtain ⟨f0, f1, f2, f3, f4, f5⟩ := hf it (by simp)
    have W := Walks.range (prog := X.prog) (w := X.w) (I.ok.hd hc) it lo 1 n
    refine W.item i s _ _ hg st fun v h' tk hv st' kk => ?_
    obtain ⟨t, rfl⟩ := hv
    have I1 : Inv X pins σ H { s with heap := h', toks := tk } := I.turned (fun b o hb e => kk b o (by simpa using hb) e) f0 f1 f3 f4 f5
    refine ⟨_, rfl, go_of (s := { s with heap := h', toks := tk }) (n := "range_iterator") st' rfl rfl (by decide) ⟨.int (lo + i), H, I1, ⟨t, ?_⟩, ⟨rfl, rfl⟩, st', fun b hb => (hf b hb).1⟩⟩
    rw [Int.mul_one]
  done := by
    intro X hP hw hK hc i pins s σ H E I hf st hg
    subst hP hw hK
    obtain ⟨f0, f1, f2, f3, f4, f5⟩ := hf it (by simp)
    exact wpAny_pyNext_range_end (I.ok.hd hc) st (by have : n ≤ i := hg; omega) fun h' eb => ⟨rfl, I.turned (t' := s.toks) (fun b o hb e => eb b o hb e) f0 f1 f3 f4 f5⟩
  self := fun _ _ _ _ _ st h => wpAny_pyIter_rangeiter st h
end L2
namespace L2
open PySem PySem.Spec PyProof.Rows
section
variable {X : Cx} {tg : Expr}
def iTup (K : PySem.W.Frag) (tl : TE) : TI := fun σ H R => tl σ H fun x H1 => ∃ a, x = .ref a ∧ (∃ xs, SqT K H1 a xs) ∧ R (Itt K a) H1
theorem pi_tup {l : Expr} {tl : TE} (hl : PE X l tl) : PI X tg l (iTup X.K tl) := by
  intro pins s σ H R I h
  refine thn (hl pins s σ H _ I h) fun v s1 ⟨x, H1, I1, r1, q1⟩ => ?_
  obtain ⟨a, e, ⟨xs, hq⟩, q⟩ := q1
  subst e
  cases r1
  obtain ⟨its, rv, p, hz⟩ := I1.tuple hq
  refine wpAny_pyIter_tuple (show s1.heap.IsTuple a its.toArray from p) ?_
  refine ⟨s1.heap.objs.size, [s1.heap.objs.size], _, _, H1, rfl, I1.kept (t' := s1.toks) fun b o e => Heap.get?_push_of_some _ e, turn_tuple a _, ⟨_, Heap.get?_push_size _ rfl, rfl, rfl⟩, fun b hb => ?_, q⟩
  have e : b = s1.heap.objs.size := by simpa using hb
  subst e
  exact I1.fpOk (Nat.le_refl _) (I1.hok.fresh (Nat.le_refl _))
/-- a range object just made, walked -/
theorem range_it {pins : List (Addr × Obj)} {σ : St} {H : Hp} {s : Shared} {R : It → Hp → Prop} {E : Value → Shared → Prop} {lo hi : Int} {t u v : Tok} {tk : Nat} (I : Inv X pins σ H s) (h1 : -(2 ^ 62) ≤ lo) (h2 : lo < 2 ^ 62) (h3 : -(2 ^ 62) ≤ hi) (h4 : hi < 2 ^ 62)
    (q : R (Itr lo (hi - lo).toNat) H) : wpAny (model X.prog X.w) X.A (pyIter (.ref s.heap.objs.size)) (PIE X pins σ tg R) E { s with heap := s.heap.push { cls := .type "range", data := .fields #[.int lo t, .int hi u, .int 1 v] }, toks := tk } := by
  refine wpAny_pyIter_range (IsRange.new ..) (small_one h1 h2 h3 h4) ?_
  have I1 : Inv X pins σ H { s with heap := s.heap.push { cls := .type "range", data := .fields #[.int lo t, .int hi u, .int 1 v] }, toks := tk } := I.kept fun b o e => Heap.get?_push_of_some _ e
  refine ⟨(s.heap.push { cls := .type "range", data := .fields #[.int lo t, .int hi u, .int 1 v] }).objs.size, [(s.heap.push { cls := .type "range", data := .fields #[.int lo t, .int hi u, .int 1 v] }).objs.size], _, _, H, rfl,
    I1.kept (t' := tk) fun b o e => Heap.get?_push_of_some _ e, turn_range _ lo (hi - lo).toNat, ?_, fun b hb => ?_, q⟩
  · have e1 : lo + ((0 : Nat) : Int) * 1 = lo := by simp
    have e2 : (((hi - lo).toNat : Nat) : Int) - ((0 : Nat) : Int) = Builtin.Range.rangeSize lo hi 1 := by rw [rangeSize_one]; split <;> omega
    show IsRangeIter _ _ (lo + ((0 : Nat) : Int) * 1) ((((hi - lo).toNat : Nat) : Int) - ((0 : Nat) : Int)) 1
    rw [e1, e2]
    exact Heap.get?_push_size _ rfl
  · have e : b = (s.heap.push { cls := .type "range", data := .fields #[.int lo t, .int hi u, .int 1 v] }).objs.size := by simpa using hb
    subst e
    exact I1.fpOk (Nat.le_refl _) (I1.hok.fresh (Nat.le_refl _))
def iRng1 (ta : TA) : TI := fun σ H R => ta σ H fun vs H1 => ∃ j : Int, vs = [.int j] ∧ -(2 ^ 62) ≤ j ∧ j < 2 ^ 62 ∧ R (Itr 0 j.toNat) H1
theorem pi_range1 {a : Expr} {ta : TA} {p pos : Pos} (hg : Gl X "range") (hm : X.mg "range" = none) (ha : PA X [a] ta) (hs : starEach [a] X.env = [(false, eval a X.env)] := by rfl) : PI X tg (.Call (.Name "range" p) [a] [] pos) (iRng1 ta) := by
  intro pins s σ H R I h
  refine Call_ (ld_blt I hg hm boot_range (PyProof.Rows.callWith_type1 (thn (ha pos pins s σ H _ I h) fun us s1 ⟨vs, H1, I1, r1, q1⟩ => ?_) hs rfl))
  obtain ⟨j, e, q1, q2, q⟩ := q1
  subst e
  cases r1 with
  | cons r rr =>
    cases rr
    obtain ⟨t, rfl⟩ := r
    exact call_range_1 (range_it I1 (by omega) (by omega) q1 q2 (by simpa using q))
/-! ### for -/
/-- W: the invariant by the turn and a measure; N: what the body is to reach -/
def tFor (wi : TI) (g : TG) (tb : TS) : TS := fun D σ H => wi σ H fun J H1 => ∃ W : Nat → Nat → St → Hp → Prop, (∃ m, W 0 m σ H1) ∧ ∀ i m σ H, W i m σ H →
  (J.stop i H ∧ D.nx σ H) ∨ (J.go i H ∧ ∃ N : St → Hp → Prop, (∀ σ' H', N σ' H' → ∃ m', m' < m ∧ W (i + 1) m' σ' H') ∧ ∀ x H', J.yld i H x H' → g x σ H' fun σ2 H2 => tb { D with nx := N, ct := N, bk := D.nx } σ2 H2)
/-- the records at fp as they stand -/
def pinsAt (fp : List Addr) (h : Heap) : List (Addr × Obj) := fp.filterMap fun b => (h.get? b).map fun o => (b, o)
theorem mem_pinsAt {fp : List Addr} {h : Heap} {b : Addr} {o : Obj} (hb : b ∈ fp) (e : h.get? b = some o) : (b, o) ∈ pinsAt fp h := List.mem_filterMap.mpr ⟨b, hb, by rw [e]; rfl⟩
theorem of_pinsAt {fp : List Addr} {h : Heap} {p : Addr × Obj} (hp : p ∈ pinsAt fp h) : p.1 ∈ fp ∧ h.get? p.1 = some p.2 := by
  obtain ⟨b, hb, e⟩ := List.mem_filterMap.mp hp
  cases q : h.get? b with
  | none => rw [q] at e; cases e
  | some o =>
    rw [q] at e
    have e' : (b, o) = p := Option.some.inj e
    subst e'
    exact ⟨hb, q⟩
theorem Inv.pinned {pins : List (Addr × Obj)} {σ : St} {H : Hp} {s : Shared} {fp : List Addr} (I : Inv X pins σ H s) (hf : ∀ b ∈ fp, FpOk X pins H b) (ho : ∀ b ∈ fp, ∃ o, s.heap.get? b = some o ∧ ∀ v, o.data ≠ .cell v) : Inv X (pins ++ pinsAt fp s.heap) σ H s :=
  I.pins_of fun p hp => (List.mem_append.mp hp).elim (fun z => I.pin p (List.mem_append_right _ z)) fun z => by
    obtain ⟨hb, e⟩ := of_pinsAt z
    obtain ⟨f0, f1, f2, _⟩ := hf p.1 hb
    obtain ⟨o, e', d⟩ := ho p.1 hb
    rw [e] at e'; cases e'
    exact ⟨e, f0, f1, f2, d⟩
theorem Inv.unpinned {pins pl : List (Addr × Obj)} {σ : St} {H : Hp} {s : Shared} (I : Inv X (pins ++ pl) σ H s) : Inv X pins σ H s := I.pins_of fun p hp => I.pin p (List.mem_append_right _ (List.mem_append_left _ hp))
theorem ps_for {iter : Expr} {body : List Stmt} {wi : TI} {g : TG} {tb : TS} {pos : Pos} (hp : PassesOwn (model X.prog X.w) X.A X.env X.xe) (hc : X.calm = true) (hi : PI X tg iter wi) (hg : PG X tg g) (hb : PSs X body tb)
    (hs : ∀ x, foldedSetIterable iter X.env x = pure x := by intro _; rfl) : PS X (.For tg iter body [] pos) (tFor wi g tb) := by
  intro pins s σ H D I h
  refine wpAny_For (thn (hi pins s σ H _ I h) fun v s1 h1 => thn h1 fun itv s2 h2 => ?_) hs
  obtain ⟨it, fp, tn, J, H2, e, I2, T, st2, f2, W, ⟨m0, w0⟩, turn⟩ := h2
  subst e
  -- what stays true of the iterator's objects through the loop
  have stat : ∀ {H' : Hp}, (∀ b ∈ fp, H' b = none) → ∀ b ∈ fp, FpOk X pins H' b := fun hn b hb => ⟨hn b hb, (f2 b hb).2⟩
  refine codeAny_forLoop_any (fun n s' => ∃ i σ' H', Inv X pins σ' H' s' ∧ tn i s'.heap ∧ (∀ b ∈ fp, H' b = none) ∧ W i n σ' H') ?_ m0 ⟨0, σ, H2, I2, st2, fun b hb => (f2 b hb).1, w0⟩
  rintro n s3 ⟨i, σ3, H3, I3, st3, fr3, w3⟩
  rcases turn i n σ3 H3 w3 with ⟨stop, qn⟩ | ⟨go, N, hN, step⟩
  · refine wpAny_passesOwn hp (thn (T.done X rfl rfl rfl hc i pins s3 σ3 H3 X.xe I3 (stat fr3) st3 stop) fun r s4 ⟨hr, I4⟩ => ?_)
    subst hr
    exact wpAny_execs_nil ⟨σ3, H3, I4, qn⟩
  · refine wpAny_passesOwn hp (thn (T.item X rfl rfl rfl hc i pins s3 σ3 H3 X.xe I3 (stat fr3) st3 go) fun r s4 ⟨u, hr, h4⟩ => ?_)
    subst hr
    refine wpAny_passesOwn hp (thn h4 fun _ s5 ⟨x, H5, I5, r5, y5, st5, fr5⟩ => ?_)
    have I5' := I5.pinned (stat fr5) (T.obj _ _ st5)
    refine wpAny_passesOwn hp (thn (hg _ s5 σ3 H5 x u _ I5' r5 (step x H5 y5)) fun _ s6 ⟨σ6, H6, I6, q6⟩ => ?_)
    refine wpAny_passesOwn hp (thn (hb _ s6 σ6 H6 _ I6 q6) fun f s7 q7 => ?_)
    have again : ∀ {σ7 : St} {H7 : Hp}, Inv X (pins ++ pinsAt fp s5.heap) σ7 H7 s7 → N σ7 H7 → ∃ m, m < n ∧ ∃ i σ' H', Inv X pins σ' H' s7 ∧ tn i s7.heap ∧ (∀ b ∈ fp, H' b = none) ∧ W i m σ' H' := fun {σ7 H7} I7 n7 => by
      obtain ⟨m', hm, w7⟩ := hN σ7 H7 n7
      refine ⟨m', hm, i + 1, σ7, H7, I7.unpinned, T.keep _ _ _ st5 fun b hb o e => (I7.pin (b, o) (List.mem_append_right _ (List.mem_append_right _ (mem_pinsAt hb e)))).1, fun b hb => ?_, w7⟩
      obtain ⟨o, e, d⟩ := T.obj _ _ st5 b hb
      exact (I7.pin (b, o) (List.mem_append_right _ (List.mem_append_right _ (mem_pinsAt hb e)))).2.1
    cases f with
    | next => obtain ⟨σ7, H7, I7, n7⟩ := q7; exact again I7 n7
    | cont => obtain ⟨σ7, H7, I7, n7⟩ := q7; exact again I7 n7
    | brk => obtain ⟨σ7, H7, I7, q7⟩ := q7; exact ⟨σ7, H7, I7.unpinned, q7⟩
    | ret v => obtain ⟨x7, σ7, H7, I7, r7, q7⟩ := q7; exact ⟨x7, σ7, H7, I7.unpinned, r7, q7⟩
end
/-! ### the forms one uses -/
/-- over a list that the body leaves as it is -/
theorem for_list {K : PySem.W.Frag} {a : Addr} {xs : List V} {g : TG} {tb : TS} {D : Ends} {σ : St} {H : Hp} (Pv : Nat → St → Hp → Prop) (h0 : Pv 0 σ H) (hl : ∀ i σ H, i ≤ xs.length → Pv i σ H → SqL K H a xs)
    (hs : ∀ i x σ H, xs[i]? = some x → Pv i σ H → g x σ H fun σ2 H2 => tb { D with nx := Pv (i + 1), ct := Pv (i + 1), bk := D.nx } σ2 H2) (hd : ∀ σ H, Pv xs.length σ H → D.nx σ H) :
    ∃ W : Nat → Nat → St → Hp → Prop, (∃ m, W 0 m σ H) ∧ ∀ i m σ H, W i m σ H →
      ((Itl K a).stop i H ∧ D.nx σ H) ∨ ((Itl K a).go i H ∧ ∃ N : St → Hp → Prop, (∀ σ' H', N σ' H' → ∃ m', m' < m ∧ W (i + 1) m' σ' H') ∧ ∀ x H', (Itl K a).yld i H x H' → g x σ H' fun σ2 H2 => tb { D with nx := N, ct := N, bk := D.nx } σ2 H2) := by
  refine ⟨fun i m σ H => m = xs.length - i ∧ i ≤ xs.length ∧ Pv i σ H, ⟨xs.length, by simp, Nat.zero_le _, h0⟩, ?_⟩
  rintro i m σ H ⟨rfl, hi, p⟩
  have q := hl i σ H hi p
  by_cases hlt : i < xs.length
  · refine .inr ⟨⟨xs, xs[i], q, by simp [hlt]⟩, Pv (i + 1), fun σ' H' p' => ⟨xs.length - (i + 1), by omega, rfl, hlt, p'⟩, fun x H' y => ?_⟩
    obtain ⟨e, y⟩ := y
    subst e
    exact hs i x σ _ (y xs q) p
  · have e : i = xs.length := by omega
    subst e
    exact .inl ⟨⟨xs, q, Nat.le_refl _⟩, hd σ H p⟩
theorem for_range {lo : Int} {n : Nat} {g : TG} {tb : TS} {D : Ends} {σ : St} {H : Hp} (Pv : Nat → St → Hp → Prop) (h0 : Pv 0 σ H)
    (hs : ∀ i σ H, i < n → Pv i σ H → g (.int (lo + i)) σ H fun σ2 H2 => tb { D with nx := Pv (i + 1), ct := Pv (i + 1), bk := D.nx } σ2 H2) (hd : ∀ σ H, Pv n σ H → D.nx σ H) :
    ∃ W : Nat → Nat → St → Hp → Prop, (∃ m, W 0 m σ H) ∧ ∀ i m σ H, W i m σ H →
      ((Itr lo n).stop i H ∧ D.nx σ H) ∨ ((Itr lo n).go i H ∧ ∃ N : St → Hp → Prop, (∀ σ' H', N σ' H' → ∃ m', m' < m ∧ W (i + 1) m' σ' H') ∧ ∀ x H', (Itr lo n).yld i H x H' → g x σ H' fun σ2 H2 => tb { D with nx := N, ct := N, bk := D.nx } σ2 H2) := by
  refine ⟨fun i m σ H => m = n - i ∧ i ≤ n ∧ Pv i σ H, ⟨n, by simp, Nat.zero_le _, h0⟩, ?_⟩
  rintro i m σ H ⟨rfl, hi, p⟩
  by_cases hlt : i < n
  · refine .inr ⟨hlt, Pv (i + 1), fun σ' H' p' => ⟨n - (i + 1), by omega, rfl, hlt, p'⟩, fun x H' y => ?_⟩
    obtain ⟨e, y⟩ := y
    subst e y
    exact hs i σ _ hlt p
  · have e : i = n := by omega
    subst e
    exact .inl ⟨Nat.le_refl _, hd σ H p⟩
end L2
namespace L2
open PySem PySem.Spec PyProof.Rows
abbrev R2 := V → V → Hp → VK → Prop
/-- a two-place operation on values: f is binaryOp op, inplaceOp op or compareOp op -/
def OpR (X : Cx) (f : Value → Value → Sem Value) (r : R2) : Prop :=
  ∀ (pins : List (Addr × Obj)) (s : Shared) (σ : St) (H : Hp) (x y : V) (v u : Value) (Q : VK), Inv X pins σ H s → RelV x v → RelV y u → r x y H Q →
    wpAny (model X.prog X.w) X.A (f v u) (EP X pins σ Q) X.xe s
/-- a one-place operation -/
def UnR (X : Cx) (f : Value → Sem Value) (r : V → Hp → VK → Prop) : Prop :=
  ∀ (pins : List (Addr × Obj)) (s : Shared) (σ : St) (H : Hp) (x : V) (v : Value) (Q : VK), Inv X pins σ H s → RelV x v → r x H Q →
    wpAny (model X.prog X.w) X.A (f v) (EP X pins σ Q) X.xe s
/-- a call of a value that is known (a builtin, a type) with values -/
def CallR (X : Cx) (f : Value) (r : List V → Hp → VK → Prop) : Prop :=
  ∀ (pins : List (Addr × Obj)) (s : Shared) (σ : St) (H : Hp) (xs : List V) (us : List Value) (Q : VK), Inv X pins σ H s → Vals xs us → r xs H Q →
    wpAny (model X.prog X.w) X.A (call f us) (EP X pins σ Q) X.xe s
def tOp (r : R2) (ta tb : TE) : TE := fun σ H Q => ta σ H fun x H1 => tb σ H1 fun y H2 => r x y H2 Q
def tUn (r : V → Hp → VK → Prop) (ta : TE) : TE := fun σ H Q => ta σ H fun x H1 => r x H1 Q
/-- ints in, under C, and a value out -/
def rI (C : Int → Int → Prop) (g : Int → Int → V) : R2 := fun x y H Q => ∃ i j, x = .int i ∧ y = .int j ∧ C i j ∧ Q (g i j) H
def rI0 (g : Int → Int → V) : R2 := fun x y H Q => ∃ i j, x = .int i ∧ y = .int j ∧ Q (g i j) H
def rU (g : Int → V) : V → Hp → VK → Prop := fun x H Q => ∃ i, x = .int i ∧ Q (g i) H

section
variable {X : Cx} {a b c : Expr} {ta tb tc : TE} {pos : Pos}
theorem binT (ha : PE X a ta) (hb : PE X b tb) {pins : List (Addr × Obj)} {s : Shared} {σ : St} {H : Hp} {R : V → V → Hp → Prop} (I : Inv X pins σ H s)
    (h : ta σ H fun x H1 => tb σ H1 fun y H2 => R x y H2) {Q : Value → Shared → Prop} {f : Value → Value → Sem Value}
    (hf : ∀ v u s2 x y H2, Inv X pins σ H2 s2 → RelV x v → RelV y u → R x y H2 → wpAny (model X.prog X.w) X.A (f v u) Q X.xe s2) :
    wpAny (model X.prog X.w) X.A (eval a X.env) (fun v s₁ => wpAny (model X.prog X.w) X.A (eval b X.env) (fun u s₂ => wpAny (model X.prog X.w) X.A (f v u) Q X.xe s₂) X.xe s₁) X.xe s := by
  refine thn (ha pins s σ H _ I h) fun v s1 ⟨x, H1, I1, r1, q1⟩ => ?_
  refine thn (hb pins s1 σ H1 _ I1 q1) fun u s2 ⟨y, H2, I2, r2, q2⟩ => ?_
  exact hf v u s2 x y H2 I2 r1 r2 q2

theorem pe_op {op : Operator} {r : R2} (ho : OpR X (binaryOp op) r) (ha : PE X a ta) (hb : PE X b tb) : PE X (.BinOp a op b pos) (tOp r ta tb) := by
  intro pins s σ H Q I h
  exact wpAny_BinOp (binT ha hb I h fun v u s2 x y H2 I2 rx ry q => ho pins s2 σ H2 x y v u Q I2 rx ry q)
theorem pe_un {op : UnaryOp} {r : V → Hp → VK → Prop} (ho : UnR X (unaryOp op) r) (ha : PE X a ta) : PE X (.UnaryOp op a pos) (tUn r ta) := by
  intro pins s σ H Q I h
  exact UnaryOp_ (thn (ha pins s σ H _ I h) fun v s1 ⟨x, H1, I1, r1, q1⟩ => ho pins s1 σ H1 x v Q I1 r1 q1)
/-! ### ints -/
theorem opI {f : Value → Value → Sem Value} {C : Int → Int → Prop} {g : Int → Int → Int}
    (rule : ∀ (i j : Int) (t u : Tok) (s : Shared) (Q : Value → Shared → Prop) (E : Value → Shared → Prop), C i j → Q (.int (g i j) s.toks) { s with toks := s.toks + 1 } → wpAny (model X.prog X.w) X.A (f (.int i t) (.int j u)) Q E s) :
    OpR X f (rI C fun i j => .int (g i j)) := by
  intro pins s σ H x y v u Q I rx ry h
  obtain ⟨i, j, rfl, rfl, hc, q⟩ := h
  obtain ⟨t, rfl⟩ := rx
  obtain ⟨t', rfl⟩ := ry
  exact rule i j t t' s _ _ hc ⟨.int (g i j), H, I.tok _, ⟨_, rfl⟩, q⟩
theorem opI0 {f : Value → Value → Sem Value} {g : Int → Int → Int}
    (rule : ∀ (i j : Int) (t u : Tok) (s : Shared) (Q : Value → Shared → Prop) (E : Value → Shared → Prop), Q (.int (g i j) s.toks) { s with toks := s.toks + 1 } → wpAny (model X.prog X.w) X.A (f (.int i t) (.int j u)) Q E s) :
    OpR X f (rI0 fun i j => .int (g i j)) := by
  intro pins s σ H x y v u Q I rx ry h
  obtain ⟨i, j, rfl, rfl, q⟩ := h
  obtain ⟨t, rfl⟩ := rx
  obtain ⟨t', rfl⟩ := ry
  exact rule i j t t' s _ _ ⟨.int (g i j), H, I.tok _, ⟨_, rfl⟩, q⟩
theorem opB0 {f : Value → Value → Sem Value} {g : Int → Int → Bool}
    (rule : ∀ (i j : Int) (t u : Tok) (s : Shared) (Q : Value → Shared → Prop) (E : Value → Shared → Prop), Q (.bool (g i j)) s → wpAny (model X.prog X.w) X.A (f (.int i t) (.int j u)) Q E s) :
    OpR X f (rI0 fun i j => .bl (g i j)) := by
  intro pins s σ H x y v u Q I rx ry h
  obtain ⟨i, j, rfl, rfl, q⟩ := h
  obtain ⟨t, rfl⟩ := rx
  obtain ⟨t', rfl⟩ := ry
  exact rule i j t t' s _ _ ⟨.bl (g i j), H, I, rfl, q⟩

def CDiv (i j : Int) : Prop := 0 < j ∧ j < 1073741824
def CPow (i j : Int) : Prop := 0 ≤ j ∧ j ≤ 1000000 ∧ i.natAbs < 2 ^ 64
def CMul (i j : Int) : Prop := (-(2 ^ 64) < i ∧ i < 2 ^ 64) ∨ (-(2 ^ 64) < j ∧ j < 2 ^ 64)
theorem CMul.ok {i j : Int} (h : CMul i j) : IntMulOk i j := by
  rcases h with ⟨h1, h2⟩ | ⟨h1, h2⟩
  · exact .of_left (intBits_le_64 h1 h2)
  · exact .of_right (intBits_le_64 h1 h2)
theorem op_add : OpR X (binaryOp .Add) (rI0 fun i j => .int (i + j)) := opI0 fun _ _ _ _ _ _ _ q => add_int q
theorem op_sub : OpR X (binaryOp .Sub) (rI0 fun i j => .int (i - j)) := opI0 fun _ _ _ _ _ _ _ q => sub_int q
theorem op_mul : OpR X (binaryOp .Mult) (rI CMul fun i j => .int (i * j)) := opI fun _ _ _ _ _ _ _ hc q => mul_int q hc.ok
/-- // by a positive divisor -/
theorem op_fdiv : OpR X (binaryOp .FloorDiv) (rI CDiv fun i j => .int (i / j)) := opI fun i j _ _ _ _ _ hc q => by
  have h1 : (0 : Int) < j := hc.1
  have h2 : j < 1073741824 := hc.2
  exact floordiv_int (by omega) (by rw [Int.fdiv_eq_ediv_of_nonneg i (by omega)]; exact q) (.inl (PyProof.noPylong_small (by omega)))
/-- % by a positive divisor of any size -/
theorem op_mod : OpR X (binaryOp .Mod) (rI (fun _ j => 0 < j) fun i j => .int (i % j)) := opI fun i j _ _ _ _ _ hc q => by
  have h1 : (0 : Int) < j := hc
  exact mod_int' (by omega) (by rw [Int.fmod_eq_emod_of_nonneg i (by omega)]; exact q)
theorem op_pow : OpR X (binaryOp .Pow) (rI CPow fun i j => .int (i ^ j.toNat)) := opI fun _ _ _ _ _ _ _ hc q => pow_int_small hc.1 hc.2.1 hc.2.2 q
theorem unI {f : Value → Sem Value} {g : Int → Int}
    (rule : ∀ (i : Int) (t : Tok) (s : Shared) (Q : Value → Shared → Prop) (E : Value → Shared → Prop), Q (.int (g i) s.toks) { s with toks := s.toks + 1 } → wpAny (model X.prog X.w) X.A (f (.int i t)) Q E s) :
    UnR X f (rU fun i => .int (g i)) := by
  intro pins s σ H x v Q I rx h
  obtain ⟨i, rfl, q⟩ := h
  obtain ⟨t, rfl⟩ := rx
  exact rule i t s _ _ ⟨.int (g i), H, I.tok _, ⟨_, rfl⟩, q⟩
theorem un_neg : UnR X (unaryOp .USub) (rU fun i => .int (-i)) := unI fun _ _ _ _ _ q => neg_int q
/-! ### bools among ints: n += (a < b) -/
end
/-! ### comparisons -/
/-- the scalars that == tells apart as data does -/
def scal : V → V → Bool
  | .non, .non => true | .non, .int _ => true | .int _, .non => true | .non, .bl _ => true | .bl _, .non => true | .non, .str _ => true | .str _, .non => true
  | .int _, .int _ => true | .bl _, .bl _ => true | .str _, .str _ => true | .byt _, .byt _ => true
  | .int _, .str _ => true | .str _, .int _ => true | .bl _, .str _ => true | .str _, .bl _ => true
  | _, _ => false
def rEq : R2 := fun x y H Q => scal x y = true ∧ Q (.bl (decide (x = y))) H
def rNe : R2 := fun x y H Q => scal x y = true ∧ Q (.bl (!decide (x = y))) H

theorem dec_int {i j : Int} : decide (V.int i = V.int j) = (i == j) := by
  rw [Bool.eq_iff_iff]
  simp
theorem dec_bl {i j : Bool} : decide (V.bl i = V.bl j) = (i == j) := by
  rw [Bool.eq_iff_iff]
  simp
theorem dec_str {i j : Str} : decide (V.str i = V.str j) = (i == j) := by
  rw [Bool.eq_iff_iff]
  simp
theorem dec_byt {i j : Array UInt8} : decide (V.byt i = V.byt j) = (i.toList == j.toList) := by
  rw [Bool.eq_iff_iff]
  cases i
  cases j
  simp

section
variable {X : Cx} {a b c : Expr} {ta tb tc : TE} {pos : Pos}
theorem fin_bl {pins : List (Addr × Obj)} {σ : St} {H : Hp} {s : Shared} {Q : VK} {k k' : Bool} (I : Inv X pins σ H s) (q : Q (.bl k) H) (e : k = k') : EP X pins σ Q (.bool k') s := by
  subst e
  exact ⟨.bl k, H, I, rfl, q⟩
theorem op_eq : OpR X (compareOp .Eq) rEq := by
  intro pins s σ H x y v u Q I rx ry h
  obtain ⟨hs, q⟩ := h
  cases x with
  | non =>
    cases rx
    cases y with
    | non => cases ry; exact PySem.EqNone.eq_none_none (fin_bl I q (by simp))
    | bl j => cases ry; exact PySem.EqNone.eq_none_bool (fin_bl I q (by simp))
    | int j => obtain ⟨t', rfl⟩ := ry; exact PySem.EqNone.eq_none_int (fin_bl I q (by simp))
    | str j => obtain ⟨t', rfl⟩ := ry; exact PySem.EqNone.eq_none_str (fin_bl I q (by simp))
    | _ => exact absurd (show false = true from hs) Bool.false_ne_true
  | bl i =>
    cases rx
    cases y with
    | non => cases ry; exact PySem.EqNone.eq_bool_none (fin_bl I q (by simp))
    | bl j => cases ry; exact eq_bool (fin_bl I q dec_bl)
    | str j => obtain ⟨t', rfl⟩ := ry; exact PySem.EqMixed.eq_bool_str (fin_bl I q (by simp))
    | _ => exact absurd (show false = true from hs) Bool.false_ne_true
  | int i =>
    obtain ⟨t, rfl⟩ := rx
    cases y with
    | non => cases ry; exact PySem.EqNone.eq_int_none (fin_bl I q (by simp))
    | int j => obtain ⟨t', rfl⟩ := ry; exact eq_int (fin_bl I q dec_int)
    | str j => obtain ⟨t', rfl⟩ := ry; exact PySem.EqMixed.eq_int_str (fin_bl I q (by simp))
    | _ => exact absurd (show false = true from hs) Bool.false_ne_true
  | str i =>
    obtain ⟨t, rfl⟩ := rx
    cases y with
    | non => cases ry; exact PySem.EqNone.eq_str_none (fin_bl I q (by simp))
    | bl j => cases ry; exact PySem.EqMixed.eq_str_bool (fin_bl I q (by simp))
    | int j => obtain ⟨t', rfl⟩ := ry; exact PySem.EqMixed.eq_str_int (fin_bl I q (by simp))
    | str j => obtain ⟨t', rfl⟩ := ry; exact eq_str (fin_bl I q dec_str)
    | _ => exact absurd (show false = true from hs) Bool.false_ne_true
  | byt i =>
    obtain ⟨t, rfl⟩ := rx
    cases y with
    | byt j => obtain ⟨t', rfl⟩ := ry; exact PySem.W.eq_bytes (fin_bl I q dec_byt)
    | _ => exact absurd (show false = true from hs) Bool.false_ne_true
  | _ => cases y <;> exact absurd (show false = true from hs) Bool.false_ne_true
theorem op_ne : OpR X (compareOp .NotEq) rNe := by
  intro pins s σ H x y v u Q I rx ry h
  obtain ⟨hs, q⟩ := h
  cases x with
  | non =>
    cases rx
    cases y with
    | non => cases ry; exact PySem.EqNone.ne_none_none (fin_bl I q (by simp))
    | bl j => cases ry; exact PySem.EqNone.ne_none_bool (fin_bl I q (by simp))
    | int j => obtain ⟨t', rfl⟩ := ry; exact PySem.EqNone.ne_none_int (fin_bl I q (by simp))
    | str j => obtain ⟨t', rfl⟩ := ry; exact PySem.EqNone.ne_none_str (fin_bl I q (by simp))
    | _ => exact absurd (show false = true from hs) Bool.false_ne_true
  | bl i =>
    cases rx
    cases y with
    | non => cases ry; exact PySem.EqNone.ne_bool_none (fin_bl I q (by simp))
    | bl j => cases ry; exact ne_bool (fin_bl I q (congrArg not dec_bl))
    | str j => obtain ⟨t', rfl⟩ := ry; exact PySem.EqMixed.ne_bool_str (fin_bl I q (by simp))
    | _ => exact absurd (show false = true from hs) Bool.false_ne_true
  | int i =>
    obtain ⟨t, rfl⟩ := rx
    cases y with
    | non => cases ry; exact PySem.EqNone.ne_int_none (fin_bl I q (by simp))
    | int j => obtain ⟨t', rfl⟩ := ry; exact ne_int (fin_bl I q (congrArg not dec_int))
    | str j => obtain ⟨t', rfl⟩ := ry; exact PySem.EqMixed.ne_int_str (fin_bl I q (by simp))
    | _ => exact absurd (show false = true from hs) Bool.false_ne_true
  | str i =>
    obtain ⟨t, rfl⟩ := rx
    cases y with
    | non => cases ry; exact PySem.EqNone.ne_str_none (fin_bl I q (by simp))
    | bl j => cases ry; exact PySem.EqMixed.ne_str_bool (fin_bl I q (by simp))
    | int j => obtain ⟨t', rfl⟩ := ry; exact PySem.EqMixed.ne_str_int (fin_bl I q (by simp))
    | str j => obtain ⟨t', rfl⟩ := ry; exact ne_str (fin_bl I q (congrArg not dec_str))
    | _ => exact absurd (show false = true from hs) Bool.false_ne_true
  | byt i =>
    obtain ⟨t, rfl⟩ := rx
    cases y with
    | byt j => obtain ⟨t', rfl⟩ := ry; exact PySem.W.ne_bytes (fin_bl I q (congrArg not dec_byt))
    | _ => exact absurd (show false = true from hs) Bool.false_ne_true
  | _ => cases y <;> exact absurd (show false = true from hs) Bool.false_ne_true

theorem op_lt : OpR X (compareOp .Lt) (rI0 fun i j => .bl (decide (i < j))) := opB0 fun _ _ _ _ _ _ _ q => lt_int q
theorem op_le : OpR X (compareOp .LtE) (rI0 fun i j => .bl (decide (i ≤ j))) := opB0 fun _ _ _ _ _ _ _ q => le_int q
theorem op_gt : OpR X (compareOp .Gt) (rI0 fun i j => .bl (decide (j < i))) := opB0 fun _ _ _ _ _ _ _ q => gt_int q
theorem op_ge : OpR X (compareOp .GtE) (rI0 fun i j => .bl (decide (j ≤ i))) := opB0 fun _ _ _ _ _ _ _ q => ge_int q
/-- is None, is not None: the right side a value none -/
theorem op_isN : OpR X (compareOp .Is) (fun x y H Q => y = .non ∧ Q (.bl (decide (x = .non))) H) := by
  intro pins s σ H x y v u Q I rx ry h
  obtain ⟨rfl, q⟩ := h
  cases ry
  refine is_none_gen (fin_bl I q ?_)
  cases x <;> first
    | (cases rx; rfl)
    | (obtain ⟨t, rfl⟩ := rx; rfl)
theorem op_notN : OpR X (compareOp .IsNot) (fun x y H Q => y = .non ∧ Q (.bl (!decide (x = .non))) H) := by
  intro pins s σ H x y v u Q I rx ry h
  obtain ⟨rfl, q⟩ := h
  cases ry
  refine isnot_none_gen (fin_bl I q ?_)
  cases x <;> first
    | (cases rx; rfl)
    | (obtain ⟨t, rfl⟩ := rx; rfl)

theorem nomark (b : Expr) {op : CmpOp} (h : op ≠ .In := by decide) (h2 : op ≠ .NotIn := by decide) : behindInMarks op b = false := by
  have e1 : (op == CmpOp.In) = false := by cases op <;> first | rfl | exact absurd rfl h
  have e2 : (op == CmpOp.NotIn) = false := by cases op <;> first | rfl | exact absurd rfl h2
  cases b <;> simp [behindInMarks, e1, e2]
/-- a comparison as a value; hm: nomark b, or (for in, not in) by with_unfolding_all rfl -/
theorem pe_cmpR {op : CmpOp} {r : R2} (ho : OpR X (compareOp op) r) (ha : PE X a ta) (hb : PE X b tb) (hm : behindInMarks op b = false) : PE X (.Compare a [op] [b] pos) (tOp r ta tb) := by
  intro pins s σ H Q I h
  exact wpAny_Compare1 (binT ha hb I h fun v u s2 x y H2 I2 rx ry q => ho pins s2 σ H2 x y v u Q I2 rx ry q) hm
/-- a reading of a value as a test -/
def tTest (t : TE) : TT := fun σ H Q => t σ H fun x H' => ∃ k, x = .bl k ∧ Q k H'
theorem pt_cmpR {op : CmpOp} {r : R2} (ho : OpR X (compareOp op) r) (ha : PE X a ta) (hb : PE X b tb) (hm : behindInMarks op b = false) : PT X (.Compare a [op] [b] pos) (tTest (tOp r ta tb)) := by
  intro pins s σ H Q I h
  refine wpAny_isTrue_Compare1 (thn (ha pins s σ H _ I h) fun v s1 ⟨x, H1, I1, r1, q1⟩ => thn (hb pins s1 σ H1 _ I1 q1) fun u s2 ⟨y, H2, I2, r2, q2⟩ =>
    thn (ho pins s2 σ H2 x y v u _ I2 r1 r2 q2) fun c s3 ⟨z, H3, I3, r3, k, e, q3⟩ => ?_) hm
  subst e
  cases r3
  exact wpAny_truthy_bool ⟨H3, I3, q3⟩
/-- a op1 b op2 c -/
def tChain (r r' : R2) (ta tb tc : TE) : TE := fun σ H Q => ta σ H fun x H1 => tb σ H1 fun y H2 => r x y H2 fun z H3 => ∃ k, z = .bl k ∧
  (if k = true then tc σ H3 fun w' H4 => r' y w' H4 Q else Q (.bl false) H3)
theorem pe_chain {op op' : CmpOp} {r r' : R2} (ho : OpR X (compareOp op) r) (ho' : OpR X (compareOp op') r') (ha : PE X a ta) (hb : PE X b tb) (hc : PE X c tc)
    (hm : lastMarks [op, op'] [b, c] = false := by with_unfolding_all rfl) : PE X (.Compare a [op, op'] [b, c] pos) (tChain r r' ta tb tc) := by
  intro pins s σ H Q I h
  refine Compare_chain (thn (ha pins s σ H _ I h) fun v s1 ⟨x, H1, I1, r1, q1⟩ => chain_link (thn (hb pins s1 σ H1 _ I1 q1) fun u s2 ⟨y, H2, I2, r2, q2⟩ =>
    thn (ho pins s2 σ H2 x y v u _ I2 r1 r2 q2) fun d s3 ⟨z, H3, I3, r3, k, e, q3⟩ => ?_)) hm
  subst e
  cases r3
  refine wpAny_truthy_bool ?_
  cases k with
  | false => exact ite_ff ⟨.bl false, H3, I3, rfl, q3⟩
  | true => exact ite_tt (chain_last (thn (hc pins s3 σ H3 _ I3 q3) fun w' s4 ⟨z', H4, I4, r4, q4⟩ => ho' pins s4 σ H4 y z' u w' Q I4 r2 r4 q4))
theorem pt_chain {op op' : CmpOp} {r r' : R2} (ho : OpR X (compareOp op) r) (ho' : OpR X (compareOp op') r') (ha : PE X a ta) (hb : PE X b tb) (hc : PE X c tc)
    (hm : lastMarks [op, op'] [b, c] = false := by with_unfolding_all rfl) : PT X (.Compare a [op, op'] [b, c] pos) (tTest (tChain r r' ta tb tc)) := by
  intro pins s σ H Q I h
  refine isTrue_chain (thn (ha pins s σ H _ I h) fun v s1 ⟨x, H1, I1, r1, q1⟩ => test_link (thn (hb pins s1 σ H1 _ I1 q1) fun u s2 ⟨y, H2, I2, r2, q2⟩ =>
    thn (ho pins s2 σ H2 x y v u _ I2 r1 r2 q2) fun d s3 ⟨z, H3, I3, r3, k, e, q3⟩ => ?_)) hm
  subst e
  cases r3
  refine wpAny_truthy_bool ?_
  cases k with
  | false =>
    obtain ⟨k', e', q'⟩ := q3
    cases e'
    exact ite_ff ⟨H3, I3, q'⟩
  | true =>
    refine ite_tt (test_last (thn (hc pins s3 σ H3 _ I3 q3) fun w' s4 ⟨z', H4, I4, r4, q4⟩ => thn (ho' pins s4 σ H4 y z' u w' _ I4 r2 r4 q4) fun d' s5 ⟨z2, H5, I5, r5, k2, e2, q5⟩ => ?_))
    subst e2
    cases r5
    exact wpAny_truthy_bool ⟨H5, I5, q5⟩

/-! ### truth -/
theorem line63 : (sizeLine : Nat) < 2 ^ 63 := by rw [sizeLine_eq]; decide
/-! ### strs and bytes -/
theorem op_add_str : OpR X (binaryOp .Add) (fun x y H Q => ∃ i j, x = .str i ∧ y = .str j ∧ i.length + j.length ≤ sizeLine ∧ Q (.str (i ++ j)) H) := by
  intro pins s σ H x y v u Q I rx ry h
  obtain ⟨i, j, rfl, rfl, hz, q⟩ := h
  obtain ⟨t, rfl⟩ := rx
  obtain ⟨t', rfl⟩ := ry
  exact add_str (fun t' tk => ⟨.str (i ++ j), H, I.tok _, ⟨_, rfl⟩, q⟩) hz
/-! ### scalar builtins, by CallR -/
theorem vals1 {x : V} {us : List Value} (r : Vals [x] us) : ∃ u, us = [u] ∧ RelV x u := by
  cases r with
  | cons r1 r2 => cases r2; exact ⟨_, rfl, r1⟩
theorem vals2 {x y : V} {us : List Value} (r : Vals [x, y] us) : ∃ u w', us = [u, w'] ∧ RelV x u ∧ RelV y w' := by
  cases r with
  | cons r1 r2 =>
    cases r2 with
    | cons r3 r4 => cases r4; exact ⟨_, _, rfl, r1, r3⟩
theorem call_max2 (hc : X.calm = true) : CallR X (.builtin "max") (fun xs H Q => ∃ i j, xs = [.int i, .int j] ∧ Q (.int (if j > i then j else i)) H) := by
  intro pins s σ H xs us Q I r h
  obtain ⟨i, j, rfl, q⟩ := h
  obtain ⟨u, w', rfl, ⟨t, rfl⟩, ⟨t', rfl⟩⟩ := vals2 r
  refine max_two_ints (I.ok.hd hc) fun h' tk k => ⟨_, H, I.kept k, ?_, q⟩
  by_cases hj : j > i
  · rw [if_pos hj, if_pos hj]; exact ⟨_, rfl⟩
  · rw [if_neg hj, if_neg hj]; exact ⟨_, rfl⟩
theorem call_min2 (hc : X.calm = true) : CallR X (.builtin "min") (fun xs H Q => ∃ i j, xs = [.int i, .int j] ∧ Q (.int (if j < i then j else i)) H) := by
  intro pins s σ H xs us Q I r h
  obtain ⟨i, j, rfl, q⟩ := h
  obtain ⟨u, w', rfl, ⟨t, rfl⟩, ⟨t', rfl⟩⟩ := vals2 r
  refine min_two_ints (I.ok.hd hc) fun h' tk k => ⟨_, H, I.kept k, ?_, q⟩
  by_cases hj : j < i
  · rw [if_pos hj, if_pos hj]; exact ⟨_, rfl⟩
  · rw [if_neg hj, if_neg hj]; exact ⟨_, rfl⟩
theorem call_int1 : CallR X (.type "int") (fun xs H Q => (∃ i, xs = [.int i] ∧ Q (.int i) H) ∨ ∃ k, xs = [.bl k] ∧ Q (.int (if k then 1 else 0)) H) := by
  intro pins s σ H xs us Q I r h
  rcases h with ⟨i, rfl, q⟩ | ⟨k, rfl, q⟩
  · obtain ⟨u, rfl, t, rfl⟩ := vals1 r
    exact call_int_int ⟨.int i, H, I, ⟨_, rfl⟩, q⟩
  · obtain ⟨u, rfl, r1⟩ := vals1 r
    cases r1
    exact call_int_bool ⟨.int (if k then 1 else 0), H, I.tok _, ⟨_, rfl⟩, q⟩
end
end L2
namespace L2
open PySem PySem.Spec PyProof.Rows
/-! ### an instance, its attributes a map -/
structure ObjM (h : Heap) (x dx C : Addr) (mA : Str → Option Value) : Prop where
  obj : h.get? x = some (PySem.W.instObj C dx)
  ns : h.Ns1 dx mA
  ne : dx ≠ x

theorem lookIn_ns {h : Heap} {dx : Addr} {mA : Str → Option Value} (n : h.Ns1 dx mA) : ∃ od, h.get? dx = some od ∧ ∀ name, PySem.W.lookIn name od = some (mA name) := by
  obtain ⟨o, es, ep, ho, hd, hk, _, hm⟩ := n
  refine ⟨o, ho, fun name => ?_⟩
  have e := hm name
  unfold nsFind findBy at e
  rw [← Array.find?_toList] at e
  unfold PySem.W.lookIn
  rw [hd]
  dsimp only
  split
  · rename_i y q
    rw [q] at e
    exact congrArg some e
  · rename_i q
    rw [q] at e
    have a : es.toList.any (·.refKey) = false := by
      rw [List.any_eq_false]
      intro y hy
      obtain ⟨z, t, hkey⟩ := hk y (Array.mem_toList_iff.mp hy)
      simp [DictEntry.refKey, hkey]
    have a' : ¬ es.toList.any (·.refKey) = true := by rw [a]; exact Bool.false_ne_true
    rw [if_neg a']
    exact congrArg some e

theorem ObjM.look {h : Heap} {x dx C : Addr} {mA : Str → Option Value} (I : ObjM h x dx C mA) : ∃ od, PySem.W.InstAt h x (PySem.W.instObj C dx) C (some od) ∧ ∀ name, PySem.W.lookIn name od = some (mA name) :=
  let ⟨od, ho, hl⟩ := lookIn_ns I.ns
  ⟨od, ⟨I.obj, rfl, rfl, ho⟩, hl⟩

section
variable {prog : Program} {w : World} {A : Around} {E : Value → Shared → Prop} {s : Shared} {K : PySem.W.Frag} {x dx C f : Addr} {mA : Str → Option Value} {name : Str} {v : Value}
end
/-! ### the attributes as a list of pairs -/
theorem RelO.some_of {v : V} {o : Option Value} (r : RelO (some v) o) : ∃ u, o = some u ∧ RelV v u := by
  cases o with
  | none => exact (show False from r).elim
  | some u => exact ⟨u, rfl, r⟩
theorem handed_of {v : V} {u : Value} (r : RelV v u) : PySem.W.handedIn u = true := by
  cases v with
  | non => cases (show u = Value.none from r); rfl
  | bl b => cases (show u = Value.bool b from r); rfl
  | int i => obtain ⟨t, e⟩ := (show ∃ t, u = Value.int i t from r); cases e; rfl
  | str x => obtain ⟨t, e⟩ := (show ∃ t, u = Value.str x t from r); cases e; rfl
  | byt b => obtain ⟨t, e⟩ := (show ∃ t, u = Value.bytes b t from r); cases e; rfl
  | flt b => obtain ⟨t, e⟩ := (show ∃ t, u = Value.float b t from r); cases e; rfl
  | ref a => cases (show u = Value.ref a from r); rfl
  | ty n => cases (show u = Value.type n from r); rfl

section
variable {P : Program} {w : World} {H H' : Hp} {h h' : Heap} {a C dx : Addr} {fs fs' : List (Str × V)}
theorem ins_get (hok : HOk P w H h) (e : H a = some (.ins C dx fs)) : ∃ mA, ObjM h a dx C mA ∧ (∀ f, RelO (fs.lookup f) (mA f)) ∧ PySem.Within mA (fs.map (·.1)) ∧ fs.length ≤ 1000 ∧ H dx = some (.own a) := by
  obtain ⟨d, z, ne, ob, mA, n, r, q⟩ := (show ObjOk P w H h a (.ins C dx fs) from hok a _ e)
  exact ⟨mA, ⟨ob, n, ne⟩, r, q, z, d⟩
end
/-! ### what of the text a class must have -/
structure Cls (K : PySem.W.Frag) (C : Addr) : Prop where
  pg : PySem.W.plainGet K C Str.empty = true
  hd : PySem.W.hasDictIn K C = true
  po : PySem.W.plainOver K C = true
  sa : PySem.W.findIn K (.ref C) "__setattr__" = some (some (.builtin "object.__setattr__"))
theorem Cls.get {K : PySem.W.Frag} {C : Addr} (c : Cls K C) (f : Str) : PySem.W.plainGet K C f = true := c.pg
/-- no class of it has the name -/
def NoAttr (K : PySem.W.Frag) (C : Addr) (f : Str) : Prop := PySem.W.findIn K (.ref C) f = some none
section
variable {X : Cx} {pins : List (Addr × Obj)} {σ : St} {H : Hp} {s : Shared} {a C dx : Addr} {fs : List (Str × V)} {f : Str} {v : V} {A : Around} {E : Value → Shared → Prop}
/-- e.f where nothing but the object is asked: through attributeBase (super) and the last hold -/
theorem attr_of {prog : Program} {w : World} {env : Env} {e : Expr} {f : Str} {pos : Pos} {s : Shared} {Q : Value → Shared → Prop} (hb : attributeBase e f env (eval e env) = eval e env)
    (h : wpAny (model prog w) A (eval e env) (fun o s₁ => wpAny (model prog w) A (getAttr o f true) Q E s₁) E s) : wpAny (model prog w) A (eval (.Attribute e f pos) env) Q E s :=
  Attribute_any_ h (by rw [arm_eval_Attribute, hb])
end
/-! ### readings and rules -/
section
variable {X : Cx} {o e value : Expr} {f : Str} {pos pos' tpos : Pos} {ta tv : TE}
end
/-! ### isinstance -/
section
variable {X : Cx} {pins : List (Addr × Obj)} {σ : St} {H : Hp} {s : Shared} {A : Around} {E : Value → Shared → Prop} {Q : Value → Shared → Prop} {c : Value} {b : Bool}
/-- the type of a value, as the fragment's deciders take it; for an instance its class -/
inductive TyOf (K : PySem.W.Frag) (H : Hp) : V → Value → Prop where
  | non : TyOf K H .non (.type "NoneType")
  | bl (x : Bool) : TyOf K H (.bl x) (.type "bool")
  | int (i : Int) : TyOf K H (.int i) (.type "int")
  | str (x : Str) : TyOf K H (.str x) (.type "str")
  | flt (x : UInt64) : TyOf K H (.flt x) (.type "float")
  | lst {a : Addr} {xs : List V} (e : H a = some (.lst xs)) : TyOf K H (.ref a) (.type "list")
  | frz {a : Addr} {o : Obj} {xs : List V} (e : H a = some (.frz o (.lst xs))) : TyOf K H (.ref a) (.type "list")
  | tup {a : Addr} {xs : List V} (e : H a = some (.tup xs)) : TyOf K H (.ref a) (.type "tuple")
  | dK {a : Addr} {kvs : List (Key × V)} (e : H a = some (.dK kvs)) : TyOf K H (.ref a) (.type "dict")
  | dT {a : Addr} {kvs : List (List Key × V)} (e : H a = some (.dT kvs)) : TyOf K H (.ref a) (.type "dict")
  | ins {a C dx : Addr} {fs : List (Str × V)} (e : H a = some (.ins C dx fs)) (cl : Cls K C) (ha : PySem.W.findIn K (.ref C) "__class__" = some (some (.builtin "object.__class__")))
      (hn : PySem.W.specialIn K (.builtin "object.__class__") "__get__" = some (some (.builtin "getset_descriptor.__get__"))) (htk : PySem.W.takesIn K (.builtin "object.__class__") = some true)
      (hm : PySem.W.mroIn K C (.type "object") = some true) : TyOf K H (.ref a) (.ref C)
/-- isinstance(x, c) for one class c, a built-in or an own one: kitOne's answer -/
theorem isinst_ok {x : V} {u t : Value} (I : Inv X pins σ H s) (rx : RelV x u) (ty : TyOf X.K H x t) (e : PySem.W.kitOne X.K t c = some b) (h : ∀ tk, Q (.bool b) { s with toks := tk }) :
    wpAny (model X.prog X.w) A (call (.builtin "isinstance") [u, c]) Q E s := by
  cases ty with
  | non => cases (show u = Value.none from rx); exact PySem.W.kia_one PySem.W.kitx_none I.kIn True.intro e (fun z => nomatch z) h
  | bl y => cases (show u = Value.bool y from rx); exact PySem.W.kia_one PySem.W.kitx_bool I.kIn True.intro e (fun z => nomatch z) h
  | int i => obtain ⟨t, q⟩ := (show ∃ t, u = Value.int i t from rx); cases q; exact PySem.W.kia_one PySem.W.kitx_int I.kIn True.intro e (fun z => nomatch z) h
  | str y => obtain ⟨t, q⟩ := (show ∃ t, u = Value.str y t from rx); cases q; exact PySem.W.kia_one PySem.W.kitx_str I.kIn True.intro e (fun z => nomatch z) h
  | flt y => obtain ⟨t, q⟩ := (show ∃ t, u = Value.float y t from rx); cases q; exact PySem.W.kia_one PySem.W.kitx_float I.kIn True.intro e (fun z => nomatch z) h
  | @lst a xs ea =>
    cases (show u = Value.ref a from rx)
    obtain ⟨_, _, n, _, h1⟩ := (show ObjOk X.prog X.w H s.heap a (.lst xs) from I.hok a _ ea)
    exact PySem.W.kia_one PySem.W.kitx_list I.kIn ⟨_, h1, rfl⟩ e (fun z => nomatch z) h
  | @frz a ob xs ea =>
    cases (show u = Value.ref a from rx)
    obtain ⟨_, _, _, n, _, h1⟩ := (show ObjOk X.prog X.w H s.heap a (.frz ob (.lst xs)) from I.hok a _ ea)
    exact PySem.W.kia_one PySem.W.kitx_list I.kIn ⟨_, h1, rfl⟩ e (fun z => nomatch z) h
  | @tup a xs ea =>
    cases (show u = Value.ref a from rx)
    obtain ⟨_, _, _, p⟩ := (show ObjOk X.prog X.w H s.heap a (.tup xs) from I.hok a _ ea)
    obtain ⟨o, h1, h2, _⟩ := p
    exact PySem.W.kia_one PySem.W.kitx_tuple I.kIn ⟨o, h1, h2⟩ e (fun z => nomatch z) h
  | @dK a kvs ea =>
    cases (show u = Value.ref a from rx)
    obtain ⟨_, _, vs, _, p⟩ := (show ObjOk X.prog X.w H s.heap a (.dK kvs) from I.hok a _ ea)
    obtain ⟨o, es, ep, h1, h2, _⟩ := p
    exact PySem.W.kia_one PySem.W.kitx_dict I.kIn ⟨o, h1, h2.1⟩ e (fun z => nomatch z) h
  | @dT a kvs ea =>
    cases (show u = Value.ref a from rx)
    obtain ⟨_, _, xs, _, o, es, ep, h1, h2, _⟩ := (show ObjOk X.prog X.w H s.heap a (.dT kvs) from I.hok a _ ea)
    exact PySem.W.kia_one PySem.W.kitx_dict I.kIn ⟨o, h1, h2.1⟩ e (fun z => nomatch z) h
  | @ins a C dx fs ea cl ha hn htk hm =>
    cases (show u = Value.ref a from rx)
    obtain ⟨mA, O, _⟩ := ins_get I.hok ea
    obtain ⟨od, J, _⟩ := O.look
    exact PySem.W.kia_one (PySem.W.kitx_own (cl.get _) cl.hd ha hn htk hm) I.kIn J e (fun z => nomatch z) h
end
end L2
namespace L2
open PySem PySem.Spec PyProof.Rows
/-! ### room -/
structure Room (k : Nat) (A : Around) : Prop where
  hd : A.handled = none
  dp : A.depth + 3 * k + 5 < recursionLimit
  un : A.units + 16 * k + 200 < cLine
theorem Room.mono {j k : Nat} {A : Around} (r : Room k A) (h : j ≤ k) : Room j A := ⟨r.hd, by have := r.dp; omega, by have := r.un; omega⟩
theorem Room.deeper {k : Nat} {A : Around} (r : Room (k + 1) A) (env : Env) : Room k (A.deeper env) :=
  ⟨r.hd, by have := r.dp; show A.depth + 1 + 3 * k + 5 < _; omega, by have := r.un; show A.units + 3 + 16 * k + 200 < _; omega⟩
theorem make_depth {A : Around} {C : Addr} {us : List Value} {kw : List (Str × Value)} : (A.under (.builtin "type.__call__" ⟨.ref C :: us, kw⟩)).depth = A.depth + 1 := by
  first | rfl | simp [Around.under, Code.weight, Code.isCreation, Code.isGuard, Code.isCaller, Code.frames, Code.isFrame, guardIds]
theorem make_units {A : Around} {C : Addr} {us : List Value} {kw : List (Str × Value)} : (A.under (.builtin "type.__call__" ⟨.ref C :: us, kw⟩)).units = A.units + 1 := by
  first | rfl | simp [Around.under, Code.cUnits, Code.frames, Code.isFrame]
theorem Room.make {k : Nat} {A : Around} (r : Room (k + 1) A) (C : Addr) (us : List Value) (kw : List (Str × Value)) : Room k (A.under (.builtin "type.__call__" ⟨.ref C :: us, kw⟩)) :=
  ⟨r.hd, by have := r.dp; rw [make_depth]; omega, by have := r.un; rw [make_units]; omega⟩
theorem Room.depth {k : Nat} {A : Around} (r : Room k A) : A.depth < recursionLimit := by have := r.dp; omega
theorem Room.units {k : Nat} {A : Around} (r : Room k A) : A.units + 64 < cLine := by have := r.un; omega
/-! ### argument lists and displays -/
def tNil : TA := fun _ H Q => Q [] H
def tCons (ta : TE) (tr : TA) : TA := fun σ H Q => ta σ H fun x H1 => tr σ H1 fun xs H2 => Q (x :: xs) H2
section
variable {X : Cx} {e : Expr} {es : List Expr} {te : TE} {t : TA} {pos : Pos}
theorem pa_nil : PA X [] tNil := fun _ _ _ _ H Q I h => Calls.spliced_nil ⟨[], H, I, .nil, h⟩
theorem pa_cons (ha : PE X e te) (hr : PA X es t) (hs : starEach (e :: es) X.env = (false, eval e X.env) :: starEach es X.env := by rfl) : PA X (e :: es) (tCons te t) := by
  intro pos pins s σ H Q I h
  rw [hs]
  show wpAny _ _ (spliced ((false, eval e X.env) :: backTo pos (starEach es X.env))) _ _ s
  refine Calls.spliced_cons (thn (ha pins s σ H _ I h) fun u s1 ⟨x, H1, I1, r1, q1⟩ => ?_)
  exact thn (hr pos pins s1 σ H1 _ I1 q1) fun us s2 ⟨xs, H2, I2, r2, q2⟩ => ⟨x :: xs, H2, I2, .cons r1 r2, q2⟩

/-- a tuple, a list of written items -/
def tTup (t : TA) : TE := fun σ H Q => t σ H fun xs H1 => xs.length ≤ sizeLine ∧ ∀ p, H1 p = none → Q (.ref p) (upd H1 p (.tup xs))
def tLst (t : TA) : TE := fun σ H Q => t σ H fun xs H1 => xs.length ≤ sizeLine ∧ ∀ p, H1 p = none → Q (.ref p) (upd H1 p (.lst xs))
theorem pe_tup {x1} (h : PA X es t) : PE X (.Tuple es x1 pos) (tTup t) := by
  intro pins s σ H Q I hq
  refine wpAny_Tuple_spliced (thn (h pos pins s σ H _ I hq) fun us s1 ⟨xs, H1, I1, r, z, q⟩ => ⟨by rw [← r.length]; exact z, ?_⟩)
  have hf : H1 s1.heap.objs.size = none := I1.hok.fresh (Nat.le_refl _)
  refine ⟨.ref s1.heap.objs.size, upd H1 s1.heap.objs.size (.tup xs), I1.laid (t' := s1.toks) (fun b u e => Heap.get?_push_of_some _ e) (Nat.le_refl _) ?_, rfl, q _ hf⟩
  exact ⟨z, us, r, ⟨_, Heap.get?_push_size _ rfl, rfl, _, rfl⟩⟩
theorem pe_lst (h : PA X es t) : PE X (.List es pos) (tLst t) := by
  intro pins s σ H Q I hq
  refine wpAny_List_spliced (thn (h pos pins s σ H _ I hq) fun us s1 ⟨xs, H1, I1, r, z, q⟩ => ⟨by rw [← r.length]; exact z, ?_⟩)
  have hf : H1 s1.heap.objs.size = none := I1.hok.fresh (Nat.le_refl _)
  refine ⟨.ref s1.heap.objs.size, upd H1 s1.heap.objs.size (.lst xs), I1.laid (t' := s1.toks) (fun b u e => Heap.get?_push_of_some _ e) (Nat.le_refl _) ?_, rfl, q _ hf⟩
  exact ⟨z, us, 0, r, Heap.get?_push_size _ rfl⟩
end
/-! ### what a def promises -/
/-- a def's promise: the bound arguments in the parameters' order, the heap, the wanted end, the wanted exception -/
abbrev Sp := List V → Hp → VK → XK → Prop
/-- how an exception lies behind a call (file 08 gives it): the callers' frames, abstract heap and state ahead of the call, the wish, the exception, the state -/
abbrev CXT := List Env → Hp → Shared → XK → Value → Shared → Prop

/-- the state at a call -/
structure Env0 (P : Program) (w : World) (K : PySem.W.Frag) (mg : Str → Option Value) (base : Heap) (A : Around) (outer : List Env) (s : Shared) (H : Hp) : Prop where
  frames : A.frames = some outer
  mod : Mod K mg base
  bs : ∀ b o, base.get? b = some o → s.heap.get? b = some o ∧ H b = none
  bsz : base.objs.size ≤ s.heap.objs.size
  funs : s.heap.FunFrames base outer
  frf : ∀ b ∈ frs outer, H b = none
  hok : HOk P w H s.heap
  bare : AllBare s.gens
/-- a call's end -/
def CE (outer : List Env) (P : Program) (w : World) (H : Hp) (s : Shared) (Q : VK) (u : Value) (s' : Shared) : Prop :=
  ∃ v H', s'.os = s.os ∧ AllBare s'.gens ∧ Un (frs outer) [] H H' s.heap s'.heap ∧ HOk P w H' s'.heap ∧ RelV v u ∧ Q v H'
def CR (CX : CXT) (outer : List Env) (P : Program) (w : World) (H : Hp) (s : Shared) (Q : VK) (E : XK) (r : Result) (s' : Shared) : Prop :=
  match r with
  | .ok (.ret u) => CE outer P w H s Q u s'
  | .ok _ => False
  | .error e => CX outer H s E e s'
structure FnOk (P : Program) (w : World) (K : PySem.W.Frag) (mg : Str → Option Value) (base : Heap) (CX : CXT) (k : Nat) (f : Addr) (fd : FuncData) (ps : List Str) (sp : Sp) : Prop where
  len : ∀ vs H Q E, sp vs H Q E → vs.length = ps.length
  run : ∀ (A : Around) (outer : List Env) (s : Shared) (H : Hp) (args : Args) (us : List Value) (vs : List V) (Q : VK) (E : XK), Room k A → Env0 P w K mg base A outer s H → BindsTo s fd args (ps.zip us) → Vals vs us → sp vs H Q E →
    codeAny (model P w) A (.call (.ref f) args) (CR CX outer P w H s Q E) s
theorem Env0.make {P : Program} {w : World} {K : PySem.W.Frag} {mg : Str → Option Value} {base : Heap} {A : Around} {outer : List Env} {s : Shared} {H : Hp} (e : Env0 P w K mg base A outer s H) (C : Addr) (us : List Value) (kw : List (Str × Value)) :
    Env0 P w K mg base (A.under (.builtin "type.__call__" ⟨.ref C :: us, kw⟩)) outer s H := ⟨by first | exact e.frames | (simpa [Around.under, Code.envs, Code.isFrame, pushEnvs] using e.frames), e.mod, e.bs, e.bsz, e.funs, e.frf, e.hok, e.bare⟩
section
variable {X : Cx} {pins : List (Addr × Obj)} {σ : St} {H : Hp} {s s' : Shared}
/-- from a body: what a callee wants -/
theorem Inv.env0 (I : Inv X pins σ H s) : Env0 X.prog X.w X.K X.mg X.base X.A X.stack s H :=
  ⟨I.ok.frames, I.ok.mod, I.bs, Nat.le_trans I.ok.bsz I.sz, I.stack, I.stkFree, I.hok, I.bare⟩
/-- behind a call -/
theorem Inv.after {Q : VK} {u : Value} (I : Inv X pins σ H s) (h : CE X.stack X.prog X.w H s Q u s') : EP X pins σ Q u s' := by
  obtain ⟨v, H', os, bare, un, hok, r, q⟩ := h
  obtain ⟨hh, g, d, t, os'⟩ := s'
  obtain rfl : os' = s.os := os
  exact ⟨v, H', I.call (h' := hh) (g' := g) (d' := d) (t' := t) (ch := []) un hok bare (fun b z => absurd z (by simp)), r, q⟩
end
/-! ### calls -/
/-- f(..): the written arguments, then the defaults dvs; E: what is wanted of an exception -/
def tCall (sp : Sp) (dvs : List V) (E : XK) (t : TA) : TE := fun σ H Q => t σ H fun vs H1 => sp (vs ++ dvs) H1 Q E
/-- how the parameters are bound: us the positional arguments, kw the keywords' values by name, ds the defaults that fill up -/
def Binds (K : PySem.W.Frag) (fd : FuncData) (ps : List Str) (ds : List Value) : Prop :=
  ∀ (s : Shared) (us : List Value), K.In s.heap → (us ++ ds).length = ps.length → BindsTo s fd ⟨us, []⟩ (ps.zip (us ++ ds))
/-- every parameter is given -/
theorem Binds.all {K : PySem.W.Frag} {fd : FuncData} {ps : List Str} (h : ∀ us : List Value, us.length = ps.length → bindArgs fd ⟨us, []⟩ = pure (ps.zip us)) : Binds K fd ps [] := fun s us _ hl => by
  rw [List.append_nil] at hl ⊢
  exact .of_eq (h us hl)

/-- an exception of a callee reaches what this body wants of exceptions -/
def Passes (CX : CXT) (X : Cx) (E : XK) : Prop := ∀ (pins : List (Addr × Obj)) (σ : St) (H : Hp) (s : Shared) (e : Value) (s' : Shared), Inv X pins σ H s → CX X.stack H s E e s' → X.xe e s'

section
variable {X : Cx} {CX : CXT} {k : Nat} {f C : Addr} {fd : FuncData} {ps : List Str} {sp : Sp} {dvs : List V} {ds : List Value} {E : XK} {x m : Str} {p pos apos : Pos} {e o : Expr} {es : List Expr} {ta : TE} {t : TA}
/-- the callee runs -/
theorem run_fn {pins : List (Addr × Obj)} {σ : St} {H : Hp} {s : Shared} {Q : VK} {us : List Value} {vs : List V} (F : FnOk X.prog X.w X.K X.mg X.base CX k f fd ps sp) (hr : Room k X.A) (hb : Binds X.K fd ps ds) (hd : Vals dvs ds) (hx : Passes CX X E)
    (I : Inv X pins σ H s) (r : Vals vs us) (h : sp (vs ++ dvs) H Q E) : wpAny (model X.prog X.w) X.A (call (.ref f) us) (EP X pins σ Q) X.xe s := by
  have r2 : Vals (vs ++ dvs) (us ++ ds) := r.append hd
  have hl : (us ++ ds).length = ps.length := by rw [← r2.length]; exact F.len _ _ _ _ h
  refine wpAny_call (codeAny_mono (F.run X.A X.stack s H ⟨us, []⟩ (us ++ ds) (vs ++ dvs) Q E hr I.env0 (hb s us I.kIn hl) r2 h) fun r s' hq => ?_)
  cases r with
  | error e => exact hx pins σ H s e s' I hq
  | ok fl =>
    cases fl with
    | ret u => exact I.after hq
    | next => exact False.elim hq
    | brk => exact False.elim hq
    | cont => exact False.elim hq

theorem pe_call (F : FnOk X.prog X.w X.K X.mg X.base CX k f fd ps sp) (hr : Room k X.A) (hg : Gl X x) (hm : X.mg x = some (.ref f)) (hk : PySem.W.keepIn X.K (.ref f) = true) (hb : Binds X.K fd ps ds) (hd : Vals dvs ds) (hx : Passes CX X E)
    (ha : PA X (e :: es) t) (hdb : (x == ("__debug__" : Str)) = false := by decide) (he : starEach (e :: es) X.env = (false, eval e X.env) :: starEach es X.env := by rfl) (hpl : (backTo pos (starEach es X.env)).any (·.1) = false := by rfl) :
    PE X (.Call (.Name x p) (e :: es) [] pos) (tCall sp dvs E t) := by
  intro pins s σ H Q I h
  refine wpAny_Call_Name_kw (ld_glob I hg hm ?_ hdb)
  refine PySem.W.callWith_K (h₀ := X.base) I.ok.mod.kin hk (thn (ha pos pins s σ H _ I h) fun us s1 ⟨vs, H1, I1, r, q⟩ => ⟨I1.kIn, ?_⟩) he hpl
  exact run_fn F hr hb hd hx I1 r q
end
/-! ### keywords -/
/-- the values of the keywords, from the left -/
def PK (X : Cx) (kws : List Keyword) (t : TA) : Prop :=
  ∀ (pos : Pos) (pins : List (Addr × Obj)) (s : Shared) (σ : St) (H : Hp) (Q : List V → Hp → Prop), Inv X pins σ H s → t σ H Q → wpAny (model X.prog X.w) X.A (evalAll ((backToKw pos (keywordEach kws X.env)).map (·.2))) (AP X pins σ Q) X.xe s
section
variable {X : Cx} {CX : CXT} {k : Nat} {f C : Addr} {fd : FuncData} {ps ks : List Str} {sp : Sp} {E : XK} {x m : Str} {p pos apos kpos : Pos} {e o : Expr} {es : List Expr} {kws : List Keyword} {te ta : TE} {t tk : TA} {nm : Option Str}
variable {g : List Value → List Value → List Value} {gV : List V → List V → List V}
end
/-! ### a def's body keeps its promise -/
/-- names: the parameters first -/
structure FnScope (N P : List Str) (sc : Scope) : Prop where
  kind : sc.kind = .function
  co : sc.isCoroutine = false
  gen : sc.isGenerator = false
  nd : N.Nodup
  pre : N.take P.length = P
  par : ∀ x ∈ P, sc.names.lookup x = some .local ∨ sc.names.lookup x = some .cell
  nofree : ∀ y ∈ sc.names, y.2 ≠ .free

theorem bindL_out {kindOf : Str → Option NameKind} {x : Str} : ∀ {binds : List (Str × Value)} {m : Str → Option Value}, (∀ v, (x, v) ∉ binds) → bindL kindOf binds m x = m x
  | [], _, _ => rfl
  | (n, v) :: r, m, h => by
    unfold bindL
    rw [bindL_out fun w hw => h w (List.mem_cons_of_mem _ hw)]
    split
    · have : x ≠ n := by rintro rfl; exact h v List.mem_cons_self
      simp [this]
    · rfl
theorem bindC_out {kindOf : Str → Option NameKind} {x : Str} : ∀ {binds : List (Str × Value)} {m : Str → Option Value}, (∀ v, (x, v) ∉ binds) → bindC kindOf binds m x = m x
  | [], _, _ => rfl
  | (n, v) :: r, m, h => by
    unfold bindC
    rw [bindC_out fun w hw => h w (List.mem_cons_of_mem _ hw)]
    split
    · rfl
    · have : x ≠ n := by rintro rfl; exact h v List.mem_cons_self
      simp [this]
theorem bindL_get {kindOf : Str → Option NameKind} {x : Str} {v : Value} : ∀ {P : List Str} {vs : List Value} {i : Nat} {m : Str → Option Value}, P.Nodup → P[i]? = some x → vs[i]? = some v → kindOf x = some .local →
    bindL kindOf (P.zip vs) m x = some v
  | [], _, _, _, _, h, _, _ => by simp at h
  | _ :: _, [], _, _, _, _, h, _ => by simp at h
  | p :: P, w :: vs, 0, m, nd, h1, h2, hk => by
    simp at h1 h2; subst h1; subst h2
    show bindL kindOf ((p, w) :: P.zip vs) m p = _
    unfold bindL
    rw [bindL_out fun v hv => (List.nodup_cons.mp nd).1 (List.of_mem_zip hv).1, if_pos hk]
    simp
  | p :: P, w :: vs, i + 1, m, nd, h1, h2, hk => by
    show bindL kindOf ((p, w) :: P.zip vs) m x = _
    unfold bindL
    exact bindL_get (i := i) (List.nodup_cons.mp nd).2 (by simpa using h1) (by simpa using h2) hk
theorem bindC_get {kindOf : Str → Option NameKind} {x : Str} {v : Value} : ∀ {P : List Str} {vs : List Value} {i : Nat} {m : Str → Option Value}, P.Nodup → P[i]? = some x → vs[i]? = some v → kindOf x ≠ some .local →
    bindC kindOf (P.zip vs) m x = some v
  | [], _, _, _, _, h, _, _ => by simp at h
  | _ :: _, [], _, _, _, _, h, _ => by simp at h
  | p :: P, w :: vs, 0, m, nd, h1, h2, hk => by
    simp at h1 h2; subst h1; subst h2
    show bindC kindOf ((p, w) :: P.zip vs) m p = _
    unfold bindC
    rw [bindC_out fun v hv => (List.nodup_cons.mp nd).1 (List.of_mem_zip hv).1, if_neg hk]
    simp
  | p :: P, w :: vs, i + 1, m, nd, h1, h2, hk => by
    show bindC kindOf ((p, w) :: P.zip vs) m x = _
    unfold bindC
    exact bindC_get (i := i) (List.nodup_cons.mp nd).2 (by simpa using h1) (by simpa using h2) hk

/-- the names' values at the entry -/
def start (N : List Str) (vs : List V) : St := vs.map some ++ List.replicate (N.length - vs.length) none

/-- the context of a def's body, at its entry; an exception leaves the frame, then lies as CX says -/
def cxOf (CX : CXT) (P : Program) (w : World) (K : PySem.W.Frag) (mg : Str → Option Value) (base : Heap) (N : List Str) (qual : Str) (scope : Scope) (f : Addr) (cd : Value) (A : Around) (outer : List Env) (s : Shared) (H : Hp) (E : XK) : Cx where
  prog := P
  w := w
  K := K
  mg := mg
  base := base
  A := A.deeper (envOfC qual scope s.heap.objs.size f cd)
  N := N
  s_0 := s
  H_0 := H
  env := envOfC qual scope s.heap.objs.size f cd
  outer := outer
  stack := envOfC qual scope s.heap.objs.size f cd :: outer
  ex := []
  calm := true
  fn := fun _ => true
  pn := []
  xe := fun e s' => wpAny (model P w) (A.deeper (envOfC qual scope s.heap.objs.size f cd)) (leaving (envOfC qual scope s.heap.objs.size f cd) e) (fun _ s'' => CX outer H s E e s'') (fun e' s'' => CX outer H s E e' s'') s'

theorem cell_has {sc : Scope} {n : Nat} {x : Str} (h : sc.names.lookup x = some .cell) : ∃ c, (cellsFrom n sc.names []).lookup x = some c := by
  have q := PySem.W.cellsFrom_some sc.names n [] (.inl h)
  exact Option.isSome_iff_exists.mp q

theorem inv_start {CX : CXT} {P : Program} {w : World} {K : PySem.W.Frag} {mg : Str → Option Value} {base : Heap} {N ps : List Str} {qual : Str} {scope : Scope} {f : Addr} {cd : Value} {A : Around} {outer : List Env} {s s1 : Shared} {H : Hp} {E : XK} {us : List Value} {vs : List V}
    (S : FnScope N ps scope) (hd : A.handled = none) (e0 : Env0 P w K mg base A outer s H) (hl : vs.length = ps.length) (r : Vals vs us)
    (x : InCallC s s.heap.objs.size (bindL (envOfC qual scope s.heap.objs.size f cd).kindOf (ps.zip us) fun _ => none) (cellsFrom (s.heap.objs.size + 1) scope.names []) (bindC (envOfC qual scope s.heap.objs.size f cd).kindOf (ps.zip us) fun _ => none) s1) :
    Inv (cxOf CX P w K mg base N qual scope f cd A outer s H E) [] (start N vs) H s1 := by
  have hpl : ps.length ≤ N.length := by have := congrArg List.length S.pre; rw [List.length_take] at this; omega
  obtain ⟨h1, tk, rfl, hk⟩ := x.done
  have noA : ∀ b : Addr, b ∉ (cxOf CX P w K mg base N qual scope f cd A outer s H E).ex := fun b z => absurd (show b ∈ ([] : List Addr) from z) (by simp)
  refine ⟨⟨e0.mod, S.kind, rfl, rfl, Nat.le_refl _, fun y z c h1 h2 => ?_, fun y hy => ?_, fun y c _ h => ?_, fun _ => hd, Around.frames_deeper e0.frames, .inr ⟨rfl, rfl⟩, fun b z => absurd z (noA b), e0.bs, e0.bsz, fun b _ _ => noA b, fun b z => absurd z (noA b), e0.funs, e0.frf⟩,
    rfl, e0.bare, Un.kept hk, ⟨_, x.toInCall.ns, fun i y v h1 h2 h3 => ?_⟩, fun y c h => ⟨_, x.cell y c h⟩, e0.hok.fresh (Nat.le_refl _), fun y c h => ?_, fun p hp => absurd (show p ∈ ([] : List (Addr × Obj)) from hp) (by simp), e0.hok.kept hk, ?_⟩
  · exact name_of_addr x.apart (PySem.mem_of_lookup h1) (PySem.mem_of_lookup h2)
  · have hy : scope.names.lookup y = some .cell ∨ scope.names.lookup y = some .free := hy
    rcases hy with hy | hy
    · exact cell_has hy
    · exact absurd rfl (S.nofree _ (PySem.mem_of_lookup hy))
  · exact Nat.le_of_lt (x.above y c (PySem.mem_of_lookup h))
  · have hi : i < vs.length := by
      unfold start at h2
      by_cases hi : i < vs.length
      · exact hi
      · rw [List.getElem?_append_right (by simpa using hi)] at h2
        rw [List.getElem?_replicate] at h2
        split at h2 <;> cases h2
    have ha : vs[i]? = some v := by
      unfold start at h2
      rw [List.getElem?_append_left (by simpa using hi), List.getElem?_map] at h2
      cases e : vs[i]? with
      | none => rw [e] at h2; cases h2
      | some a => rw [e] at h2; cases h2; rfl
    obtain ⟨u, hu, rv⟩ := r.get ha
    have hp : ps[i]? = some y := by
      rw [← S.pre, List.getElem?_take_of_lt (by omega)]; exact h1
    have ndP : ps.Nodup := by rw [← S.pre]; exact S.nd.sublist (List.take_sublist _ _)
    refine ⟨u, rv, ?_⟩
    rcases S.par y (List.mem_of_getElem? hp) with k | k
    · exact .inl ⟨k, bindL_get ndP hp hu k⟩
    · obtain ⟨c, e⟩ := cell_has (n := s.heap.objs.size + 1) k
      refine .inr ⟨.inl k, c, e, ?_⟩
      have q := x.cell y c e
      rw [bindC_get ndP hp hu (by show scope.names.lookup y ≠ _; rw [k]; decide)] at q
      exact q
  · exact e0.hok.fresh (Nat.le_of_lt (x.above y c (PySem.mem_of_lookup h)))
  · unfold start
    show _ = N.length
    rw [List.length_append, List.length_map, List.length_replicate]
    omega

/-- THE RULE: a def (or a method) of the text, by its body. The body's reading t is chosen for each entry; it is run at the parameters' values -/
theorem fn_of {CX : CXT} {P : Program} {w : World} {K : PySem.W.Frag} {mg : Str → Option Value} {base : Heap} {k : Nat} {f : Addr} {name qual : Str} {params : Arguments} {body : List Stmt} {scope : Scope} {dV kV doc pm cdv ct oc : Value} {an od : Option Addr}
    {osl : Array (Option Value)} {N ps : List Str} {sp : Sp} (lk : K.lookup f = some ⟨oc, od, .func (PySem.W.fnOf name qual params body scope dV kV doc pm an cdv ct), osl⟩) (hcd : PySem.W.codeIn K cdv qual = true) (S : FnScope N ps scope)
    (len : ∀ vs H Q E, sp vs H Q E → vs.length = ps.length)
    (hbody : ∀ (A : Around) (outer : List Env) (s : Shared) (H : Hp) (vs : List V) (Q : VK) (E : XK), Room k (A.deeper (envOfC qual scope s.heap.objs.size f cdv)) → sp vs H Q E →
      ∃ t, PSs (cxOf CX P w K mg base N qual scope f cdv A outer s H E) body t ∧ t { nx := fun _ H' => Q .non H', rt := Q } (start N vs) H) :
    FnOk P w K mg base CX (k + 1) f (PySem.W.fnOf name qual params body scope dV kV doc pm an cdv ct) ps sp := by
  refine ⟨len, fun A outer s H args us vs Q E hr e0 hb r hsp => ?_⟩
  have hl := len _ _ _ _ hsp
  have KX : K.In s.heap := e0.mod.kin.keeps fun b o e => (e0.bs b o e).1
  have lim : s.heap.NoLimit := e0.mod.nolimit.keeps fun b o e => (e0.bs b o e).1
  have hkind : ∀ y ∈ ps.zip us, scope.names.lookup y.1 = some .local ∨ (scope.names.lookup y.1 = some .cell ∧ ((cellsFrom (s.heap.objs.size + 1) scope.names []).lookup y.1).isSome = true) := fun ⟨n, v⟩ hy => by
    rcases S.par n (List.of_mem_zip hy).1 with q | q
    · exact .inl q
    · exact .inr ⟨q, PySem.W.cellsFrom_some _ _ _ (.inl q)⟩
  refine codeAny_call_function hr.depth (KX _ _ lk) rfl S.co S.gen rfl (PySem.W.codeRec_of KX hcd) (hb _ _ _ _ ?_)
  refine wpAny_newFunctionEnv_cells S.kind hkind fun env he s1 x => ?_
  subst he
  refine ⟨lim.keeps x.toInCall.keep, codeAny_func ?_⟩
  obtain ⟨t, ht, hq⟩ := hbody A outer s H vs Q E (hr.deeper _) hsp
  have I : Inv (cxOf CX P w K mg base N qual scope f cdv A outer s H E) [] (start N vs) H s1 := inv_start S hr.hd e0 hl r x
  refine wpAny_mono (ht [] s1 (start N vs) H _ I hq) (fun fl s' hs => ?_) fun e s' hs => hs
  have fin : ∀ {σ' : St} {H' : Hp} {v : V} {u : Value}, Inv (cxOf CX P w K mg base N qual scope f cdv A outer s H E) [] σ' H' s' → RelV v u → Q v H' → CE outer P w H s Q u s' :=
    fun {σ' H' v u} J rv q => ⟨v, H', J.os, J.bare, J.base, J.hok, rv, q⟩
  cases fl with
  | ret u =>
    obtain ⟨v, σ', H', J, rv, q⟩ := hs
    exact fin J rv q
  | next =>
    obtain ⟨σ', H', J, q⟩ := hs
    exact fin (v := V.non) (u := Value.none) J rfl q
  | brk =>
    obtain ⟨_, _, _, q⟩ := hs
    exact False.elim q
  | cont =>
    obtain ⟨_, _, _, q⟩ := hs
    exact False.elim q
end L2
namespace L2
open PySem PySem.Spec PyProof.Rows
section
variable {X : Cx} {x : Str} {p pos : Pos} {e : Expr} {es : List Expr} {t : TA} {id T : String} {r : List V → Hp → VK → Prop}
def tCB (r : List V → Hp → VK → Prop) (t : TA) : TE := fun σ H Q => t σ H fun vs H1 => r vs H1 Q
/-- f(e, ..), f a built-in function -/
theorem pe_callB (hc : CallR X (.builtin id) r) (hg : Gl X x) (hm : X.mg x = none) (hv : bootBuiltins x = some (.builtin id)) (ha : PA X (e :: es) t) (hn : x ≠ "__name__" := by decide) (hdb : (x == ("__debug__" : Str)) = false := by decide)
    (he : starEach (e :: es) X.env = (false, eval e X.env) :: starEach es X.env := by rfl) (hpl : (backTo pos (starEach es X.env)).any (·.1) = false := by rfl) : PE X (.Call (.Name x p) (e :: es) [] pos) (tCB r t) := by
  intro pins s σ H Q I h
  refine wpAny_Call_Name_kw (ld_blt I hg hm hv ?_ hn hdb)
  exact PyProof.Rows.callWith_builtin1 (thn (ha pos pins s σ H _ I h) fun us s1 ⟨vs, H1, I1, r1, q1⟩ => hc pins s1 σ H1 vs us Q I1 r1 q1) he hpl
/-- T(e, ..), T a built-in type -/
theorem pe_callTy (hc : CallR X (.type T) r) (hg : Gl X x) (hm : X.mg x = none) (hv : bootBuiltins x = some (.type T)) (ha : PA X (e :: es) t) (hn : x ≠ "__name__" := by decide) (hdb : (x == ("__debug__" : Str)) = false := by decide)
    (he : starEach (e :: es) X.env = (false, eval e X.env) :: starEach es X.env := by rfl) (hpl : (backTo pos (starEach es X.env)).any (·.1) = false := by rfl) : PE X (.Call (.Name x p) (e :: es) [] pos) (tCB r t) := by
  intro pins s σ H Q I h
  refine wpAny_Call_Name_kw (ld_blt I hg hm hv ?_ hn hdb)
  exact PyProof.Rows.callWith_type1 (thn (ha pos pins s σ H _ I h) fun us s1 ⟨vs, H1, I1, r1, q1⟩ => hc pins s1 σ H1 vs us Q I1 r1 q1) he hpl
end
end L2
namespace HT
open PySem PyProof.Rows
section
open PySem.SeqAt
open PySem.AutoSeq1 (wpAny_loadPart')
open PySem.MeetsSeq PySem.MeetsSeq2 PySem.MeetsSeq3
end
section
variable {prog : Program} {w : World} {A : Around} {E : Value → Shared → Prop} {s : Shared}
/-! ### t[a:b], not the whole -/
/-- a slice's bound as a place among n (d where it is left out) -/
def sIx (n d : Nat) : Option Int → Nat
  | none => d
  | some v => if v < 0 then (v + (n : Int)).toNat else min v.toNat n
theorem sIx_nat (n d k : Nat) : sIx n d (some (k : Int)) = min k n := by
  show (if (k : Int) < 0 then ((k : Int) + (n : Int)).toNat else min (k : Int).toNat n) = min k n
  rw [if_neg (by omega), Int.toNat_natCast]
theorem sIx_le (n d : Nat) (hd : d ≤ n) (o : Option Int) : sIx n d o ≤ n := by
  cases o with
  | none => exact hd
  | some v =>
    show (if v < 0 then (v + (n : Int)).toNat else min v.toNat n) ≤ n
    by_cases hv : v < 0
    · rw [if_pos hv]; omega
    · rw [if_neg hv]; exact Nat.min_le_right _ _
end
end HT
namespace L2
open PySem PySem.Spec PyProof.Rows
/-! ### the parts of a slice -/
abbrev TO := St → Hp → (Option Int → Hp → Prop) → Prop
/-- a slice's part (left out, or an int) -/
def PO (X : Cx) (e : Option Expr) (t : TO) : Prop :=
  ∀ (pins : List (Addr × Obj)) (s : Shared) (σ : St) (H : Hp) (Q : Option Int → Hp → Prop), Inv X pins σ H s → t σ H Q →
    wpAny (model X.prog X.w) X.A (evalPart e X.env) (fun u s' => ∃ o H', Inv X pins σ H' s' ∧ IsPart u o ∧ Q o H') X.xe s
def tNoPart : TO := fun _ H Q => Q none H
def tPart (t : TE) : TO := fun σ H Q => t σ H fun x H1 => ∃ i, x = .int i ∧ Q (some i) H1

section
variable {X : Cx} {e : Expr} {te : TE} {lo hi : Option Expr} {tl th : TO} {pos p2 : Pos}
theorem po_none : PO X none tNoPart := by
  intro pins s σ H Q I h
  rw [evalPart_none]
  exact wpAny_pure ⟨none, H, I, .none, h⟩
theorem po_some (h : PE X e te) : PO X (some e) (tPart te) := by
  intro pins s σ H Q I hw
  rw [evalPart_some]
  refine thn (h pins s σ H _ I hw) fun u s1 ⟨x, H1, I1, r1, q1⟩ => ?_
  obtain ⟨i, rfl, q⟩ := q1
  obtain ⟨t, rfl⟩ := r1
  exact ⟨some i, H1, I1, .int i t, q⟩

/-- what a slice of a value is, by values: the slice object stands at sl -/
def SlR (X : Cx) (r : V → Option Int → Option Int → Hp → VK → Prop) : Prop :=
  ∀ (pins : List (Addr × Obj)) (s : Shared) (σ : St) (H : Hp) (x : V) (v vl vu : Value) (lo hi : Option Int) (sl : Addr) (Q : VK), Inv X pins σ H s → RelV x v → s.heap.IsSliceOf sl vl vu .none → IsPart vl lo → IsPart vu hi → r x lo hi H Q →
    ∃ T id, typeLookup (.type T) "__getitem__" = pure (some (.builtin id)) ∧ s.TypeIs v T ∧ wpAny (model X.prog X.w) X.A (getItem v (.ref sl)) (EP X pins σ Q) X.xe s
def tSl (r : V → Option Int → Option Int → Hp → VK → Prop) (te : TE) (tl th : TO) : TE := fun σ H Q => te σ H fun x H1 => tl σ H1 fun l H2 => th σ H2 fun u H3 => r x l u H3 Q
/-- a[lo:hi], any a -/
theorem pe_slice {r : V → Option Int → Option Int → Hp → VK → Prop} (hr : SlR X r) (he : PE X e te) (hl : PO X lo tl) (hu : PO X hi th) : PE X (.Subscript e (.Slice lo hi none p2) pos) (tSl r te tl th) := by
  intro pins s σ H Q I h
  refine Subscript_ (thn (he pins s σ H _ I h) fun v s1 ⟨x, H1, I1, r1, q1⟩ => ?_)
  refine wpAny_Slice (thn (hl pins s1 σ H1 _ I1 q1) fun vl s2 ⟨l, H2, I2, pl, q2⟩ => thn (hu pins s2 σ H2 _ I2 q2) fun vu s3 ⟨u, H3, I3, pu, q3⟩ => ?_)
  rw [evalPart_none]
  refine wpAny_pure ?_
  have I4 : Inv X pins σ H3 { s3 with heap := s3.heap.push { cls := .type "slice", data := .fields #[vl, vu, .none] } } := I3.kept (t' := s3.toks) fun b ob q => Heap.get?_push_of_some _ q
  obtain ⟨T, id, hT, ht, hg⟩ := hr pins { s3 with heap := s3.heap.push { cls := .type "slice", data := .fields #[vl, vu, .none] } } σ H3 x v vl vu l u s3.heap.objs.size Q I4 r1 (Heap.IsSliceOf.new ..) pl pu q3
  show wpAny (model X.prog X.w) X.A (subscriptTail e (.Slice lo hi none p2) v (.ref s3.heap.objs.size)) (EP X pins σ Q) X.xe { s3 with heap := s3.heap.push { cls := .type "slice", data := .fields #[vl, vu, .none] } }
  exact tail_any (ops := [.ref s3.heap.objs.size, v]) ht hT hg (by with_unfolding_all rfl)

/-- the items of xs[lo:hi] -/
def cutV (xs : List V) (lo hi : Option Int) : List V := (xs.drop (HT.sIx xs.length 0 lo)).take (HT.sIx xs.length xs.length hi - HT.sIx xs.length 0 lo)
theorem cutV_length (xs : List V) (lo hi : Option Int) : (cutV xs lo hi).length ≤ xs.length := by
  unfold cutV
  rw [List.length_take, List.length_drop]
  omega
/-! ### t < u, t + u -/
end
end L2
namespace L2
open PySem PySem.Spec PyProof.Rows
/-! ### places -/
/-- the place that an index of any sign means -/
def ixN (n : Nat) (i : Int) : Option Nat := if 0 ≤ i then (if i < n then some i.toNat else none) else if -(n : Int) ≤ i then some (i + n).toNat else none
def atI {α : Type} (xs : List α) (i : Int) : Option α := (ixN xs.length i).bind fun j => xs[j]?
theorem ixN_seq {n : Nat} {i : Int} {j : Nat} (h : ixN n i = some j) : seqIndex? i n = some j ∧ j < n ∧ -(n : Int) ≤ i ∧ i < n := by
  unfold ixN at h
  by_cases h0 : 0 ≤ i
  · rw [if_pos h0] at h
    by_cases h1 : i < n
    · rw [if_pos h1] at h
      have e : i.toNat = j := Option.some.inj h
      exact ⟨by rw [seqIndex_of h0 h1, e], by omega, by omega, h1⟩
    · rw [if_neg h1] at h; cases h
  · rw [if_neg h0] at h
    by_cases h1 : -(n : Int) ≤ i
    · rw [if_pos h1] at h
      have e : (i + n).toNat = j := Option.some.inj h
      exact ⟨by rw [seqIndex_neg (by omega) h1, e], by omega, h1, by omega⟩
    · rw [if_neg h1] at h; cases h
theorem atI_get {α : Type} {xs : List α} {i : Int} {v : α} (h : atI xs i = some v) : ∃ j, seqIndex? i xs.length = some j ∧ xs[j]? = some v ∧ j < xs.length ∧ -(xs.length : Int) ≤ i ∧ i < xs.length := by
  unfold atI at h
  cases e : ixN xs.length i with
  | none => rw [e] at h; cases h
  | some j =>
    rw [e] at h
    obtain ⟨h1, h2, h3, h4⟩ := ixN_seq e
    exact ⟨j, h1, h, h2, h3, h4⟩
theorem atI_nat {α : Type} {xs : List α} {j : Nat} {v : α} (h : xs[j]? = some v) : atI xs (j : Int) = some v := by
  have hj : j < xs.length := (List.getElem?_eq_some_iff.mp h).1
  have e : ixN xs.length (j : Int) = some j := by
    unfold ixN
    rw [if_pos (by omega), if_pos (by omega)]; simp
  unfold atI; rw [e]; exact h
theorem atI_last {α : Type} (xs : List α) (v : α) : atI (xs ++ [v]) (-1) = some v := by
  have hl : (xs ++ [v]).length = xs.length + 1 := by simp
  have e : ixN (xs ++ [v]).length (-1) = some xs.length := by
    unfold ixN
    rw [hl, if_neg (by decide), if_pos (by omega)]
    congr 1
    omega
  unfold atI
  rw [e]
  show (xs ++ [v])[xs.length]? = some v
  simp

/-! ### what may be subscripted -/
/-- what stands as an index of a plain subscript -/
def PlainIx (b : Expr) : Prop := ∀ o i, subscripted b false o i = operate [o, i] (getItem o i)
/-- a subscript by values -/
def IxR (X : Cx) (r : R2) : Prop :=
  ∀ (value slice : Expr) (pins : List (Addr × Obj)) (s : Shared) (σ : St) (H : Hp) (x y : V) (v u : Value) (Q : VK), Inv X pins σ H s → RelV x v → RelV y u → r x y H Q →
    subscripted slice false v u = operate [v, u] (getItem v u) → wpAny (model X.prog X.w) X.A (subscriptTail value slice v u) (EP X pins σ Q) X.xe s
/-- a call of a builtin's method by values: the receiver, the arguments -/
def MtR (X : Cx) (id : String) (r : V → List V → Hp → VK → Prop) : Prop :=
  ∀ (pins : List (Addr × Obj)) (s : Shared) (σ : St) (H : Hp) (x : V) (xs : List V) (v : Value) (us : List Value) (Q : VK), Inv X pins σ H s → RelV x v → Vals xs us → r x xs H Q →
    wpAny (model X.prog X.w) X.A (call (.builtin id) (v :: us)) (EP X pins σ Q) X.xe s
section
variable {X : Cx} {a b : Expr} {ta tb : TE} {pos : Pos}
/-- a[b] -/
theorem pe_ix {r : R2} (hr : IxR X r) (ha : PE X a ta) (hb : PE X b tb) (hs : PlainIx b) : PE X (.Subscript a b pos) (tOp r ta tb) := by
  intro pins s σ H Q I h
  exact Subscript_ (binT ha hb I h fun v u s2 x y H2 I2 rx ry q => hr a b pins s2 σ H2 x y v u Q I2 rx ry q (hs _ _))

def rIxL (K : PySem.W.Frag) : R2 := fun x y H Q => ∃ p xs i v, x = .ref p ∧ y = .int i ∧ SqL K H p xs ∧ atI xs i = some v ∧ Q v H
def rIxT (K : PySem.W.Frag) : R2 := fun x y H Q => ∃ p xs i v, x = .ref p ∧ y = .int i ∧ SqT K H p xs ∧ atI xs i = some v ∧ Q v H
def rIxS : R2 := fun x y H Q => ∃ z i c, x = .str z ∧ y = .int i ∧ z.length ≤ sizeLine ∧ atI z.cps.toList i = some c ∧ Q (.str ⟨#[c]⟩) H
theorem ix_list : IxR X (rIxL X.K) := by
  intro value slice pins s σ H x y v u Q I rx ry h hs
  obtain ⟨p, xs, i, z, rfl, rfl, hq, he, q⟩ := h
  cases rx
  obtain ⟨t, rfl⟩ := ry
  obtain ⟨its, r, pl, hz⟩ := I.list hq
  obtain ⟨j, h1, h2, h3, h4, h5⟩ := atI_get he
  obtain ⟨w, ew, rw'⟩ := r.get h2
  have hl := r.length
  have hn := line63
  have fin : EP X pins σ Q w s := ⟨z, H, I, rw', q⟩
  by_cases h0 : 0 ≤ i
  · have hj : i.toNat = j := by
      rw [seqIndex_of h0 h5] at h1
      exact Option.some.inj h1
    exact item_listR pl.isList h0 (by omega) (by rw [hj]; simpa using ew) fin hs
  · have hj : (i + (its.toArray.size : Int)).toNat = j := by
      rw [seqIndex_neg (by omega) h4] at h1
      rw [List.size_toArray, ← hl]
      exact Option.some.inj h1
    exact subscriptTail_builtinR (x := w) pl.isList.typeIs slot_list_getitem.lookup
      (wpAny_getItem_list_neg (Q := fun r s' => r = w ∧ EP X pins σ Q r s') pl.isList (by omega) (by rw [List.size_toArray] <;> omega) (by omega) (by rw [hj]; simpa using ew) ⟨rfl, fin⟩) hs
theorem ix_tup : IxR X (rIxT X.K) := by
  intro value slice pins s σ H x y v u Q I rx ry h hs
  obtain ⟨p, xs, i, z, rfl, rfl, hq, he, q⟩ := h
  cases rx
  obtain ⟨t, rfl⟩ := ry
  obtain ⟨its, r, pl, hz⟩ := I.tuple hq
  obtain ⟨j, h1, h2, h3, h4, h5⟩ := atI_get he
  obtain ⟨w, ew, rw'⟩ := r.get h2
  have hl := r.length
  have hn := line63
  have fin : EP X pins σ Q w s := ⟨z, H, I, rw', q⟩
  exact subscriptTail_builtinR (x := w) pl.typeIs slot_tuple_getitem.lookup
    (getItem_tuple (j := j) (Q := fun r s' => r = w ∧ EP X pins σ Q r s') pl (by omega) (by omega) (by rw [List.size_toArray, ← hl]; exact h1) (by simpa using ew) ⟨rfl, fin⟩) hs
theorem ix_str : IxR X rIxS := by
  intro value slice pins s σ H x y v u Q I rx ry h hs
  obtain ⟨z, i, c, rfl, rfl, hz, he, q⟩ := h
  obtain ⟨t, rfl⟩ := rx
  obtain ⟨t', rfl⟩ := ry
  obtain ⟨j, h1, h2, h3, h4, h5⟩ := atI_get he
  have hl : z.cps.toList.length = z.length := by simp [Str.length]
  rw [hl] at h1 h4 h5
  have hn := line63
  exact tail_any (typeIs_str s z t) slot_str_getitem.lookup (getItem_str (c := c) (by
    have e1 : decide (i < -(2 ^ 63 : Int)) = false := decide_eq_false (by omega)
    have e2 : decide (i ≥ 2 ^ 63) = false := decide_eq_false (by omega)
    rw [e1, e2, Bool.or_false]) (by rw [h1]; simpa using h2) ⟨.str ⟨#[c]⟩, H, I.tok _, ⟨_, rfl⟩, q⟩) hs
/-! ### xs[i] = v, any sign -/
/-- the list's object behind a store -/
theorem mapSeq_set (its : List Value) (n j : Nat) (u : Value) : Obj.mapSeq (·.setIfInBounds j u) { cls := .type "list", data := .seq its.toArray n } = { cls := .type "list", data := .seq (its.set j u).toArray n } := by
  simp [Obj.mapSeq]
theorem Inv.lst {pins : List (Addr × Obj)} {σ : St} {H : Hp} {s : Shared} {p : Addr} {xs : List V} (I : Inv X pins σ H s) (h : H p = some (.lst xs)) :
    ∃ (its : List Value) (n : Nat), Vals xs its ∧ s.heap.get? p = some { cls := .type "list", data := .seq its.toArray n } ∧ xs.length ≤ sizeLine := by
  obtain ⟨z, its, n, r, e⟩ := I.hok p _ h
  exact ⟨its, n, r, e, z⟩
/-- the list at p is written by an update of its object -/
theorem Inv.lstUpd {pins : List (Addr × Obj)} {σ : St} {H : Hp} {s : Shared} {p : Addr} {xs ys : List V} {its its' : List Value} {n n' : Nat} {f : Obj → Obj} (I : Inv X pins σ H s) (h : H p = some (.lst xs))
    (ho : s.heap.get? p = some { cls := .type "list", data := .seq its.toArray n }) (hf : f { cls := .type "list", data := .seq its.toArray n } = { cls := .type "list", data := .seq its'.toArray n' }) (r : Vals ys its') (hz : ys.length ≤ sizeLine) (t : Nat) :
    Inv X pins σ (upd H p (.lst ys)) { s with heap := s.heap.update p f, toks := t } := by
  have e : (s.heap.update p f).get? p = some { cls := .type "list", data := .seq its'.toArray n' } := by
    rw [Heap.get?_update_self f ho (by rw [hf] <;> rfl), hf]
  refine I.write (x := p) (e := p) (by rw [h]; trivial) (.inl rfl) (fun b u hb q => (Heap.get?_update_other _ _ (Ne.symm hb)).trans q) ⟨_, e⟩ ?_
  exact ⟨hz, its', n', r, e⟩
def rSetL : V → V → V → Hp → (Hp → Prop) → Prop := fun o i v H Q => ∃ p xs k j, o = .ref p ∧ i = .int k ∧ H p = some (.lst xs) ∧ ixN xs.length k = some j ∧ Q (upd H p (.lst (xs.set j v)))
theorem set_list : PSet X rSetL := by
  intro pins s σ H o i v ov iv u Q I ro ri rv h
  obtain ⟨p, xs, k, j, rfl, rfl, hp, hj, q⟩ := h
  cases ro
  obtain ⟨t, rfl⟩ := ri
  obtain ⟨its, n, r, ho, hz⟩ := I.lst hp
  obtain ⟨h1, h2, h3, h4⟩ := ixN_seq hj
  have hl := r.length
  have hn := line63
  have I' : Inv X pins σ (upd H p (.lst (xs.set j v))) { s with heap := s.heap.update p (Obj.mapSeq (·.setIfInBounds j u)) } :=
    I.lstUpd hp ho (mapSeq_set its n j u) (r.set rv j) (by rw [List.length_set]; exact hz) s.toks
  by_cases h0 : 0 ≤ k
  · have hk : k.toNat = j := by
      rw [seqIndex_of h0 h4] at h1
      exact Option.some.inj h1
    exact PySem.W.ki_setAt ho h0 (by omega) (by rw [List.size_toArray, ← hl]; exact h4) (by rw [hk]; exact ⟨_, I', q⟩)
  · have hk : (k + (its.toArray.size : Int)).toNat = j := by
      rw [seqIndex_neg (by omega) h3] at h1
      rw [List.size_toArray, ← hl]
      exact Option.some.inj h1
    exact PySem.W.ki_setBack ho (by omega) (by rw [List.size_toArray, ← hl]; exact h3) (by omega) (by rw [hk]; exact ⟨_, I', q⟩)

/-! ### slices -/
theorem slice_bounds (lo hi : Option Int) (n : Nat) : (sliceBounds lo hi none n).1 = ((HT.sIx n 0 lo : Nat) : Int) ∧ (sliceBounds lo hi none n).2.1 = ((HT.sIx n n hi : Nat) : Int) ∧ (sliceBounds lo hi none n).2.2 = 1 := by
  refine ⟨?_, ?_, rfl⟩
  · cases lo with
    | none => simp [sliceBounds, HT.sIx]
    | some i =>
      simp only [sliceBounds, HT.sIx, Option.getD_none, show (1 : Int) > 0 by decide, if_true]
      by_cases h : i < 0
      · simp only [h, if_true] <;> omega
      · simp only [h, if_false] <;> omega
  · cases hi with
    | none => simp [sliceBounds, HT.sIx]
    | some i =>
      simp only [sliceBounds, HT.sIx, Option.getD_none, show (1 : Int) > 0 by decide, if_true]
      by_cases h : i < 0
      · simp only [h, if_true] <;> omega
      · simp only [h, if_false] <;> omega
theorem slicePick_cut (its : List Value) (lo hi : Option Int) : slicePick its.toArray lo hi none = ((its.drop (HT.sIx its.length 0 lo)).take (HT.sIx its.length its.length hi - HT.sIx its.length 0 lo)).toArray := by
  obtain ⟨h1, h2, h3⟩ := slice_bounds lo hi its.toArray.size
  unfold slicePick
  rw [h1, h2, h3]
  simp only [sliceRange_one, pick_run, List.size_toArray] <;> rfl
/-- xs[lo:hi] of a list: a new list -/
def rSlL (K : PySem.W.Frag) : V → Option Int → Option Int → Hp → VK → Prop := fun x lo hi H Q => ∃ a xs, x = .ref a ∧ SqL K H a xs ∧ ∀ p, H p = none → Q (.ref p) (upd H p (.lst (cutV xs lo hi)))
theorem sl_list : SlR X (rSlL X.K) := by
  intro pins s σ H x v vl vu lo hi sl Q I rx hs pl pu h
  obtain ⟨a, xs, rfl, hx, q⟩ := h
  cases rx
  obtain ⟨its, r, ht, hz⟩ := I.list hx
  have hlen := r.length
  refine ⟨"list", _, slot_list_getitem.lookup, ht.isList.typeIs, ?_⟩
  refine wpAny_getItem_list_slice ht.isList hs pl pu .none (by simp) ?_ (by rw [List.size_toArray] <;> omega)
  rw [slicePick_cut, ← hlen]
  refine ⟨.ref s.heap.objs.size, _, I.laid (t' := s.toks) (o := .lst (cutV xs lo hi)) (fun b ob q => Heap.get?_push_of_some _ q) (Nat.le_refl _) ?_, rfl, q _ (I.hok.fresh (Nat.le_refl _))⟩
  exact ⟨Nat.le_trans (cutV_length xs lo hi) hz, _, 0, (r.drop (HT.sIx xs.length 0 lo)).take (HT.sIx xs.length xs.length hi - HT.sIx xs.length 0 lo), Heap.get?_push_size _ rfl⟩

/-! ### in, not in: flat items -/
def flatV : V → Bool
  | .non => true
  | .bl _ => true
  | .int _ => true
  | .str _ => true
  | _ => false
/-- == of flat values -/
def eqV : V → V → Bool
  | .non, .non => true
  | .bl a, .bl b => a == b
  | .bl a, .int b => (if a then 1 else 0) == b
  | .int a, .bl b => a == (if b then 1 else 0)
  | .int a, .int b => a == b
  | .str a, .str b => a == b
  | _, _ => false
theorem eqAt_V {A : Around} {s : Shared} {y x : V} {u v : Value} (ry : RelV y u) (rx : RelV x v) (fy : flatV y = true) (fx : flatV x = true) : SeqAt.EqAt A s u v (eqV y x) := by
  cases y with
  | non =>
    cases ry
    cases x with
    | non => cases rx; exact SeqAt.EqAt.same _
    | bl b => cases rx; exact SeqAt.EqAt.none_bool b
    | int b => obtain ⟨t, rfl⟩ := rx; exact SeqAt.EqAt.none_int b t
    | str b => obtain ⟨t, rfl⟩ := rx; exact SeqAt.EqAt.none_str b t
    | _ => exact absurd (show false = true from fx) Bool.false_ne_true
  | bl a =>
    cases ry
    cases x with
    | non => cases rx; exact SeqAt.EqAt.bool_none a
    | bl b => cases rx; exact SeqAt.EqAt.bool_bool a b
    | int b => obtain ⟨t, rfl⟩ := rx; exact SeqAt.EqAt.bool_int a b t
    | str b => obtain ⟨t, rfl⟩ := rx; exact SeqAt.EqAt.bool_str a b t
    | _ => exact absurd (show false = true from fx) Bool.false_ne_true
  | int a =>
    obtain ⟨t', rfl⟩ := ry
    cases x with
    | non => cases rx; exact SeqAt.EqAt.int_none a t'
    | bl b => cases rx; exact SeqAt.EqAt.int_bool a t' b
    | int b => obtain ⟨t, rfl⟩ := rx; exact SeqAt.EqAt.int_int a t' b t
    | str b => obtain ⟨t, rfl⟩ := rx; exact SeqAt.EqAt.int_str a t' b t
    | _ => exact absurd (show false = true from fx) Bool.false_ne_true
  | str a =>
    obtain ⟨t', rfl⟩ := ry
    cases x with
    | non => cases rx; exact SeqAt.EqAt.str_none a t'
    | bl b => cases rx; exact SeqAt.EqAt.str_bool a t' b
    | int b => obtain ⟨t, rfl⟩ := rx; exact SeqAt.EqAt.str_int a t' b t
    | str b => obtain ⟨t, rfl⟩ := rx; exact SeqAt.EqAt.str_str a t' b t
    | _ => exact absurd (show false = true from fx) Bool.false_ne_true
  | _ => exact absurd (show false = true from fy) Bool.false_ne_true
/-- the items' answers, read off the values (a value's own answer does not lean on its token) -/
def eqU (x : V) (u : Value) : Bool := match u with
  | .none => eqV .non x
  | .bool b => eqV (.bl b) x
  | .int i _ => eqV (.int i) x
  | .str z _ => eqV (.str z) x
  | _ => false
theorem eqU_of {x y : V} {u : Value} (r : RelV y u) (f : flatV y = true) : eqU x u = eqV y x := by
  cases y with
  | non => cases r; rfl
  | bl b => cases r; rfl
  | int i => obtain ⟨t, rfl⟩ := r; rfl
  | str z => obtain ⟨t, rfl⟩ := r; rfl
  | _ => exact absurd (show false = true from f) Bool.false_ne_true
theorem any_eqU {x : V} : ∀ {xs : List V} {us : List Value}, Vals xs us → xs.all flatV = true → us.any (eqU x) = xs.any fun y => eqV y x
  | _, _, .nil, _ => rfl
  | y :: xs, u :: us, .cons r t, f => by
    rw [List.all_cons, Bool.and_eq_true] at f
    rw [List.any_cons, List.any_cons, eqU_of r f.1, any_eqU t f.2]
theorem mem_eqAt {A : Around} {s : Shared} {x : V} {v : Value} (rx : RelV x v) (fx : flatV x = true) : ∀ {xs : List V} {us : List Value}, Vals xs us → xs.all flatV = true → ∀ u ∈ us, SeqAt.EqAt A s u v (eqU x u)
  | _, _, .nil, _ => fun u hu => by cases hu
  | y :: xs, u :: us, .cons r t, f => fun u' hu => by
    rw [List.all_cons, Bool.and_eq_true] at f
    rcases List.mem_cons.mp hu with rfl | hu
    · rw [eqU_of r f.1]; exact eqAt_V r rx f.1 fx
    · exact mem_eqAt rx fx t f.2 u' hu
def inV (x : V) (xs : List V) : Bool := xs.any fun y => eqV y x
/-- x in a list or tuple of flat items -/
def rIn (K : PySem.W.Frag) (neg : Bool) : R2 := fun x y H Q => ∃ p xs, y = .ref p ∧ (SqL K H p xs ∨ SqT K H p xs) ∧ flatV x = true ∧ xs.all flatV = true ∧ Q (.bl (if neg then !inV x xs else inV x xs)) H
theorem op_in_seq : OpR X (compareOp .In) (rIn X.K false) := by
  intro pins s σ H x y v u Q I rx ry h
  obtain ⟨p, xs, rfl, hq, fx, fs, q⟩ := h
  cases ry
  rcases hq with hq | hq
  · obtain ⟨its, r, pl, hz⟩ := I.list hq
    refine SeqAt.in_listAt (eqU x) pl.isList (fun w hw => mem_eqAt rx fx r fs w (by simpa using hw)) ⟨.bl _, H, I, rfl, ?_⟩
    rw [show its.toArray.any (eqU x) = its.any (eqU x) by simp, any_eqU r fs]
    exact q
  · obtain ⟨its, r, pl, hz⟩ := I.tuple hq
    refine SeqAt.in_tupleAt (eqU x) pl (fun w hw => mem_eqAt rx fx r fs w (by simpa using hw)) ⟨.bl _, H, I, rfl, ?_⟩
    rw [show its.toArray.any (eqU x) = its.any (eqU x) by simp, any_eqU r fs]
    exact q
/-! ### len, list(x), tuple(x) of any list or tuple that is read -/
theorem call_len_seq : CallR X (.builtin "len") (fun xs H Q => ∃ p ys, xs = [.ref p] ∧ (SqL X.K H p ys ∨ SqT X.K H p ys) ∧ Q (.int ys.length) H) := by
  intro pins s σ H xs us Q I r h
  obtain ⟨p, ys, rfl, hq, q⟩ := h
  obtain ⟨u, rfl, rx⟩ := vals1 r
  cases rx
  have hn := line63
  rcases hq with hq | hq
  · obtain ⟨its, r', pl, hz⟩ := I.list hq
    have hlen := r'.length
    exact Calls.call_len_list pl.isList (by simp only [List.size_toArray] <;> omega) ⟨.int ys.length, H, I.tok _, ⟨s.toks + 1, by rw [List.size_toArray, hlen]⟩, q⟩
  · obtain ⟨its, r', pl, hz⟩ := I.tuple hq
    have hlen := r'.length
    exact len_tuple pl (by simp only [List.size_toArray] <;> omega) ⟨.int ys.length, H, I.tok _, ⟨s.toks + 1, by rw [List.size_toArray, hlen]⟩, q⟩
theorem call_len_str : CallR X (.builtin "len") (fun xs H Q => ∃ z, xs = [.str z] ∧ z.length ≤ sizeLine ∧ Q (.int z.length) H) := by
  intro pins s σ H xs us Q I r h
  obtain ⟨z, rfl, hz, q⟩ := h
  obtain ⟨u, rfl, t, rfl⟩ := vals1 r
  have hn := line63
  exact len_str (by omega) ⟨.int z.length, H, I.tok _, ⟨_, rfl⟩, q⟩
theorem call_tuple_of : CallR X (.type "tuple") (fun xs H Q => ∃ p ys, xs = [.ref p] ∧ ((SqL X.K H p ys ∧ ∀ l, H l = none → Q (.ref l) (upd H l (.tup ys))) ∨ (SqT X.K H p ys ∧ Q (.ref p) H))) := by
  intro pins s σ H xs us Q I r h
  obtain ⟨p, ys, rfl, h⟩ := h
  obtain ⟨u, rfl, rx⟩ := vals1 r
  cases rx
  rcases h with ⟨hq, q⟩ | ⟨hq, q⟩
  · obtain ⟨its, r', pl, hz⟩ := I.list hq
    have hlen := r'.length
    refine call_tuple_list pl.isList (fun h' kp => ?_) (by simp only [List.size_toArray] <;> omega)
    have I1 : Inv X pins σ H { s with heap := h' } := I.kept (t' := s.toks) kp
    have I2 : Inv X pins σ (upd H h'.objs.size (.tup ys)) { s with heap := h'.push { cls := .type "tuple", data := .seq its.toArray } } :=
      I1.laid (t' := s.toks) (fun b o e => Heap.get?_push_of_some _ e) (Nat.le_refl _) (show ObjOk X.prog X.w _ _ _ (.tup ys) from ⟨hz, its, r', IsTup.new _ _⟩)
    exact ⟨.ref h'.objs.size, _, I2, rfl, q _ (I1.hok.fresh (Nat.le_refl _))⟩
  · obtain ⟨its, r', pl, hz⟩ := I.tuple hq
    exact call_tuple_same pl ⟨.ref p, H, I, rfl, q⟩

/-! ### the call of a builtin's method: o.m(..) -/
/-- the value is of that builtin type -/
def tyV (K : PySem.W.Frag) (T : String) (x : V) (H : Hp) : Prop := match x with
  | .str _ => T = "str"
  | .int _ => T = "int"
  | .ref p => (T = "list" ∧ ∃ xs, SqL K H p xs) ∨ (T = "tuple" ∧ ∃ o, K.lookup p = some o ∧ o.cls = .type "tuple" ∧ o.dict = none) ∨
      (T = "dict" ∧ ((∃ kvs, H p = some (.dK kvs)) ∨ ∃ kvs, H p = some (.dT kvs))) ∨ (T = "set" ∧ ∃ S n, H p = some (.set S n))
  | _ => False
theorem tyV_is {pins : List (Addr × Obj)} {σ : St} {H : Hp} {s : Shared} {T : String} {x : V} {v : Value} (I : Inv X pins σ H s) (r : RelV x v) (ty : tyV X.K T x H) :
    s.TypeIs v T ∧ ∀ a, v = .ref a → ∃ ob, s.heap.get? a = some ob ∧ ob.dict = none := by
  cases x with
  | str z =>
    obtain ⟨t, rfl⟩ := r
    cases (show T = "str" from ty)
    exact ⟨typeIs_str s z t, fun _ e => nomatch e⟩
  | int i =>
    obtain ⟨t, rfl⟩ := r
    cases (show T = "int" from ty)
    exact ⟨typeIs_int s i t, fun _ e => nomatch e⟩
  | ref p =>
    cases r
    rcases ty with ⟨rfl, xs, hq⟩ | ⟨rfl, o, hk, hc, hd⟩ | ⟨rfl, hk⟩ | ⟨rfl, S, n, hk⟩
    · obtain ⟨its, _, pl, _⟩ := I.list hq
      refine ⟨pl.isList.typeIs, fun a e => ?_⟩
      cases e
      obtain ⟨o, n, e, c, hd, _⟩ := pl
      exact ⟨o, e, hd⟩
    · refine ⟨⟨o, I.kIn p o hk, hc⟩, fun a e => ?_⟩
      cases e
      exact ⟨o, I.kIn _ o hk, hd⟩
    · have z : ∃ o, s.heap.get? p = some o ∧ o.ExactDict := by
        rcases hk with ⟨kvs, hk⟩ | ⟨kvs, hk⟩
        · obtain ⟨_, _, _, _, o, _, _, e, ex, _⟩ := I.hok p _ hk
          exact ⟨o, e, ex⟩
        · obtain ⟨_, _, _, _, o, _, _, e, ex, _⟩ := I.hok p _ hk
          exact ⟨o, e, ex⟩
      obtain ⟨o, e, ex⟩ := z
      refine ⟨⟨o, e, ex.1⟩, fun a e2 => ?_⟩
      cases e2
      exact ⟨o, e, ex.2.1⟩
    · obtain ⟨o, _, _, _, e, ex, _⟩ := I.hok p _ hk
      refine ⟨⟨o, e, ex.1⟩, fun a e2 => ?_⟩
      cases e2
      exact ⟨o, e, ex.2.1⟩
  | _ => exact False.elim ty
def tBM (K : PySem.W.Frag) (T : String) (r : V → List V → Hp → VK → Prop) (to : TE) (t : TA) : TE := fun σ H Q => to σ H fun x H1 => tyV K T x H1 ∧ t σ H1 fun xs H2 => r x xs H2 Q
variable {o e : Expr} {es : List Expr} {to : TE} {t : TA} {name : Str} {apos cpos : Pos} {T id : String} {r : V → List V → Hp → VK → Prop}
theorem pe_bm (pa : PlainAttrs T) (slot : Slot T name id) (hty : typeOf (.builtin id) = pure (.type "method_descriptor")) (hm : MtR X id r) (ho : PE X o to) (ha : PA X (e :: es) t)
    (hbase : attributeBase o name X.env (eval o X.env) = eval o X.env := by rfl)
    (hfew : ((backTo cpos (starEach (e :: es) X.env)).all (fun x => !x.1) && (backToKw cpos (keywordEach [] X.env)).all (fun x => x.1.isSome)
      && decide ((e :: es).length + ([] : List Keyword).length + (if ([] : List Keyword).isEmpty then 0 else 1) < 30)) = true := by rfl)
    (hline : (apos.endLine == cpos.line) = true := by rfl) (hs : starEach (e :: es) X.env = (false, eval e X.env) :: starEach es X.env := by rfl) (hplain : (backTo cpos (starEach es X.env)).any (·.1) = false := by rfl) :
    PE X (.Call (.Attribute o name apos) (e :: es) [] cpos) (tBM X.K T r to t) := by
  intro pins s σ H Q I h
  refine wpAny_Call_method_late hbase hfew hline rfl (thn (ho pins s σ H _ I h) fun v s1 ⟨x, H1, I1, r1, ty, q1⟩ => ?_)
  obtain ⟨h1, h2⟩ := tyV_is I1 r1 ty
  refine ⟨T, id, pa, slot, hty, h1, h2, ?_⟩
  have hA := ha cpos pins s1 σ H1 _ I1 q1
  rw [hs] at hA ⊢
  refine Calls.callWith_builtin (by show (false || (backTo cpos (starEach es X.env)).any (·.1)) = false; rw [hplain] <;> rfl) (Calls.evalArgs_plain ?_)
  exact thn hA fun us s2 ⟨vs, H2, I2, r2, q2⟩ => hm pins s2 σ H2 x vs v us Q I2 r1 r2 q2
/- xs.append(e), list.index on a module's tuple .. are MtR facts of 06m -/
end
end L2
namespace L2
open PySem PySem.Spec PyProof.Rows
def MtM (X : Cx) (id : String) (r : V → List V → Hp → VK → Prop) : Prop :=
  ∀ (pins : List (Addr × Obj)) (s : Shared) (σ : St) (H : Hp) (x : V) (xs : List V) (v : Value) (us : List Value) (Q : VK), Inv X pins σ H s → RelV x v → Vals xs us → r x xs H Q →
    wpAny (model X.prog X.w) X.A (call (.builtin id) (v :: us)) (EP X pins σ Q) X.xe s

/-! ### lists of values -/
theorem Vals.one : ∀ {x : V} {us : List Value}, Vals [x] us → ∃ u, us = [u] ∧ RelV x u
  | _, _, .cons r .nil => ⟨_, rfl, r⟩
section
variable {X : Cx} {pins : List (Addr × Obj)} {σ : St} {H : Hp} {s : Shared} {l b : Addr} {xs ys zs : List V}
/-! ### the two steps: a tracked list is rewritten, a new list is laid -/
theorem Inv.lset {its its' : List Value} {n : Nat} {f : Array Value → Array Value} {t' : Nat} (I : Inv X pins σ H s) (hH : H l = some (.lst xs))
    (e : s.heap.get? l = some { cls := .type "list", data := .seq its.toArray n }) (hf : f its.toArray = its'.toArray) (hv : Vals ys its') (hz : ys.length ≤ sizeLine) :
    Inv X pins σ (upd H l (.lst ys)) { s with heap := s.heap.update l (Obj.mapSeq f), toks := t' } := by
  have q := PySem.IsL.update e f
  rw [hf] at q
  refine I.write (x := l) (e := l) (by rw [hH]; exact trivial) (.inl rfl) (fun b' u hb hu => (Heap.get?_update_other s.heap (Obj.mapSeq f) (Ne.symm hb)).trans hu) ⟨_, q⟩ ?_
  exact ⟨hz, its', _, hv, q⟩
theorem Inv.lnew {its : List Value} {t' : Nat} (I : Inv X pins σ H s) (hv : Vals ys its) (hz : ys.length ≤ sizeLine) :
    Inv X pins σ (upd H s.heap.objs.size (.lst ys)) { s with heap := s.heap.push { cls := .type "list", data := .seq its.toArray }, toks := t' } :=
  I.laid (fun _ _ q => Heap.get?_push_of_some _ q) (Nat.le_refl _) ⟨hz, its, 0, hv, Heap.get?_push_size _ rfl⟩
theorem Inv.fresh (I : Inv X pins σ H s) : H s.heap.objs.size = none := I.hok.fresh (Nat.le_refl _)
theorem Inv.lstM (I : Inv X pins σ H s) (hH : H l = some (.lst xs)) : xs.length ≤ sizeLine ∧ ∃ (its : List Value) (n : Nat), Vals xs its ∧ xs.length = its.length ∧ s.heap.get? l = some { cls := .type "list", data := .seq its.toArray n } := by
  obtain ⟨z, its, n, r, e⟩ := I.hok l _ hH
  exact ⟨z, its, n, r, r.length, e⟩

theorem notLongL {n : Nat} (h : n ≤ sizeLine) : Builtin.List.listTooLong n = false := by
  unfold Builtin.List.listTooLong
  exact decide_eq_false (by omega)
end
section
variable {X : Cx}
/-! ### methods -/
def rAppend : V → List V → Hp → VK → Prop := fun x vs H Q => ∃ l xs y, x = .ref l ∧ vs = [y] ∧ H l = some (.lst xs) ∧ xs.length < sizeLine ∧ Q .non (upd H l (.lst (xs ++ [y])))
theorem mt_append : MtM X "list.append" rAppend := by
  intro pins s σ H x vs v us Q I rx rv h
  obtain ⟨l, xs, y, rfl, rfl, hH, hz, q⟩ := h
  cases rx
  obtain ⟨u, rfl, ru⟩ := rv.one
  obtain ⟨z, its, n, r, hl, e⟩ := I.lstM hH
  refine call_meets F.slot_list_append ⟨_, e, rfl⟩ F.entry_list_append (F.args_list_append_2 _ _) (PySem.list_append l its.toArray n u (by rw [List.size_toArray]; omega)) ⟨e, ?_⟩
  refine ⟨.non, _, I.lset (its' := its ++ [u]) hH e (by simp) (r.append (.cons ru .nil)) ?_, rfl, q⟩
  rw [List.length_append, List.length_singleton]
  omega

def rExtend : V → List V → Hp → VK → Prop := fun x vs H Q => ∃ l b xs zs, x = .ref l ∧ vs = [.ref b] ∧ H l = some (.lst xs) ∧ H b = some (.lst zs) ∧ xs.length + zs.length ≤ sizeLine ∧ Q .non (upd H l (.lst (xs ++ zs)))
theorem mt_extend : MtM X "list.extend" rExtend := by
  intro pins s σ H x vs v us Q I rx rv h
  obtain ⟨l, b, xs, zs, rfl, rfl, hH, hB, hz, q⟩ := h
  cases rx
  obtain ⟨u, rfl, ru⟩ := rv.one
  cases ru
  obtain ⟨z, its, n, r, hl, e⟩ := I.lstM hH
  obtain ⟨z2, its2, n2, r2, hl2, e2⟩ := I.lstM hB
  have hsz : its.toArray.size + its2.toArray.size ≤ sizeLine := by rw [List.size_toArray, List.size_toArray]; omega
  have hlong : ¬ (!its.toArray.isEmpty && Builtin.List.listTooLong (its.toArray.size + its2.toArray.size)) = true := by
    rw [notLongL hsz, Bool.and_false]
    exact Bool.false_ne_true
  refine call_meets F.slot_list_extend ⟨_, e, rfl⟩ F.entry_list_extend (F.args_list_extend_2 _ _)
    (AutoSeq1.list_extend_list_list_0 l its.toArray n b its2.toArray n2 hlong (by rw [List.size_toArray]; omega) (by omega)) ⟨e, e2, ?_⟩
  refine ⟨.non, _, I.lset (its' := its ++ its2) hH e (by simp) (r.append r2) ?_, rfl, q⟩
  rw [List.length_append]
  omega

/-! ### list + list, list += list, list * int -/
def rCat : R2 := fun x y H Q => ∃ l b xs zs, x = .ref l ∧ y = .ref b ∧ H l = some (.lst xs) ∧ H b = some (.lst zs) ∧ xs.length + zs.length ≤ sizeLine ∧ ∀ p, H p = none → Q (.ref p) (upd H p (.lst (xs ++ zs)))
theorem op_cat : OpR X (binaryOp .Add) rCat := by
  intro pins s σ H x y v u Q I rx ry h
  obtain ⟨l, b, xs, zs, rfl, rfl, hH, hB, hz, q⟩ := h
  cases rx
  cases ry
  obtain ⟨z, its, n, r, hl, e⟩ := I.lstM hH
  obtain ⟨z2, its2, n2, r2, hl2, e2⟩ := I.lstM hB
  refine PySem.P.add_list e e2 ?_ (by rw [List.size_toArray, List.size_toArray]; omega)
  have ea : its.toArray ++ its2.toArray = (its ++ its2).toArray := by simp
  rw [ea]
  exact ⟨.ref _, _, I.lnew (t' := s.toks) (r.append r2) (by rw [List.length_append]; omega), rfl, q _ I.fresh⟩
/-! ### del xs[i] -/
end
/-! ### xs[a:b] = ys -/
section
variable {prog : Program} {w : World} {A : Around} {E : Value → Shared → Prop} {s : Shared}
end
section
variable {X : Cx}
end
end L2
namespace L2
open PySem PySem.Spec PyProof.Rows
theorem vals_of_ints : ∀ {us : List Value} {ns : List Int}, IntsAre us ns → Vals (ns.map V.int) us
  | _, _, .nil => by rw [List.map_nil]; exact Paired.nil
  | _, _, .cons n t h => by rw [List.map_cons]; exact Paired.cons (show RelV (V.int n) (Value.int n t) from ⟨t, rfl⟩) (vals_of_ints h)
theorem Vals.bls : ∀ {bs : List Bool} {us : List Value}, Vals (bs.map V.bl) us → us = bs.map Value.bool
  | [], us, h => by
    rw [List.map_nil] at h
    cases h
    rfl
  | b :: bs, us, h => by
    rw [List.map_cons] at h
    cases h with
    | cons r t =>
      cases r
      rw [Vals.bls t, List.map_cons]
theorem Vals.ref1 {a : Addr} {us : List Value} (r : Vals [V.ref a] us) : us = [Value.ref a] := by
  cases r with
  | cons r t =>
    cases t
    cases r
    rfl
/-! ### the library's walks over a list of ints, kept objects alone -/
section
variable {prog : Program} {w : World} {A : Around} {E : Value → Shared → Prop} {s : Shared} {l : Addr} {its : List Value} {ns : List Int} {Q : Value → Shared → Prop}
end
/-! ### the calls, by values (CallR of 03t; MtR of 06l) -/
section
variable {X : Cx}
/-! sorted, sort (fewer than 64 items: the library's own bound) -/
end
/-! ### list.index, flat items -/
section
variable {X : Cx}
def rIndex (K : PySem.W.Frag) : V → List V → Hp → VK → Prop := fun x xs H Q => ∃ (a : Addr) (ys : List V) (y : V) (j : Nat) (z : V), x = V.ref a ∧ xs = [y] ∧ SqL K H a ys ∧ flatV y = true ∧ ys.all flatV = true ∧ ys[j]? = some z ∧ eqV z y = true ∧
  (∀ (m : Nat) (z' : V), m < j → ys[m]? = some z' → eqV z' y = false) ∧ Q (.int (j : Nat)) H
theorem flat_at {ys : List V} (f : ys.all flatV = true) {j : Nat} {z : V} (h : ys[j]? = some z) : flatV z = true := List.all_eq_true.mp f z (List.mem_of_getElem? h)
theorem mt_index : MtR X "list.index" (rIndex X.K) := by
  intro pins s σ H x xs v us Q I rx rxs h
  obtain ⟨a, ys, y, j, z, rfl, rfl, hs, fy, fys, hz, hzj, hno, q⟩ := h
  cases rx
  cases rxs with
  | cons ry rt =>
    rename_i uy ut
    cases rt
    obtain ⟨its, rv, ⟨⟨cls, dd, data, sl⟩, n, ho, hc, hdn, hd⟩, hlen⟩ := I.list hs
    simp only at hc hd
    subst hc hd
    obtain ⟨u, hu, ru⟩ := rv.get hz
    obtain ⟨hjl, hje⟩ := List.getElem?_eq_some_iff.mp hu
    have hvl := rv.length
    have hj : j < its.toArray.size := by simpa using hjl
    have hsl := sizeLine_eq
    refine call_meets PySem.F.slot_list_index ⟨_, ho, rfl⟩ PySem.F.entry_list_index (PySem.F.args_list_index_2 _ _)
      (SeqAt.list_indexAt a its.toArray n dd sl uy (eqU y) j hj (by omega) ?_ ?_) ⟨ho, fun u' hu' => mem_eqAt ry fy rv fys u' (by simpa using hu'), ?_⟩
    · have e1 : its.toArray[j] = u := by simpa using hje
      rw [e1, eqU_of ru (flat_at fys hz)]
      exact hzj
    · intro m hm hmj
      have hml : m < its.length := by simpa using hm
      have hmy : m < ys.length := by omega
      have hy' : ys[m]? = some ys[m] := List.getElem?_eq_getElem hmy
      obtain ⟨u2, hu2, ru2⟩ := rv.get hy'
      obtain ⟨_, hme⟩ := List.getElem?_eq_some_iff.mp hu2
      have e1 : its.toArray[m] = u2 := by simpa using hme
      rw [e1, eqU_of ru2 (flat_at fys hy')]
      exact hno m _ hmj hy'
    · exact ⟨.int (j : Nat), H, I.tok _, ⟨_, rfl⟩, q⟩
end
/-! ### type(x) of an own instance; is, is not of a module's class -/
section
variable {X : Cx}
end
/-! ### any(xs), all(xs) of a list of bools -/
theorem iter_any {prog : Program} {w : World} {A : Around} {E : Value → Shared → Prop} {s : Shared} {l : Addr} {items : Array Value} {Q : Value → Shared → Prop} (hl : s.heap.IsList l items)
    (h : ∀ s₂ : Shared, s₂ = { s with heap := s.heap.push { cls := .type "list_iterator", data := .fields #[.ref l, .int 0 0] } } →
      (s₂.heap.IsListIter s.heap.objs.size l 0 ∧ s₂.heap.IsList l items) → l ≠ s.heap.objs.size → Q (.ref s.heap.objs.size) s₂) : wpAny (model prog w) A (pyIter (.ref l)) Q E s := by
  have hlt : l < s.heap.objs.size := by obtain ⟨_, e, _⟩ := hl; exact Heap.lt_size e
  exact wpAny_pyIter_list hl (h _ rfl ⟨⟨_, Heap.get?_push_size _ rfl, rfl, rfl⟩, hl.push _⟩ (Nat.ne_of_lt hlt))
theorem truth_bools {prog : Program} {w : World} {A : Around} {bs : List Bool} {its : List Value} (e : its = bs.map Value.bool) :
    TruthOf prog w A (fun i v => its.toArray[i]? = some v) (fun i => bs.getD i false) := fun i v s Q E hv hq => by
  have hv' : its[i]? = some v := by simpa using hv
  rw [e, List.getElem?_map] at hv'
  obtain ⟨b, hb, rfl⟩ := Option.map_eq_some_iff.mp hv'
  have hg : bs.getD i false = b := by rw [List.getD_eq_getElem?_getD, hb] <;> rfl
  have hq' : Q (bs.getD i false) s := hq
  rw [hg] at hq'
  exact wpAny_truthy_bool hq'
theorem any_range : ∀ bs : List Bool, (List.range bs.length).any (fun i => bs.getD i false) = bs.any id
  | [] => rfl
  | b :: bs => by
    rw [List.length_cons, List.range_succ_eq_map, List.any_cons, List.any_map, List.any_cons, ← any_range bs]
    all_goals rfl
theorem all_range : ∀ bs : List Bool, (List.range bs.length).all (fun i => bs.getD i false) = bs.all id
  | [] => rfl
  | b :: bs => by
    rw [List.length_cons, List.range_succ_eq_map, List.all_cons, List.all_map, List.all_cons, ← all_range bs]
    all_goals rfl
section
variable {X : Cx}
def rAll (K : PySem.W.Frag) : List V → Hp → VK → Prop := fun vs H Q => ∃ (a : Addr) (bs : List Bool), vs = [V.ref a] ∧ SqL K H a (bs.map V.bl) ∧ Q (.bl (bs.all id)) H
theorem cr_all (hc : X.calm = true) : CallR X (.builtin "all") (rAll X.K) := by
  intro pins s σ H vs us Q I r h
  obtain ⟨a, bs, rfl, hs, q⟩ := h
  obtain ⟨its, rv, hl, _⟩ := I.list hs
  rw [Vals.ref1 r]
  have hb := rv.bls
  refine call_all_walk (iter_any hl.isList fun s₂ e2 st hne => ?_)
  subst e2
  refine ⟨_, _, _, _, _, _, _, rfl, Walks.list (A := X.A.in1) (I.ok.hd hc) _ a hne its.toArray, st, truth_bools hb, fun h' tk hk => ?_⟩
  refine ⟨.bl _, H, I.kept fun b o eo => hk b o (fun hmem => ?_) (Heap.get?_push_of_some _ eo), ?_, q⟩
  · rcases List.mem_cons.mp hmem with e1 | hmem
    · exact absurd (e1 ▸ Heap.lt_size eo) (Nat.lt_irrefl _)
    · cases hmem
  · show Value.bool _ = Value.bool _
    rw [← all_range, hb, List.size_toArray, List.length_map]
end
/-! ### == and != of data at any depth: none, bools, ints, texts, lists, tuples -/
section
variable {X : Cx} {pins : List (Addr × Obj)} {σ : St} {H : Hp} {s : Shared}
end
section
variable {X : Cx}
end
end L2
namespace L2
open PySem PySem.Spec PyProof.Rows
abbrev CellAt (h : Heap) (c : Addr) (v : Option Value) : Prop := h.IsCell c v
def relS (scope sc : Scope) : Scope :=
  { scope with names := scope.names.map fun (n, k) => if (k == .free && sc.kind == .function && sc.names.lookup n == some .cell) then (n, .cell) else (n, k) }

def cloFrom (cells : List (Str × Addr)) : List (Str × NameKind) → List (Str × Addr) → List (Str × Addr)
  | [], acc => acc
  | (n, k) :: r, acc => if k == .free then cloFrom cells r ((n, (cells.lookup n).getD 0) :: acc) else cloFrom cells r acc

theorem closure_loop (env : Env) (f : Str × NameKind → List (Str × Addr) → Sem (ForInStep (List (Str × Addr))))
    (hf : ∀ n k c, f (n, k) c = if k == .free then (do let a ← cellOf env n; pure (.yield ((n, a) :: c))) else pure (.yield c)) :
    ∀ (names : List (Str × NameKind)) (acc : List (Str × Addr)), (∀ y ∈ names, y.2 = .free → ∃ c, env.cells.lookup y.1 = some c) → forIn names acc f = pure (cloFrom env.cells names acc)
  | [], acc, _ => by rw [List.forIn_nil]; rfl
  | (n, k) :: r, acc, h => by
    rw [List.forIn_cons, hf]
    have ih := fun acc => closure_loop env f hf r acc fun y hy => h y (List.mem_cons_of_mem _ hy)
    unfold cloFrom
    by_cases hk : (k == NameKind.free) = true
    · rw [if_pos hk, if_pos hk]
      obtain ⟨c, hc⟩ := h (n, k) List.mem_cons_self (by simpa using hk)
      have e : cellOf env n = pure c := by unfold cellOf; rw [hc]
      rw [e]
      have e2 : (env.cells.lookup n).getD 0 = c := by rw [hc]; rfl
      rw [e2]
      exact ih _
    · rw [if_neg hk, if_neg hk]
      exact ih _
theorem closure_ok {scope : Scope} {env : Env} (h : ∀ y ∈ scope.names, y.2 = .free → ∃ c, env.cells.lookup y.1 = some c) : closureFor scope env = pure (cloFrom env.cells scope.names []) := by
  simp only [closureFor]
  rw [closure_loop env _ (fun n k c => rfl) scope.names [] h]
  rfl

theorem mem_lookup {α : Type} : ∀ {l : List (Str × α)} {n : Str} {c : α}, (n, c) ∈ l → ∃ c', l.lookup n = some c'
  | (k, v) :: r, n, c, h => by
    rw [List.lookup_cons]
    cases hb : n == k with
    | true => exact ⟨_, rfl⟩
    | false =>
      rcases List.mem_cons.mp h with e | h
      · cases e; simp at hb
      · exact mem_lookup h

theorem cloFrom_mem {cells : List (Str × Addr)} : ∀ {names : List (Str × NameKind)} {acc : List (Str × Addr)} {n : Str} {c : Addr}, (n, c) ∈ cloFrom cells names acc → (n, c) ∈ acc ∨ ((n, .free) ∈ names ∧ c = (cells.lookup n).getD 0)
  | [], _, _, _, h => .inl h
  | (m, k) :: r, acc, n, c, h => by
    unfold cloFrom at h
    split at h
    · rename_i hk
      have hk : k = .free := by simpa using hk
      rcases cloFrom_mem h with h | ⟨h1, h2⟩
      · rcases List.mem_cons.mp h with e | h
        · cases e; exact .inr ⟨hk ▸ List.mem_cons_self, rfl⟩
        · exact .inl h
      · exact .inr ⟨List.mem_cons_of_mem _ h1, h2⟩
    · rcases cloFrom_mem h with h | ⟨h1, h2⟩
      · exact .inl h
      · exact .inr ⟨List.mem_cons_of_mem _ h1, h2⟩
theorem cloFrom_acc {cells : List (Str × Addr)} : ∀ {names : List (Str × NameKind)} {acc : List (Str × Addr)} {p : Str × Addr}, p ∈ acc → p ∈ cloFrom cells names acc
  | [], _, _, h => h
  | (m, k) :: r, acc, p, h => by
    unfold cloFrom
    split
    · exact cloFrom_acc (List.mem_cons_of_mem _ h)
    · exact cloFrom_acc h
theorem cloFrom_has {cells : List (Str × Addr)} : ∀ {names : List (Str × NameKind)} {acc : List (Str × Addr)} {n : Str}, (n, .free) ∈ names → (n, (cells.lookup n).getD 0) ∈ cloFrom cells names acc
  | (m, k) :: r, acc, n, h => by
    unfold cloFrom
    rcases List.mem_cons.mp h with e | h
    · cases e
      exact cloFrom_acc List.mem_cons_self
    · split
      · exact cloFrom_has h
      · exact cloFrom_has h

theorem cells_mem : ∀ {names : List (Str × NameKind)} {h : Heap} {acc : List (Str × Addr)} {x : Str} {c : Addr}, (x, c) ∈ cellsFrom h.objs.size names acc →
    (x, c) ∈ acc ∨ ((x, .cell) ∈ names ∧ h.objs.size ≤ c ∧ CellAt (pushCells h names) c none)
  | [], _, _, _, _, h => .inl h
  | (n, k) :: r, h, acc, x, c, hm => by
    unfold cellsFrom at hm
    unfold pushCells
    split at hm
    · rename_i hk
      rw [if_pos hk]
      have hk : k = .cell := by simpa using hk
      rw [← Heap.size_push h { cls := .type "cell", data := .cell none }] at hm
      rcases cells_mem hm with hm | ⟨h1, h2, h3⟩
      · rcases List.mem_cons.mp hm with e | hm
        · cases e
          exact .inr ⟨hk ▸ List.mem_cons_self, Nat.le_refl _, _, pushCells_keeps r _ _ _ (Heap.get?_push_size _ rfl), rfl⟩
        · exact .inl hm
      · rw [Heap.size_push] at h2
        exact .inr ⟨List.mem_cons_of_mem _ h1, Nat.le_of_succ_le h2, h3⟩
    · rename_i hk
      rw [if_neg hk]
      rcases cells_mem hm with hm | ⟨h1, h2, h3⟩
      · exact .inl hm
      · exact .inr ⟨List.mem_cons_of_mem _ h1, h2, h3⟩
theorem cells_acc : ∀ {names : List (Str × NameKind)} {n : Nat} {acc : List (Str × Addr)} {p : Str × Addr}, p ∈ acc → p ∈ cellsFrom n names acc
  | [], _, _, _, h => h
  | (m, k) :: r, n, acc, p, h => by
    unfold cellsFrom
    split
    · exact cells_acc (List.mem_cons_of_mem _ h)
    · exact cells_acc h
theorem cells_has : ∀ {names : List (Str × NameKind)} {n : Nat} {acc : List (Str × Addr)} {x : Str}, (x, .cell) ∈ names → ∃ c, (x, c) ∈ cellsFrom n names acc
  | (m, k) :: r, n, acc, x, h => by
    unfold cellsFrom
    rcases List.mem_cons.mp h with e | h
    · cases e
      exact ⟨n, cells_acc List.mem_cons_self⟩
    · split
      · exact cells_has h
      · exact cells_has h
theorem cells_inj : ∀ {names : List (Str × NameKind)} {h : Heap} {acc : List (Str × Addr)} {x y : Str} {c : Addr}, (∀ p ∈ acc, p.2 < h.objs.size) → (∀ x y c, (x, c) ∈ acc → (y, c) ∈ acc → x = y) →
    (x, c) ∈ cellsFrom h.objs.size names acc → (y, c) ∈ cellsFrom h.objs.size names acc → x = y
  | [], _, _, _, _, _, _, hi, h1, h2 => hi _ _ _ h1 h2
  | (n, k) :: r, h, acc, x, y, c, hl, hi, h1, h2 => by
    unfold cellsFrom at h1 h2
    split at h1
    · rename_i hk
      rw [if_pos hk] at h2
      rw [← Heap.size_push h { cls := .type "cell", data := .cell none }] at h1 h2
      refine cells_inj (h := h.push _) (fun p hp => ?_) (fun x y c a b => ?_) h1 h2
      · rw [Heap.size_push]
        rcases List.mem_cons.mp hp with rfl | hp
        · exact Nat.lt_succ_self _
        · exact Nat.lt_succ_of_lt (hl p hp)
      · rcases List.mem_cons.mp a with e | a <;> rcases List.mem_cons.mp b with e' | b
        · cases e; cases e'; rfl
        · cases e; exact absurd (hl _ b) (Nat.lt_irrefl _)
        · cases e'; exact absurd (hl _ a) (Nat.lt_irrefl _)
        · exact hi _ _ _ a b
    · rename_i hk
      rw [if_neg hk] at h2
      exact cells_inj hl hi h1 h2

theorem newEnv_comp {M : Model} {A : Around} {E : Value → Shared → Prop} {s : Shared} {scope : Scope} {globals : Addr} {closure : List (Str × Addr)} {qual : Str} {func : Option Addr} {code : Value} {around : Env} {builtins : Addr} {Q : Env → Shared → Prop}
    (h : Q (newEnv scope s.heap.objs.size globals (cellsFrom (s.heap.objs.size + 1) scope.names closure) qual func code (some around) builtins)
      { s with heap := pushCells (s.heap.push { cls := .type "dict", data := .dict #[] }) scope.names }) :
    wpAny M A (newFunctionEnv scope globals closure [] qual func code (some around) builtins) Q E s := by
  simp only [newFunctionEnv, Option.isSome_some, if_true]
  refine wpAny_bind (wpAny_alloc ?_)
  refine wpAny_bind (wpAny_layCells _ (fun n k c => rfl) scope.names closure _ _ ?_)
  rw [show ({ s with heap := s.heap.push { cls := .type "dict", data := .dict #[] } } : Shared).heap.objs.size = s.heap.objs.size + 1 from Heap.size_push ..]
  rw [List.forIn_nil]
  exact wpAny_bind (wpAny_pure (wpAny_pure h))

/-- every name of the written scope, in the scope that runs -/
theorem lookup_relS {sc : Scope} : ∀ {names : List (Str × NameKind)} {x : Str} {k : NameKind},
    (names.map fun (n, k) => if (k == NameKind.free && sc.kind == .function && sc.names.lookup n == some .cell) then (n, NameKind.cell) else (n, k)).lookup x = some k →
    ∃ k', names.lookup x = some k' ∧ (k = k' ∨ (k' = .free ∧ k = .cell))
  | [], _, _, h => by simp at h
  | (n, k₀) :: r, x, k, h => by
    have ih := @lookup_relS sc r x k
    have h' : List.lookup x ((if (k₀ == NameKind.free && sc.kind == .function && sc.names.lookup n == some .cell) = true then (n, NameKind.cell) else (n, k₀)) :: (r.map _)) = some k := h
    cases hx : x == n with
    | true =>
      simp only [List.lookup_cons, hx]
      by_cases hc : (k₀ == NameKind.free && sc.kind == .function && sc.names.lookup n == some .cell) = true
      · rw [if_pos hc] at h'
        simp only [List.lookup_cons, hx] at h'
        cases h'
        simp only [Bool.and_eq_true, beq_iff_eq] at hc
        exact ⟨k₀, rfl, .inr ⟨hc.1.1, rfl⟩⟩
      · rw [if_neg hc] at h'
        simp only [List.lookup_cons, hx] at h'
        cases h'
        exact ⟨_, rfl, .inl rfl⟩
    | false =>
      simp only [List.lookup_cons, hx]
      by_cases hc : (k₀ == NameKind.free && sc.kind == .function && sc.names.lookup n == some .cell) = true
      · rw [if_pos hc] at h'
        simp only [List.lookup_cons, hx] at h'
        exact ih h'
      · rw [if_neg hc] at h'
        simp only [List.lookup_cons, hx] at h'
        exact ih h'
/-- the names of a comprehension's block: its own (with their places in N), or captured -/
structure BlkOk (N : List Str) (sc scope : Scope) (own : List (Str × Nat)) : Prop where
  kind : scope.kind = .function
  uniq : ∀ y ∈ scope.names, scope.names.lookup y.1 = some y.2
  ix : ∀ p ∈ own, N[p.2]? = some p.1
  free : ∀ y ∈ scope.names, y.2 = .free → sc.names.lookup y.1 = some .cell ∨ sc.names.lookup y.1 = some .free
  own : ∀ y ∈ scope.names, y.2 = .local ∨ y.2 = .cell → y.1 ∈ own.map (·.1) ∨ y.1 ∉ N
/-- the slots of the block's own names forgotten -/
def wipe (σ : St) : List Nat → St
  | [] => σ
  | v :: vs => (wipe σ vs).set v none
theorem wipe_length (σ : St) : ∀ vs : List Nat, (wipe σ vs).length = σ.length
  | [] => rfl
  | v :: vs => by unfold wipe; rw [List.length_set, wipe_length σ vs]
theorem wipe_some {σ : St} {i : Nat} {x : V} : ∀ {vs : List Nat}, (wipe σ vs)[i]? = some (some x) → σ[i]? = some (some x) ∧ i ∉ vs
  | [], h => ⟨h, by simp⟩
  | v :: vs, h => by
    unfold wipe at h
    by_cases hi : v = i
    · subst hi
      by_cases hv : v < (wipe σ vs).length
      · rw [List.getElem?_set_self hv] at h; cases h
      · rw [List.getElem?_eq_none (by simpa using hv)] at h; cases h
    · rw [List.getElem?_set_ne hi] at h
      obtain ⟨h1, h2⟩ := wipe_some h
      exact ⟨h1, by simp only [List.mem_cons, not_or]; exact ⟨fun e => hi e.symm, h2⟩⟩

/-- the context of a block that starts at s, its iterator's objects at fp -/
abbrev Cx.blk (X : Cx) (s : Shared) (H : Hp) (scope : Scope) (cenv : Env) (fp : List Addr) : Cx := { X with s_0 := s, H_0 := H, env := cenv, outer := X.stack, ex := fp, fn := fun x => scope.names.lookup x == some .cell, pn := [], xe := fun _ _ => False }
section
variable {X : Cx} {pins : List (Addr × Obj)} {σ : St} {H : Hp} {s : Shared}
theorem block_start {scope : Scope} {own : List (Str × Nat)} {fp : List Addr} (I : Inv X pins σ H s) (ok : BlkOk X.N X.env.scope scope own) (hN : X.N.Nodup) (hfp : ∀ b ∈ fp, FpOk X pins H b ∧ b < s.heap.objs.size) :
    Inv (X.blk s H scope (compEnvC scope (cellsFrom (s.heap.objs.size + 1) scope.names (cloFrom X.env.cells scope.names [])) s.heap.objs.size X.env) fp) [] (wipe σ (own.map (·.2))) H { s with heap := pushCells (s.heap.push { cls := .type "dict", data := .dict #[] }) scope.names } := by
  have hfree : ∀ y ∈ scope.names, y.2 = .free → ∃ c, X.env.cells.lookup y.1 = some c := fun y hy e => by
    rcases ok.free y hy e with k | k
    · exact I.ok.has _ (.inl k)
    · exact I.ok.has _ (.inr k)
  generalize hcenv : compEnvC scope (cellsFrom (s.heap.objs.size + 1) scope.names (cloFrom X.env.cells scope.names [])) s.heap.objs.size X.env = cenv
  have kp : ∀ b o, s.heap.get? b = some o → (pushCells (s.heap.push { cls := .type "dict", data := .dict #[] }) scope.names).get? b = some o := fun b o e => pushCells_keeps _ _ _ _ (Heap.get?_push_of_some _ e)
  have hL : cenv.locals = s.heap.objs.size := by rw [← hcenv]; rfl
  have hcl : cenv.cells = cellsFrom (s.heap.objs.size + 1) scope.names (cloFrom X.env.cells scope.names []) := by rw [← hcenv]; rfl
  have hsc : cenv.scope = relS scope X.env.scope := by rw [← hcenv]; rfl
  rw [← Heap.size_push s.heap { cls := .type "dict", data := .dict #[] }] at hcl
  have cm : ∀ {y c}, (y, c) ∈ cloFrom X.env.cells scope.names [] → X.env.cells.lookup y = some c ∧ c < s.heap.objs.size := fun {y c} hm => by
    rcases cloFrom_mem hm with hm | ⟨h1, rfl⟩
    · cases hm
    · obtain ⟨c, hc⟩ := hfree _ h1 rfl
      rw [hc]
      obtain ⟨w, z⟩ := I.cell _ _ hc
      exact ⟨rfl, z.lt⟩
  have mem : ∀ {y c}, cenv.cells.lookup y = some c → (X.env.cells.lookup y = some c ∧ c < s.heap.objs.size) ∨ (s.heap.objs.size + 1 ≤ c ∧ CellAt (pushCells (s.heap.push { cls := .type "dict", data := .dict #[] }) scope.names) c none) := fun {y c} e => by
    rw [hcl] at e
    rcases cells_mem (PySem.mem_of_lookup e) with hm | ⟨_, h2, h3⟩
    · exact .inl (cm hm)
    · rw [Heap.size_push] at h2; exact .inr ⟨h2, h3⟩
  have look : ∀ {y}, scope.names.lookup y = some .free → ∃ c, cenv.cells.lookup y = some c ∧ X.env.cells.lookup y = some c := fun {y} hl => by
    have hy : (y, NameKind.free) ∈ scope.names := PySem.mem_of_lookup hl
    obtain ⟨c', e'⟩ := mem_lookup (cells_acc (names := scope.names) (n := (s.heap.push { cls := .type "dict", data := .dict #[] }).objs.size) (cloFrom_has (cells := X.env.cells) (acc := []) hy))
    rw [← hcl] at e'
    refine ⟨c', e', ?_⟩
    rw [hcl] at e'
    rcases cells_mem (PySem.mem_of_lookup e') with hm | ⟨h1, _, _⟩
    · exact (cm hm).1
    · have := ok.uniq _ h1
      rw [hl] at this; cases this
  have okB : (X.blk s H scope cenv fp).Ok := by
    refine ⟨I.ok.mod, by show cenv.scope.kind = _; rw [hsc]; exact ok.kind, by show cenv.globals = _; rw [← hcenv]; exact I.ok.glob, by show cenv.builtins = _; rw [← hcenv]; exact I.ok.blt, by show s.heap.objs.size ≤ cenv.locals; rw [hL]; exact Nat.le_refl _,
      fun y z c e1 e2 => ?_, fun y hy => ?_, fun y c z e => ?_, I.ok.hd, I.ok.frames, .inl rfl, fun b hb => ⟨?_, fun y c e z => ?_⟩, I.bs, Nat.le_trans I.ok.bsz I.sz, fun b o e hb => ?_, fun b hb z => ?_, I.stack, I.stkFree⟩
    · have e1 : cenv.cells.lookup y = some c := e1
      have e2 : cenv.cells.lookup z = some c := e2
      rw [hcl] at e1 e2
      refine cells_inj (fun p hp => ?_) (fun y z c a b => I.ok.inj y z c (cm a).1 (cm b).1) (PySem.mem_of_lookup e1) (PySem.mem_of_lookup e2)
      rw [Heap.size_push]
      exact Nat.lt_succ_of_lt (cm (y := p.1) (c := p.2) hp).2
    · show ∃ c, cenv.cells.lookup y = some c
      have key : ∀ k, cenv.kindOf y = some k → (k = .cell ∨ k = .free) → ∃ c, cenv.cells.lookup y = some c := fun k hk hk' => by
        unfold Env.kindOf at hk
        rw [hsc] at hk
        obtain ⟨k', e, r⟩ := lookup_relS hk
        have : k' = .cell ∨ k' = .free := by
          rcases r with rfl | ⟨rfl, _⟩
          · exact hk'
          · exact .inr rfl
        rcases this with rfl | rfl
        · obtain ⟨c, hm⟩ := cells_has (n := (s.heap.push { cls := .type "dict", data := .dict #[] }).objs.size) (acc := cloFrom X.env.cells scope.names []) (PySem.mem_of_lookup e)
          obtain ⟨c', e'⟩ := mem_lookup hm
          exact ⟨c', by rw [hcl]; exact e'⟩
        · obtain ⟨c, h1, _⟩ := look e
          exact ⟨c, h1⟩
      rcases hy with hy | hy
      · exact key _ hy (.inl rfl)
      · exact key _ hy (.inr rfl)
    · have z : (scope.names.lookup y == some NameKind.cell) = true := z
      have z : scope.names.lookup y = some .cell := by simpa using z
      have e : cenv.cells.lookup y = some c := e
      rw [hcl] at e
      rcases cells_mem (PySem.mem_of_lookup e) with hm | ⟨_, h2, _⟩
      · rcases cloFrom_mem hm with hm | ⟨h1, _⟩
        · cases hm
        · have q := ok.uniq _ h1
          rw [z] at q; cases q
      · rw [Heap.size_push] at h2
        exact Nat.le_of_succ_le h2
    · show b ≠ cenv.locals
      rw [hL]; exact Nat.ne_of_lt (hfp b hb).2
    · have e : cenv.cells.lookup y = some c := e
      rcases mem e with ⟨h1, _⟩ | ⟨h1, _⟩
      · exact (hfp b hb).1.2.2.2.2.1 y c h1 z
      · have h2 : s.heap.objs.size + 1 ≤ b := by rw [← z]; exact h1
        exact absurd (Nat.lt_of_lt_of_le (hfp b hb).2 (Nat.le_of_succ_le h2)) (Nat.lt_irrefl _)
    · rcases (hfp b hb).1.2.2.2.1 with z | z
      · exact I.ok.noex b o e z
      · exact absurd (Nat.lt_of_lt_of_le (Heap.lt_size e) (Nat.le_trans I.ok.bsz z)) (Nat.lt_irrefl _)
    · rcases List.mem_cons.mp (I.stkSub b z) with z | z
      · exact (hfp b hb).1.2.1 z
      · exact (hfp b hb).1.2.2.1 z
  refine ⟨okB, rfl, I.bare, Un.kept kp, ⟨fun _ => none, ?_, fun i y av e1 e2 e3 => ?_⟩, fun y c e => ?_, ?_, fun y c e => ?_, fun p hp => ?_, I.hok.kept kp, by rw [wipe_length]; exact I.len⟩
  · show Heap.Ns _ cenv.locals _
    rw [hL]
    exact Heap.Ns.keeps (Heap.Ns.new ..) fun b o e => pushCells_keeps _ _ _ _ e
  · obtain ⟨e2, hne⟩ := wipe_some e2
    have hfr : scope.names.lookup y = some .free ∧ (cenv.kindOf y = some .cell ∨ cenv.kindOf y = some .free) := by
      have key : ∀ k, cenv.scope.names.lookup y = some k → k = .local ∨ k = .cell ∨ k = .free → scope.names.lookup y = some .free ∧ (cenv.kindOf y = some .cell ∨ cenv.kindOf y = some .free) := fun k hk hk' => by
        have hk0 := hk
        rw [hsc] at hk
        obtain ⟨k', e, r⟩ := lookup_relS hk
        have no : ¬ (k' = .local ∨ k' = .cell) := fun hh => by
          rcases ok.own _ (PySem.mem_of_lookup e) hh with e' | e'
          · obtain ⟨p, hp, hpy⟩ := List.mem_map.mp e'
            have e3 := ok.ix p hp
            have : p.1 = y := hpy
            rw [this] at e3
            exact hne (List.mem_map.mpr ⟨p, hp, nodup_ix hN e3 e1⟩)
          · exact e' (List.mem_of_getElem? e1)
        rcases r with rfl | ⟨rfl, rfl⟩
        · rcases hk' with rfl | rfl | rfl
          · exact absurd (.inl rfl) no
          · exact absurd (.inr rfl) no
          · exact ⟨e, .inr hk0⟩
        · exact ⟨e, .inl hk0⟩
      have e3 : Vis cenv.scope y := e3
      rcases e3 with e3 | e3 | e3
      · exact key _ e3 (.inl rfl)
      · exact key _ e3 (.inr (.inl rfl))
      · exact key _ e3 (.inr (.inr rfl))
    obtain ⟨m, hn, hl⟩ := I.loc
    have hvis : Vis X.env.scope y := (ok.free _ (PySem.mem_of_lookup hfr.1) rfl).elim (fun k => .inr (.inl k)) (fun k => .inr (.inr k))
    obtain ⟨w, r, q⟩ := hl i y av e1 e2 hvis
    refine ⟨w, r, .inr ⟨hfr.2, ?_⟩⟩
    obtain ⟨c, h1, h2⟩ := look hfr.1
    rcases q with ⟨k, _⟩ | ⟨_, c', e', z⟩
    · have k : X.env.scope.names.lookup y = some .local := k
      rcases ok.free _ (PySem.mem_of_lookup hfr.1) rfl with k' | k' <;> rw [show X.env.scope.names.lookup y = _ from k'] at k <;> cases k
    · rw [h2] at e'; cases e'
      exact ⟨c, h1, z.keeps kp⟩
  · have e : cenv.cells.lookup y = some c := e
    rcases mem e with ⟨h1, _⟩ | ⟨_, z⟩
    · obtain ⟨w, z⟩ := I.cell y c h1
      exact ⟨w, z.keeps kp⟩
    · exact ⟨_, z⟩
  · show H cenv.locals = none
    rw [hL]; exact I.hok.fresh (Nat.le_refl _)
  · have e : cenv.cells.lookup y = some c := e
    rcases mem e with ⟨h1, _⟩ | ⟨h1, _⟩
    · exact I.freeC y c h1
    · exact I.hok.fresh (Nat.le_of_succ_le h1)
  · exact absurd (show p ∈ ([] : List (Addr × Obj)) ++ [] from hp) (by simp)

/-- an item appended to a tracked list -/
theorem app_ok {E : Value → Shared → Prop} {D : Addr} {xs : List V} {y : V} {v : Value} {Q : Value → Shared → Prop} (I : Inv X pins σ H s) (hD : H D = some (.lst xs)) (hz : xs.length < sizeLine) (r : RelV y v)
    (h : ∀ s', Inv X pins σ (upd H D (.lst (xs ++ [y]))) s' → Q .none s') : wpAny (model X.prog X.w) X.A (call (.builtin "list.append") [.ref D, v]) Q E s := by
  obtain ⟨hz', its, n, ri, e⟩ := I.hok D _ hD
  have hl := ri.length
  refine append_at (hsz := by rw [List.size_toArray]; omega) e fun h' sb ho' => ?_
  refine h { s with heap := h' } (I.write (t' := s.toks) (by rw [hD]; trivial) (.inl rfl) (fun b u hb q => (sb.2 b hb).trans q) ⟨_, ho'⟩ ⟨by rw [List.length_append]; exact hz, its ++ [v], n + 1, ri.append (.cons r .nil), ?_⟩)
  rw [ho']
  simp

/-- a clause's tests -/
def PTs (X : Cx) (ifs : List Expr) (t : TT) : Prop :=
  ∀ (pins : List (Addr × Obj)) (s : Shared) (σ : St) (H : Hp) (Q : Bool → Hp → Prop), Inv X pins σ H s → t σ H Q →
    wpAny (model X.prog X.w) X.A (forIn ifs true fun c r => if r = true then do let ok ← isTrue c X.env (eval c X.env); pure (ForInStep.yield ok) else pure (ForInStep.yield r)) (TP X pins σ Q) X.xe s
def tYes : TT := fun _ H Q => Q true H
theorem pts_nil : PTs X [] tYes := fun _ _ _ H _ I h => wpAny_tests_nil ⟨H, I, h⟩
end
theorem thnF {α : Type} {t : Sem α} {Q Q' : α → Shared → Prop} {M : Model} {A : Around} {E : Value → Shared → Prop} {s : Shared} (h : wpAny M A t Q (fun _ _ => False) s) (hQ : ∀ a s, Q a s → Q' a s) : wpAny M A t Q' E s := wpAny_mono h hQ fun _ _ z => False.elim z

/-- the loop of a list comprehension's block, the target of any form (codeAny_compLoop_tests asks a target that no tuple goes to; statement and proof follow it, PyProof/CompMap.lean:41-61, with the step letOwnedTupleGo kept) -/
theorem compLoop_any {prog : Program} {w : World} {A : Around} {R : Result → Shared → Prop} {s : Shared} {elt target iter : Expr} {ifs : List Expr} {scope : Scope} {pos : Pos} {it acc : Value} {env : Env} (I : Nat → Shared → Prop)
    (turn : ∀ n s, I n s → wpAny (model prog w) A (pyNext it) (fun r s₁ => match r with
      | none => R (.ok .next) s₁
      | some v => wpAny (model prog w) A (letOwnedTupleGo target it v) (fun _ s₁' => wpAny (model prog w) A (assign target env v) (fun _ s₂ =>
          wpAny (model prog w) A (forIn ifs true fun c r => if r = true then do let ok ← isTrue c env (eval c env); pure (ForInStep.yield ok) else pure (ForInStep.yield r)) (fun ok s₃ =>
            if ok = true then wpAny (model prog w) A (eval elt env) (fun x s₄ =>
              wpAny (model prog w) A (call (.builtin "list.append") [acc, x]) (fun _ s₅ => ∃ m, m < n ∧ I m s₅) (notedBy (model prog w) A env fun e s' => R (.error e) s') s₄) (notedBy (model prog w) A env fun e s' => R (.error e) s') s₃
            else ∃ m, m < n ∧ I m s₃) (notedBy (model prog w) A env fun e s' => R (.error e) s') s₂) (notedBy (model prog w) A env fun e s' => R (.error e) s') s₁') (notedBy (model prog w) A env fun e s' => R (.error e) s') s₁) (notedBy (model prog w) A env fun e s' => R (.error e) s') s)
    (n : Nat) (h : I n s) :
    codeAny (model prog w) A (.compLoop (.ListComp elt [⟨target, iter, ifs, 0⟩] scope pos) 0 it acc env) R s := by
  refine codeAny_loop rfl I (fun n s hI => ?_) n h
  show wpAny _ A ((compTurn (.ListComp elt [⟨target, iter, ifs, 0⟩] scope pos) 0 it acc env).onRaise (fun x => do noteFrame x env; theTreesLotGoes x)) _ _ s
  refine wpAny_noted ?_
  rw [compTurn_list]
  refine wpAny_bind (wpAny_standAt (wpAny_bind (wpAny_mono (turn n s hI) (fun r s₁ h₁ => ?_) fun _ _ h' => h')))
  cases r with
  | none => exact wpAny_pure h₁
  | some v =>
    refine wpAny_bind (wpAny_mono h₁ (fun _ s₁' h₁' => ?_) fun _ _ h' => h')
    refine wpAny_bind (wpAny_mono h₁' (fun _ s₂ h₂ => wpAny_bind (wpAny_mono h₂ (fun ok s₃ h₃ => ?_) fun _ _ h' => h')) fun _ _ h' => h')
    cases ok with
    | false => exact wpAny_pure ⟨rfl, h₃⟩
    | true =>
      exact wpAny_bind (wpAny_bind (wpAny_mono h₃ (fun x s₄ h₄ => wpAny_bind (wpAny_mono h₄ (fun _ s₅ h₅ => wpAny_pure (wpAny_pure ⟨rfl, h₅⟩)) fun _ _ h' => h')) fun _ _ h' => h'))

section
variable {X : Cx}
/-- [elt for target in iter if ..]: D the new list; W by the turn and a measure, Nx what a turn is to reach -/
def tLc (wi : TI) (g : TG) (tt : TT) (te : TE) (vs : List Nat) : TE := fun σ H Q => wi σ H fun J H1 => ∀ D, H1 D = none → ∃ W : Nat → Nat → Hp → Prop, (∃ m, W 0 m (upd H1 D (.lst []))) ∧ ∀ i m H, W i m H →
  (J.stop i H ∧ Q (.ref D) H) ∨ (J.go i H ∧ ∃ Nx : Hp → Prop, (∀ H', Nx H' → ∃ m', m' < m ∧ W (i + 1) m' H') ∧ ∀ x H', J.yld i H x H' → g x (wipe σ vs) H' fun σ2 H2 => wipe σ2 vs = wipe σ vs ∧ tt σ2 H2 fun b H3 =>
    if b = true then te σ2 H3 fun y H4 => ∃ acc, H4 D = some (.lst acc) ∧ acc.length < sizeLine ∧ Nx (upd H4 D (.lst (acc ++ [y]))) else Nx H3)
theorem lc_core {pins : List (Addr × Obj)} {s : Shared} {σ : St} {H : Hp} {Q : VK} {elt tg iter : Expr} {ifs : List Expr} {scope : Scope} {own : List (Str × Nat)} {pos pos' : Pos} {wi : TI} {g : TG} {tt : TT} {te : TE} {use : Option (Value → Sem Unit)} {Qf : Value → Shared → Prop}
    (hc : X.calm = true) (hN : X.N.Nodup) (I : Inv X pins σ H s) (hi : PI X tg iter wi) (ok : BlkOk X.N X.env.scope scope own)
    (hg : ∀ (s : Shared) (H : Hp) (C : Addr) (cl : List (Str × Addr)) (fp : List Addr), PG (X.blk s H scope (compEnvC scope cl C X.env) fp) tg g) (ht : ∀ (s : Shared) (H : Hp) (C : Addr) (cl : List (Str × Addr)) (fp : List Addr), PTs (X.blk s H scope (compEnvC scope cl C X.env) fp) ifs tt)
    (he : ∀ (s : Shared) (H : Hp) (C : Addr) (cl : List (Str × Addr)) (fp : List Addr), PE (X.blk s H scope (compEnvC scope cl C X.env) fp) elt te) (hs : ∀ x, foldedSetIterable iter X.env x = pure x)
    (h : tLc wi g tt te (own.map (·.2)) σ H Q)
    (hRR : ∀ D C s' m H', Inv X pins σ H' s' → Q (.ref D) H' → s'.heap.Ns C m → FpOk X pins H' C → compPost (model X.prog X.w) X.A X.xe use Qf (.ref D) C (.ok .next) s') :
    wpAny (model X.prog X.w) X.A (comprehension (.ListComp elt [⟨tg, iter, ifs, 0⟩] scope pos) scope X.env pos' (newList []) false (eval iter X.env) use) Qf X.xe s := by
  have hfree : ∀ y ∈ scope.names, y.2 = .free → ∃ c, X.env.cells.lookup y.1 = some c := fun y hy e => by
    rcases ok.free y hy e with k | k
    · exact I.ok.has _ (.inl k)
    · exact I.ok.has _ (.inr k)
  refine wpAny_comprehension_free (use := use) rfl hs (closure_ok hfree) ok.kind (fun y hy e => by rw [ok.uniq y hy, e])
    (thn (hi pins s σ H _ I h) fun xv s1 hx => thn hx fun itv s2 h2 => ?_)
  obtain ⟨it, fp, tn, J, H2, e, I2, T, st2, f2, q⟩ := h2
  subst e
  refine wpAny_newObj_type (newEnv_comp ?_) (by show 0 ≤ sizeLine; decide)
  generalize hD : s2.heap.objs.size = D
  have hDn : H2 D = none := I2.hok.fresh (Nat.le_of_eq hD)
  obtain ⟨W, ⟨m0, w0⟩, turn⟩ := q D hDn
  -- the new list
  generalize hs3 : ({ s2 with heap := s2.heap.push { cls := .type "list", data := .seq ([] : List Value).toArray } } : Shared) = s3
  have I3 : Inv X pins σ (upd H2 D (.lst [])) s3 := by
    rw [← hs3]
    refine I2.laid (t' := s2.toks) (fun b o e => Heap.get?_push_of_some _ e) (Nat.le_of_eq hD) ⟨Nat.zero_le _, [], 0, .nil, ?_⟩
    rw [← hD]
    exact Heap.get?_push_size _ rfl
  have h3 : s3.heap = s2.heap.push { cls := .type "list", data := .seq ([] : List Value).toArray } := by rw [← hs3]
  have sz : ∀ b ∈ fp, b < s2.heap.objs.size := fun b hb => by
    obtain ⟨o, e, _⟩ := T.obj _ _ st2 b hb
    exact Heap.lt_size e
  have f3 : ∀ b ∈ fp, FpOk X pins (upd H2 D (.lst [])) b ∧ b < s3.heap.objs.size := fun b hb => by
    have hlt := sz b hb
    refine ⟨⟨?_, (f2 b hb).2⟩, by rw [h3, Heap.size_push]; exact Nat.lt_succ_of_lt hlt⟩
    rw [upd_ne (by rw [← hD]; exact Nat.ne_of_lt hlt)]
    exact (f2 b hb).1
  have st3 : tn 0 s3.heap := T.keep _ _ _ st2 fun b _ o e => by rw [h3]; exact Heap.get?_push_of_some _ e
  have I4 := block_start I3 ok hN f3
  have pg := hg s3 (upd H2 D (.lst [])) s3.heap.objs.size (cellsFrom (s3.heap.objs.size + 1) scope.names (cloFrom X.env.cells scope.names [])) fp
  have pt := ht s3 (upd H2 D (.lst [])) s3.heap.objs.size (cellsFrom (s3.heap.objs.size + 1) scope.names (cloFrom X.env.cells scope.names [])) fp
  have pe := he s3 (upd H2 D (.lst [])) s3.heap.objs.size (cellsFrom (s3.heap.objs.size + 1) scope.names (cloFrom X.env.cells scope.names [])) fp
  show codeAny _ _ (.compStart (.ListComp elt [⟨tg, iter, ifs, 0⟩] scope pos) 0 (.ref it) (.ref D) (compEnvC scope (cellsFrom (s3.heap.objs.size + 1) scope.names (cloFrom X.env.cells scope.names [])) s3.heap.objs.size X.env)) (compPost (model X.prog X.w) X.A X.xe use Qf (.ref D) s3.heap.objs.size) { s3 with heap := pushCells (s3.heap.push { cls := .type "dict", data := .dict #[] }) scope.names }
  have nfp : ∀ b ∈ fp, (upd H2 D (.lst [])) b = none := fun b hb => (f3 b hb).1.1
  generalize hce : compEnvC scope (cellsFrom (s3.heap.objs.size + 1) scope.names (cloFrom X.env.cells scope.names [])) s3.heap.objs.size X.env = ce at I4 pg pt pe ⊢
  have cL : ce.locals = s3.heap.objs.size := by subst hce; rfl
  generalize hH3 : upd H2 D (.lst []) = H3 at I3 I4 pg pt pe w0 nfp f3
  generalize hs4 : ({ s3 with heap := pushCells (s3.heap.push { cls := .type "dict", data := .dict #[] }) scope.names } : Shared) = s4 at I4 ⊢
  have st4 : tn 0 s4.heap := T.keep _ _ _ st3 fun b _ o e => by rw [← hs4]; exact pushCells_keeps _ _ _ _ (Heap.get?_push_of_some _ e)
  have stat : ∀ {σ' : St} {H' : Hp} {s' : Shared}, Inv (X.blk s3 H3 scope ce fp) [] σ' H' s' → (∀ b ∈ fp, H' b = none) → ∀ b ∈ fp, FpOk (X.blk s3 H3 scope ce fp) [] H' b := fun {σ' H' s'} I' hn b hb =>
    ⟨hn b hb, (I'.ok.exf b hb).1, I'.ok.exfs b hb, .inl hb, fun x c e => (I'.ok.exf b hb).2 x c e, fun p hp => absurd (show p ∈ ([] : List (Addr × Obj)) ++ [] from hp) (by simp)⟩
  have loop : codeAny (model X.prog X.w) X.A (.compLoop (.ListComp elt [⟨tg, iter, ifs, 0⟩] scope pos) 0 (.ref it) (.ref D) ce) (compPost (model X.prog X.w) X.A X.xe use Qf (.ref D) s3.heap.objs.size) s4 := by
    refine compLoop_any (fun n s' => ∃ i H', Inv (X.blk s3 H3 scope ce fp) [] (wipe σ (own.map (·.2))) H' s' ∧ tn i s'.heap ∧ (∀ b ∈ fp, H' b = none) ∧ W i n H') ?_ m0 ⟨0, H3, I4, st4, nfp, w0⟩
    rintro n s5 ⟨i, H5, I5, st5, n5, w5⟩
    rcases turn i n H5 w5 with ⟨stop, qq⟩ | ⟨go, Nx, hNx, step⟩
    · have td := T.done (X.blk s3 H3 scope ce fp) rfl rfl rfl hc i [] s5 _ H5 (fun _ _ => False) I5 (stat I5 n5) st5 stop
      refine thnF td fun r s6 ⟨hr, I6⟩ => ?_
      subst hr
      -- back in the def's context
      have I7 : Inv X pins σ H5 s6 := I3.call' (ch := fp) I6.os I6.base I6.hok I6.bare fun b hb => ⟨(f3 b hb).1.2.2.2.1, (f3 b hb).1.2.1, (f3 b hb).1.2.2.2.2.1, (f3 b hb).1.2.2.2.2.2⟩
      have nC : H5 s3.heap.objs.size = none := by
        have z : H5 ce.locals = none := I6.free
        rw [cL] at z
        exact z
      obtain ⟨m, hn, _⟩ := I6.loc
      have hn : s6.heap.Ns ce.locals m := hn
      rw [cL] at hn
      exact hRR D s3.heap.objs.size s6 m H5 I7 qq hn (I3.fpOk (Nat.le_refl _) nC)
    · have ti := T.item (X.blk s3 H3 scope ce fp) rfl rfl rfl hc i [] s5 _ H5 (fun _ _ => False) I5 (stat I5 n5) st5 go
      refine thnF ti fun r s6 ⟨u, hr, h6⟩ => ?_
      subst hr
      refine thnF h6 fun _ s7 ⟨x, H7, I7, r7, y7, st7, n7⟩ => ?_
      have I7' := I7.pinned (stat I7 n7) (T.obj _ _ st7)
      refine thnF (pg _ s7 _ H7 x u _ I7' r7 (step x H7 y7)) fun _ s8 ⟨σ8, H8, I8, hw8, q8⟩ => ?_
      refine thnF (pt _ s8 σ8 H8 _ I8 q8) fun b s9 ⟨H9, I9, q9⟩ => ?_
      -- the turn's end
      have fin : ∀ {s' : Shared} {H' : Hp}, Inv (X.blk s3 H3 scope ce fp) ([] ++ pinsAt fp s7.heap) σ8 H' s' → Nx H' → ∃ m, m < n ∧ ∃ i H', Inv (X.blk s3 H3 scope ce fp) [] (wipe σ (own.map (·.2))) H' s' ∧ tn i s'.heap ∧ (∀ b ∈ fp, H' b = none) ∧ W i m H' := fun {s' H'} I' nx => by
        obtain ⟨m', hm, w'⟩ := hNx H' nx
        have pin' : ∀ b ∈ fp, ∀ o, s7.heap.get? b = some o → s'.heap.get? b = some o ∧ H' b = none := fun b hb o e =>
          let z := I'.pin (b, o) (List.mem_append_right _ (List.mem_append_right _ (mem_pinsAt hb e)))
          ⟨z.1, z.2.1⟩
        have hl : (wipe σ (own.map (·.2))).length = σ8.length := by rw [← hw8, wipe_length]
        refine ⟨m', hm, i + 1, H', (I'.unpinned (pins := [])).weak hl (fun j v e => ?_), T.keep _ _ _ st7 fun b hb o e => (pin' b hb o e).1, fun b hb => ?_, w'⟩
        · rw [← hw8] at e
          exact (wipe_some e).1
        · obtain ⟨o, e, _⟩ := T.obj _ _ st7 b hb
          exact (pin' b hb o e).2
      cases b with
      | false =>
        simp only [Bool.false_eq_true, if_false] at q9 ⊢
        exact fin I9 q9
      | true =>
        simp only [if_true] at q9 ⊢
        refine thnF (pe _ s9 σ8 H9 _ I9 q9) fun z s10 ⟨yv, H10, I10, r10, acc, hD10, hz10, nx⟩ => ?_
        exact app_ok (X := X.blk s3 H3 scope ce fp) I10 hD10 hz10 r10 fun s11 I11 => fin I11 nx
  exact codeAny_compStart_list loop (T.self X.A 0 _ _ _ st4 loop)
/-- as a value -/
theorem pe_lc {elt tg iter : Expr} {ifs : List Expr} {scope : Scope} {own : List (Str × Nat)} {pos : Pos} {wi : TI} {g : TG} {tt : TT} {te : TE} (hc : X.calm = true) (hN : X.N.Nodup) (hi : PI X tg iter wi) (ok : BlkOk X.N X.env.scope scope own)
    (hg : ∀ (s : Shared) (H : Hp) (C : Addr) (cl : List (Str × Addr)) (fp : List Addr), PG (X.blk s H scope (compEnvC scope cl C X.env) fp) tg g) (ht : ∀ (s : Shared) (H : Hp) (C : Addr) (cl : List (Str × Addr)) (fp : List Addr), PTs (X.blk s H scope (compEnvC scope cl C X.env) fp) ifs tt)
    (he : ∀ (s : Shared) (H : Hp) (C : Addr) (cl : List (Str × Addr)) (fp : List Addr), PE (X.blk s H scope (compEnvC scope cl C X.env) fp) elt te) (hs : ∀ x, foldedSetIterable iter X.env x = pure x := by intro _; rfl) :
    PE X (.ListComp elt [⟨tg, iter, ifs, 0⟩] scope pos) (tLc wi g tt te (own.map (·.2))) := by
  intro pins s σ H Q I h
  rw [eval_ListComp]
  refine lc_core hc hN I hi ok hg ht he hs h fun D C s' m H' I' q hn f => ⟨m, hn, fun h'' sb => ?_⟩
  obtain ⟨f0, f1, f2, f3, f4, f5⟩ := f
  exact ⟨.ref D, H', I'.turned (t' := s'.toks) (fun b o hb e => (sb.2 b hb).trans e) f0 f1 f3 f4 f5, rfl, q⟩
/-- name = [..] on one line, the name a local -/
theorem ps_setLc {i : Nat} {y : Str} {py : Pos} {elt tg iter : Expr} {ifs : List Expr} {scope : Scope} {own : List (Str × Nat)} {pos spos : Pos} {wi : TI} {g : TG} {tt : TT} {te : TE} (hc : X.calm = true) (hN : X.N.Nodup) (hy : X.N[i]? = some y) (hyl : X.env.scope.names.lookup y = some .local)
    (hsw : swapsWith (.ListComp elt [⟨tg, iter, ifs, 0⟩] scope pos) (some (.Name y py)) spos.line X.env = pure true) (hi : PI X tg iter wi) (ok : BlkOk X.N X.env.scope scope own)
    (hg : ∀ (s : Shared) (H : Hp) (C : Addr) (cl : List (Str × Addr)) (fp : List Addr), PG (X.blk s H scope (compEnvC scope cl C X.env) fp) tg g) (ht : ∀ (s : Shared) (H : Hp) (C : Addr) (cl : List (Str × Addr)) (fp : List Addr), PTs (X.blk s H scope (compEnvC scope cl C X.env) fp) ifs tt)
    (he : ∀ (s : Shared) (H : Hp) (C : Addr) (cl : List (Str × Addr)) (fp : List Addr), PE (X.blk s H scope (compEnvC scope cl C X.env) fp) elt te) (hs : ∀ x, foldedSetIterable iter X.env x = pure x := by intro _; rfl) :
    PS X (.Assign [.Name y py] (.ListComp elt [⟨tg, iter, ifs, 0⟩] scope pos) spos) (tAsg (tLc wi g tt te (own.map (·.2))) (gName i)) := by
  intro pins s σ H D I h
  rw [exec_Assign_Name_used _ _ _ _ hsw]
  refine wpAny_bind (wpAny_standAt (wpAny_bind ?_))
  show wpAny _ X.A (do let _ ← comprehension (.ListComp elt [⟨tg, iter, ifs, 0⟩] scope pos) scope X.env (firstIterPos [⟨tg, iter, ifs, 0⟩] pos) (newList []) false (eval iter X.env) (some (assign (.Name y py) X.env))) _ _ s
  have h : tLc wi g tt te (own.map (·.2)) σ H (fun x H1 => gName i x σ H1 D.nx) := h
  refine wpAny_bind (thn (lc_core (Qf := fun _ s' => SP X pins D .next s') hc hN I hi ok hg ht he hs h fun L C s' m H' I' q hn f => ?_) fun _ s' hq => wpAny_pure (wpAny_pure hq))
  show wpAny _ _ (assign (.Name y py) X.env (.ref L)) _ _ _
  refine wpAny_assign_Name (store_ok2 (v := V.ref L) I' hN hy (.inl hyl) rfl (fun s2 I2 ⟨a, sb, ha⟩ => ?_) (.inr hyl))
  obtain ⟨f0, f1, f2, f3, f4, f5⟩ := f
  have haC : C ≠ a := by
    rcases ha with z | z
    · rw [z]; exact f1
    · exact fun e => f4 y a z e.symm
  refine ⟨m, hn.sameBut sb haC, fun h3 sb3 => ?_⟩
  exact ⟨_, H', I2.turned (t' := s2.toks) (fun b o hb e => (sb3.2 b hb).trans e) f0 f1 f3 f4 f5, q⟩
theorem sw_true {elt : Expr} {gs : List Comprehension} {scope : Scope} {pos py : Pos} {y : Str} {l : Nat} {env : Env} (hk : env.scope.kind = .function) (hy : env.scope.names.lookup y = some .local) (hl : (py.line == pos.line) = true)
    (ha : (scope.names.any fun (n, k) => n == y && (k == .local || k == .cell)) = false) : swapsWith (.ListComp elt gs scope pos) (some (.Name y py)) l env = pure true := by
  have ky : env.kindOf y = some .local := hy
  have hb : env.blockKind = .function := by unfold Env.blockKind; rw [hk]; rfl
  unfold swapsWith
  simp only [hb, ky, ha, Expr.pos, hl]
  rfl
end
/-! ### the forms one uses -/
/-- over a range: Pv by the turn and the heap (the new list at D within) -/
theorem lc_range {lo : Int} {n : Nat} {g : TG} {tt : TT} {te : TE} {vs : List Nat} {σ : St} {H1 : Hp} {D : Addr} {Qd : Hp → Prop} (Pv : Nat → Hp → Prop) (h0 : Pv 0 (upd H1 D (.lst [])))
    (hs : ∀ i H, i < n → Pv i H → g (.int (lo + i)) (wipe σ vs) H fun σ2 H2 => wipe σ2 vs = wipe σ vs ∧ tt σ2 H2 fun b H3 =>
      if b = true then te σ2 H3 fun y H4 => ∃ acc, H4 D = some (.lst acc) ∧ acc.length < sizeLine ∧ Pv (i + 1) (upd H4 D (.lst (acc ++ [y]))) else Pv (i + 1) H3) (hd : ∀ H, Pv n H → Qd H) :
    ∃ W : Nat → Nat → Hp → Prop, (∃ m, W 0 m (upd H1 D (.lst []))) ∧ ∀ i m H, W i m H →
      ((Itr lo n).stop i H ∧ Qd H) ∨ ((Itr lo n).go i H ∧ ∃ Nx : Hp → Prop, (∀ H', Nx H' → ∃ m', m' < m ∧ W (i + 1) m' H') ∧ ∀ x H', (Itr lo n).yld i H x H' → g x (wipe σ vs) H' fun σ2 H2 => wipe σ2 vs = wipe σ vs ∧ tt σ2 H2 fun b H3 =>
        if b = true then te σ2 H3 fun y H4 => ∃ acc, H4 D = some (.lst acc) ∧ acc.length < sizeLine ∧ Nx (upd H4 D (.lst (acc ++ [y]))) else Nx H3) := by
  refine ⟨fun i m H => m = n - i ∧ i ≤ n ∧ Pv i H, ⟨n, by simp, Nat.zero_le _, h0⟩, ?_⟩
  rintro i m H ⟨rfl, hi, p⟩
  by_cases hlt : i < n
  · refine .inr ⟨hlt, Pv (i + 1), fun H' p' => ⟨n - (i + 1), by omega, rfl, hlt, p'⟩, fun x H' y => ?_⟩
    obtain ⟨e, y⟩ := y
    subst e y
    exact hs i _ hlt p
  · have e : i = n := by omega
    subst e
    exact .inl ⟨Nat.le_refl _, hd H p⟩
/-- over a tuple -/
theorem lc_tup {K : PySem.W.Frag} {a : Addr} {xs : List V} {g : TG} {tt : TT} {te : TE} {vs : List Nat} {σ : St} {H1 : Hp} {D : Addr} {Qd : Hp → Prop} (Pv : Nat → Hp → Prop) (h0 : Pv 0 (upd H1 D (.lst []))) (hl : ∀ i H, i ≤ xs.length → Pv i H → SqT K H a xs)
    (hs : ∀ i x H, xs[i]? = some x → Pv i H → g x (wipe σ vs) H fun σ2 H2 => wipe σ2 vs = wipe σ vs ∧ tt σ2 H2 fun b H3 =>
      if b = true then te σ2 H3 fun y H4 => ∃ acc, H4 D = some (.lst acc) ∧ acc.length < sizeLine ∧ Pv (i + 1) (upd H4 D (.lst (acc ++ [y]))) else Pv (i + 1) H3) (hd : ∀ H, Pv xs.length H → Qd H) :
    ∃ W : Nat → Nat → Hp → Prop, (∃ m, W 0 m (upd H1 D (.lst []))) ∧ ∀ i m H, W i m H →
      ((Itt K a).stop i H ∧ Qd H) ∨ ((Itt K a).go i H ∧ ∃ Nx : Hp → Prop, (∀ H', Nx H' → ∃ m', m' < m ∧ W (i + 1) m' H') ∧ ∀ x H', (Itt K a).yld i H x H' → g x (wipe σ vs) H' fun σ2 H2 => wipe σ2 vs = wipe σ vs ∧ tt σ2 H2 fun b H3 =>
        if b = true then te σ2 H3 fun y H4 => ∃ acc, H4 D = some (.lst acc) ∧ acc.length < sizeLine ∧ Nx (upd H4 D (.lst (acc ++ [y]))) else Nx H3) := by
  refine ⟨fun i m H => m = xs.length - i ∧ i ≤ xs.length ∧ Pv i H, ⟨xs.length, by simp, Nat.zero_le _, h0⟩, ?_⟩
  rintro i m H ⟨rfl, hi, p⟩
  have q := hl i H hi p
  by_cases hlt : i < xs.length
  · refine .inr ⟨⟨xs, xs[i], q, by simp [hlt]⟩, Pv (i + 1), fun H' p' => ⟨xs.length - (i + 1), by omega, rfl, hlt, p'⟩, fun x H' y => ?_⟩
    obtain ⟨e, y⟩ := y
    subst e
    exact hs i x _ (y xs q) p
  · have e : i = xs.length := by omega
    subst e
    exact .inl ⟨⟨xs, q, Nat.le_refl _⟩, hd H p⟩
def blkC (N : List Str) (sc scope : Scope) (own : List (Str × Nat)) : Bool :=
  (match scope.kind with | .function => true | _ => false) && (scope.names.all fun y => decide (scope.names.lookup y.1 = some y.2)) && (own.all fun p => decide (N[p.2]? = some p.1)) &&
    (scope.names.all fun y => match y.2 with
      | .free => (match sc.names.lookup y.1 with | some .cell => true | some .free => true | _ => false)
      | .local => decide (y.1 ∈ own.map (·.1)) || decide (y.1 ∉ N)
      | .cell => decide (y.1 ∈ own.map (·.1)) || decide (y.1 ∉ N)
      | _ => true)
theorem blkOk_by {N : List Str} {sc scope : Scope} {own : List (Str × Nat)} (h : blkC N sc scope own = true) : BlkOk N sc scope own := by
  unfold blkC at h
  simp only [Bool.and_eq_true, List.all_eq_true, decide_eq_true_eq] at h
  obtain ⟨⟨⟨h1, h2⟩, h3⟩, h4⟩ := h
  refine ⟨?_, h2, h3, fun y hy e => ?_, fun y hy e => ?_⟩
  · split at h1
    · assumption
    · cases h1
  · have q := h4 y hy
    simp only [e] at q
    split at q <;> first | exact .inl (by assumption) | exact .inr (by assumption) | cases q
  · have q := h4 y hy
    rcases e with e | e <;> (simp only [e, Bool.or_eq_true, decide_eq_true_eq] at q; exact q)
end L2
namespace L2
open PySem PySem.Spec PyProof.Rows
section
variable {prog : Program} {w : World} {A : Around} {R : Result → Shared → Prop} {s : Shared} {elt t0 i0 t1 i1 : Expr} {ifs0 ifs1 : List Expr} {scope : Scope} {pos : Pos} {it acc : Value} {env : Env}
end
section
variable {X : Cx}
end
end L2
namespace L2
open PySem PySem.Spec PyProof.Rows
/-! ### lists of pairs as tables -/
section
variable {κ : Type} [DecidableEq κ]
def valV (kvs : List (κ × V)) (k : κ) : Option V := (kvs.find? fun kv => decide (kv.1 = k)).map (·.2)
/-- in its place, or at the end -/
def putK (kvs : List (κ × V)) (k : κ) (v : V) : List (κ × V) :=
  if (kvs.any fun kv => decide (kv.1 = k)) = true then kvs.map (fun kv => if kv.1 = k then (kv.1, v) else kv) else kvs ++ [(k, v)]
theorem valV_pos {p : κ × V} {r : List (κ × V)} {k : κ} (e : p.1 = k) : valV (p :: r) k = some p.2 := by simp [valV, List.find?_cons, e]
theorem valV_neg {p : κ × V} {r : List (κ × V)} {k : κ} (e : ¬ p.1 = k) : valV (p :: r) k = valV r k := by simp [valV, List.find?_cons, e]
theorem length_putK (kvs : List (κ × V)) (k : κ) (v : V) : (putK kvs k v).length ≤ kvs.length + 1 := by
  unfold putK
  split
  · rw [List.length_map]; omega
  · rw [List.length_append, List.length_cons, List.length_nil]; omega
theorem RelO.getD {o : Option V} {u : Option Value} {d : V} {d' : Value} (r : RelO o u) (rd : RelV d d') : RelV (o.getD d) (u.getD d') := by
  cases o with
  | none => cases u with
    | none => exact rd
    | some _ => exact (show False from r).elim
  | some _ => cases u with
    | none => exact (show False from r).elim
    | some _ => exact r

/-- raw tables of the same keys -/
theorem KV.val {kvs : List (κ × V)} {vs : List (κ × Value)} (r : KV kvs vs) (k : κ) : RelO (valV kvs k) (valueAt vs k) := by
  unfold KV at r
  induction r with
  | nil => exact True.intro
  | @cons p q ps qs h t ih =>
    obtain ⟨h1, h2⟩ := h
    by_cases e : p.1 = k
    · have e' : q.1 = k := h1.symm.trans e
      have b : valueAt (q :: qs) k = some q.2 := by simp [valueAt, List.find?_cons, e']
      rw [valV_pos e, b]; exact h2
    · have e' : ¬ q.1 = k := fun z => e (h1.trans z)
      have b : valueAt (q :: qs) k = valueAt qs k := by simp [valueAt, List.find?_cons, e']
      rw [valV_neg e, b]; exact ih
theorem KV.any {kvs : List (κ × V)} {vs : List (κ × Value)} (r : KV kvs vs) (k : κ) : (kvs.any fun kv => decide (kv.1 = k)) = vs.any fun kv => decide (kv.1 = k) := by
  unfold KV at r
  induction r with
  | nil => rfl
  | cons h t ih => rw [List.any_cons, List.any_cons, ih, h.1]
theorem KV.repl {kvs : List (κ × V)} {vs : List (κ × Value)} (r : KV kvs vs) (k : κ) {y : V} {u : Value} (ry : RelV y u) :
    KV (kvs.map fun kv => if kv.1 = k then (kv.1, y) else kv) (vs.map fun kv => if kv.1 = k then (kv.1, u) else kv) := by
  unfold KV at r ⊢
  induction r with
  | nil => exact .nil
  | @cons p q ps qs h t ih =>
    rw [List.map_cons, List.map_cons]
    refine .cons ?_ ih
    obtain ⟨h1, h2⟩ := h
    by_cases e : p.1 = k
    · rw [if_pos e, if_pos (h1.symm.trans e)]; exact ⟨h1, ry⟩
    · rw [if_neg e, if_neg (fun z => e (h1.trans z))]; exact ⟨h1, h2⟩
theorem KV.put {kvs : List (κ × V)} {vs : List (κ × Value)} (r : KV kvs vs) (k : κ) {y : V} {u : Value} (ry : RelV y u) : KV (putK kvs k y) (stored vs k u) := by
  unfold putK stored
  rw [r.any k]
  by_cases e : (vs.any fun kv => decide (kv.1 = k)) = true
  · rw [if_pos e, if_pos e]; exact r.repl k ry
  · rw [if_neg e, if_neg e]; exact Paired.snoc r ⟨rfl, ry⟩
end
/-! ### a tracked dict, its keys ints and texts or tuples of these -/
theorem kV_is {P : Program} {w : World} {k : Key} {u : Value} (r : RelV (kV k) u) : (mixKind P w).is k u = true := by
  cases k with
  | inl i => obtain ⟨t, e⟩ := (show ∃ t, u = Value.int i t from r); subst e; exact mixKind_int P w i t
  | inr x => obtain ⟨t, e⟩ := (show ∃ t, u = Value.str x t from r); subst e; exact mixKind_str P w x t
theorem items_are {P : Program} {w : World} : ∀ {ks : List Key} {us : List Value}, Vals (ks.map kV) us → ItemsAre (mixKind P w) ks us
  | [], _, r => by rw [List.map_nil] at r; cases r; exact .nil
  | k :: ks, _, r => by
    rw [List.map_cons] at r
    cases r with
    | cons h t => exact .cons (kV_is h) (items_are t)

/-- raw entries of a dict with tuple keys -/
abbrev KT (H : Hp) : List (List Key × V) → List (List Key × Addr × Value) → Prop := Paired fun p q => p.1 = q.1 ∧ H q.2.1 = some (.tup (p.1.map kV)) ∧ RelV p.2 q.2.2
theorem KT.val {H : Hp} {kvs : List (List Key × V)} {xs : List (List Key × Addr × Value)} (r : KT H kvs xs) (k : List Key) : RelO (valV kvs k) ((atKey xs k).map (·.2)) := by
  induction r with
  | nil => exact True.intro
  | @cons p q ps qs h t ih =>
    obtain ⟨h1, _, h2⟩ := h
    by_cases e : p.1 = k
    · have e' : q.1 = k := h1.symm.trans e
      have b : atKey (q :: qs) k = some q.2 := by simp [atKey, List.find?_cons, e']
      rw [valV_pos e, b]; exact h2
    · have e' : ¬ q.1 = k := fun z => e (h1.trans z)
      have b : atKey (q :: qs) k = atKey qs k := by simp [atKey, List.find?_cons, e']
      rw [valV_neg e, b]; exact ih
section
variable {P : Program} {w : World} {H : Hp} {h : Heap} {a : Addr}
theorem rd_of {u : HO} (ok : HOk P w H h) (e : Rd H a u) : ObjOk P w H h a u := e.ok ok
theorem dk_rd {kvs : List (Key × V)} (ok : HOk P w H h) (e : Rd H a (.dK kvs)) : kvs.length ≤ sizeLine ∧ (a == sysModules) = false ∧ ∃ vs, KV kvs vs ∧ h.DictOf (mixKind P w) a vs :=
  show ObjOk P w H h a (.dK kvs) from rd_of ok e
theorem dk_of {kvs : List (Key × V)} (ok : HOk P w H h) (e : H a = some (.dK kvs)) : kvs.length ≤ sizeLine ∧ (a == sysModules) = false ∧ ∃ vs, KV kvs vs ∧ h.DictOf (mixKind P w) a vs := dk_rd ok (.inl e)
/-- a tracked tuple of ints and texts is a key -/
theorem key_of {ks : List Key} (ok : HOk P w H h) (e : H a = some (.tup (ks.map kV))) : (tupleKind (mixKind P w)).is h ks a := by
  obtain ⟨_, its, r, o, h1, h2, n, h3⟩ := (show ObjOk P w H h a (.tup (ks.map kV)) from ok a _ e)
  exact ⟨o, its.toArray, n, h1, h2, h3, by simpa using items_are r⟩
theorem dt_rd {kvs : List (List Key × V)} (ok : HOk P w H h) (e : Rd H a (.dT kvs)) : kvs.length ≤ sizeLine ∧ (a == sysModules) = false ∧
    ∃ xs, KT H kvs xs ∧ h.DictOfH (tupleKind (mixKind P w)) a xs := by
  obtain ⟨z, y, xs, r, o, es, ep, h1, h2, h3, h4, h5⟩ := (show ObjOk P w H h a (.dT kvs) from rd_of ok e)
  refine ⟨z, y, xs, r, o, es, ep, h1, h2, h3, h4, fun x hx => ?_, h5⟩
  have all : ∀ {l : List (List Key × V)} {m : List (List Key × Addr × Value)}, KT H l m → ∀ x ∈ m, (tupleKind (mixKind P w)).is h x.1 x.2.1 := by
    intro l m q
    induction q with
    | nil => intro x hx; exact nomatch hx
    | @cons p q ps qs hq t ih =>
      intro x hx
      rcases List.mem_cons.mp hx with e | hx
      · subst e
        exact key_of ok (by rw [← hq.1]; exact hq.2.1)
      · exact ih x hx
  exact all r x hx
end
/-- what the dict at a holds at the key y -/
def DGet (H : Hp) (a : Addr) (y : V) (r : Option V) : Prop :=
  (∃ kvs k, Rd H a (.dK kvs) ∧ y = kV k ∧ r = valV kvs k) ∨ ∃ kvs k b, Rd H a (.dT kvs) ∧ y = .ref b ∧ H b = some (.tup (k.map kV)) ∧ r = valV kvs k
theorem DGet.k {H : Hp} {a : Addr} {kvs : List (Key × V)} {k : Key} (e : H a = some (.dK kvs)) : DGet H a (kV k) (valV kvs k) := .inl ⟨kvs, k, .inl e, rfl, rfl⟩
section
variable {X : Cx} {pins : List (Addr × Obj)} {σ : St} {H : Hp} {s : Shared} {a : Addr} {y v : V} {u r : Value} {o : Option V} {A : Around} {E : Value → Shared → Prop}
theorem Inv.big (I : Inv X pins σ H s) : sysModules < s.heap.objs.size := by
  have h : mainGlobals < s.heap.objs.size := (I.mod.glob.keeps I.bk).lt
  exact Nat.lt_trans (by decide) h

/-- a dict's object is replaced -/
theorem d_write {h' : Heap} {t' : Nat} {ob : HO} (I : Inv X pins σ H s) (mu : Mut (H a)) (hs : Heap.SameBut a s.heap h') (he : ∃ q, h'.get? a = some q) (new : ObjOk X.prog X.w (upd H a ob) h' a ob) :
    Inv X pins σ (upd H a ob) { s with heap := h', toks := t' } :=
  I.write (x := a) (e := a) mu (.inl rfl) (fun b q hb z => (hs.2 b hb).trans z) he new
theorem dk_new {P : Program} {w : World} {H' : Hp} {h' : Heap} {kvs : List (Key × V)} {vs : List (Key × Value)} (z : kvs.length ≤ sizeLine) (hd : (a == sysModules) = false) (rel : KV kvs vs) (dd : h'.DictOf (mixKind P w) a vs) :
    ObjOk P w H' h' a (.dK kvs) := ⟨z, hd, vs, rel, dd⟩
end
section
variable {X : Cx} {pins : List (Addr × Obj)} {σ : St} {H : Hp} {s : Shared} {a : Addr} {kvs : List (Key × V)} {k : Key} {u : Value} {A : Around} {E : Value → Shared → Prop}
end
/-! ### readings and rules -/
/-- the element of a subscription, not a slice -/
def NoSl (i : Expr) : Prop := ∀ ov iv, subscripted i false ov iv = operate [ov, iv] (getItem ov iv)
theorem subD_of {prog : Program} {w : World} {A : Around} {E : Value → Shared → Prop} {s : Shared} {env : Env} {value slice : Expr} {pos : Pos} {T id : String} {Q : Value → Shared → Prop}
    (hl : typeLookup (.type T) "__getitem__" = pure (some (.builtin id))) (hs : NoSl slice)
    (h : wpAny (model prog w) A (eval value env) (fun o s₁ => wpAny (model prog w) A (eval slice env) (fun i s₂ => s₂.TypeIs o T ∧ wpAny (model prog w) A (getItem o i) Q E s₂) E s₁) E s) :
    wpAny (model prog w) A (eval (.Subscript value slice pos) env) Q E s := by
  refine Subscript_ (wpAny_mono h (fun o s₁ h₁ => wpAny_mono h₁ (fun i s₂ h₂ => ?_) fun _ _ x => x) fun _ _ x => x)
  obtain ⟨hT, h₂⟩ := h₂
  unfold subscriptTail
  refine wpAny_bind ?_
  rw [getitemInPython_of_ne hT.not_modules]
  refine wpAny_bind (wpAny_specialOf hT hl ?_)
  have fin : wpAny (model prog w) A (subscripted slice false o i) (fun r s₃ => wpAny (model prog w) A (letTemporaryGo value o r >>= fun _ => pure r) Q E s₃) E s₂ := by
    rw [hs o i]
    exact wpAny_operating (wpAny_mono h₂ (fun r s₃ h₃ => wpAny_bind (wpAny_letTemporaryGo (wpAny_pure h₃))) fun _ _ x => x)
  first
    | exact wpAny_pure (wpAny_bind fin)
    | exact wpAny_bind (wpAny_pure (wpAny_bind fin))
    | exact wpAny_bind fin

section
variable {X : Cx} {o i e value : Expr} {pos pos' tpos : Pos} {td ty tv : TE}
end
/-! ### displays -/
theorem dk_empty {P : Program} {w : World} {H : Hp} (h : Heap) (hb : sysModules < h.objs.size) : ObjOk P w H (h.push { cls := .type "dict", data := .dict #[] }) h.objs.size (.dK []) :=
  ⟨Nat.zero_le _, beq_eq_false_iff_ne.mpr (Ne.symm (Nat.ne_of_lt hb)), [], .nil, Heap.DictOf.new h⟩
section
variable {X : Cx} {pos : Pos}
end
/-- the pairs of a display, from the left -/
def tPairs : List (TE × TE) → St → Hp → (List (V × V) → Hp → Prop) → Prop
  | [], _, H, Q => Q [] H
  | (tk, tv) :: r, σ, H, Q => tk σ H fun x H1 => tv σ H1 fun y H2 => tPairs r σ H2 fun ps H3 => Q ((x, y) :: ps) H3
abbrev VV : List (V × V) → List (Value × Value) → Prop := Paired fun p q => RelV p.1 q.1 ∧ RelV p.2 q.2
def PPs (X : Cx) (pos : Pos) (keys : List (Option Expr)) (values : List Expr) (trs : List (TE × TE)) : Prop :=
  ∀ (pins : List (Addr × Obj)) (s : Shared) (σ : St) (H : Hp) (Q : List (V × V) → Hp → Prop), Inv X pins σ H s → tPairs trs σ H Q →
    wpAny (model X.prog X.w) X.A (evalPairs (pairTrees keys values X.env pos)) (fun vs s' => ∃ ps H', Inv X pins σ H' s' ∧ VV ps vs ∧ Q ps H') X.xe s
theorem pps_nil {X : Cx} {pos : Pos} : PPs X pos [] [] [] := fun pins s σ H Q I h => pairTrees_nil_walk ⟨[], H, I, .nil, h⟩
theorem pps_cons {X : Cx} {pos : Pos} {k v : Expr} {ks : List (Option Expr)} {vs : List Expr} {tk tv : TE} {trs : List (TE × TE)} (hk : PE X k tk) (hv : PE X v tv) (hr : PPs X pos ks vs trs) :
    PPs X pos (some k :: ks) (v :: vs) ((tk, tv) :: trs) := fun pins s σ H Q I h =>
  pairTrees_cons_walk (thn (hk pins s σ H _ I h) fun u s1 ⟨x, H1, I1, rx, q1⟩ => thn (hv pins s1 σ H1 _ I1 q1) fun w2 s2 ⟨y, H2, I2, ry, q2⟩ =>
    thn (hr pins s2 σ H2 _ I2 q2) fun ws s3 ⟨ps, H3, I3, rel, q3⟩ => ⟨(x, y) :: ps, H3, I3, .cons ⟨rx, ry⟩ rel, q3⟩)

def mergeK (kvs more : List (Key × V)) : List (Key × V) := more.foldl (fun acc kv => putK acc kv.1 kv.2) kvs
theorem KV.merge : ∀ {more : List (Key × V)} {rs : List (Key × Value)} {kvs : List (Key × V)} {vs : List (Key × Value)}, KV more rs → KV kvs vs → KV (mergeK kvs more) (merged vs rs) := by
  intro more rs kvs vs r
  unfold KV at r
  induction r generalizing kvs vs with
  | nil => intro q; exact q
  | @cons p q ps qs h t ih =>
    intro r0
    have e : KV (putK kvs p.1 p.2) (stored vs q.1 q.2) := by
      have := r0.put p.1 h.2
      rw [← h.1]; exact this
    exact ih e
theorem length_mergeK : ∀ (more kvs : List (Key × V)), (mergeK kvs more).length ≤ kvs.length + more.length
  | [], kvs => by show kvs.length ≤ kvs.length + 0; omega
  | p :: r, kvs => by
    have h1 := length_mergeK r (putK kvs p.1 p.2)
    have h2 := length_putK kvs p.1 p.2
    show (mergeK (putK kvs p.1 p.2) r).length ≤ _
    rw [List.length_cons]; omega
theorem carries_of {P : Program} {w : World} : ∀ {kvs : List (Key × V)} {ws : List (Value × Value)}, VV (kvs.map fun kv => (kV kv.1, kv.2)) ws → ∃ rs, Carries (mixKind P w) ws rs ∧ KV kvs rs
  | [], _, r => by rw [List.map_nil] at r; cases r; exact ⟨[], True.intro, .nil⟩
  | p :: kvs, _, r => by
    rw [List.map_cons] at r
    cases r with
    | @cons a b as bs h t =>
      obtain ⟨rs, c, q⟩ := carries_of (P := P) (w := w) t
      obtain ⟨b1, b2⟩ := b
      exact ⟨(p.1, b2) :: rs, ⟨kV_is h.1, rfl, c⟩, .cons ⟨rfl, h.2⟩ q⟩
/-- {k: v, ..} with keys ints and texts; the new dict stands empty while the pairs are made -/
def tDisp (trs : List (TE × TE)) : TE := fun σ H Q => ∀ p, H p = none → tPairs trs σ (upd H p (.dK [])) fun ps H2 => H2 p = some (.dK []) ∧ ∃ kvs : List (Key × V), ps = kvs.map (fun kv => (kV kv.1, kv.2)) ∧ kvs.length ≤ 15 ∧ Q (.ref p) (upd H2 p (.dK (mergeK [] kvs)))
theorem pe_disp {X : Cx} {pos : Pos} {keys : List (Option Expr)} {values : List Expr} {trs : List (TE × TE)} (h : PPs X pos keys values trs) (hall : keys.all (·.isSome) = true) (hl : keys.length = values.length) (h0 : keys ≠ [])
    (h15 : keys.length ≤ 15) : PE X (.Dict keys values pos) (tDisp trs) := by
  intro pins s σ H Q I q
  have hn := I.hok.fresh (Nat.le_refl s.heap.objs.size)
  have I1 := I.laid (a := s.heap.objs.size) (o := .dK []) (h' := s.heap.push { cls := .type "dict", data := .dict #[] }) (t' := s.toks) (fun _ _ q => Heap.get?_push_of_some _ q) (Nat.le_refl _) (dk_empty s.heap I.big)
  refine wpAny_Dict_walk (knd := mixKind X.prog X.w) hall hl h0 h15 (thn (h pins _ σ _ _ I1 (q _ hn)) fun ws s2 ⟨ps, H2, I2, rel, e, kvs, ep, lk, q2⟩ => ?_)
  subst ep
  obtain ⟨rs, c, rk⟩ := carries_of (P := X.prog) (w := X.w) rel
  obtain ⟨z, hd, vs0, r0, dd⟩ := dk_of I2.hok e
  cases r0
  refine ⟨rs, c, dd, fun h' dd' hs => ⟨.ref s.heap.objs.size, _, ?_, rfl, q2⟩⟩
  have hz : (mergeK [] kvs).length ≤ sizeLine := by
    have h1 := length_mergeK kvs []
    rw [List.length_nil] at h1
    rw [sizeLine_eq]; omega
  have he : ∃ q, h'.get? s.heap.objs.size = some q := let ⟨q, _, _, hq, _⟩ := dd'; ⟨q, hq⟩
  exact d_write I2 (by rw [e]; exact True.intro) hs he (dk_new hz hd (rk.merge .nil) dd')


/-! ### methods -/
structure M2 (X : Cx) (o : Expr) (m : Str) (apos : Pos) (e f : Expr) (cpos : Pos) : Prop where
  base : attributeBase o m X.env (eval o X.env) = eval o X.env
  few : ((backTo cpos (starEach [e, f] X.env)).all (fun x => !x.1) && (backToKw cpos (keywordEach [] X.env)).all (fun x => x.1.isSome)
    && decide (([e, f] : List Expr).length + ([] : List Keyword).length + (if ([] : List Keyword).isEmpty then 0 else 1) < 30)) = true
  line : (apos.endLine == cpos.line) = true
  trees : backTo cpos (starEach [e, f] X.env) = [(false, eval e X.env), (false, eval f X.env)]

/-- a is a dict, whatever its keys -/
def IsD (H : Hp) (a : Addr) : Prop := (∃ kvs, Rd H a (.dK kvs)) ∨ ∃ kvs, Rd H a (.dT kvs)
theorem isD_at {X : Cx} {pins : List (Addr × Obj)} {σ : St} {H : Hp} {s : Shared} {a : Addr} (I : Inv X pins σ H s) (d : IsD H a) :
    s.TypeIs (.ref a) "dict" ∧ (∀ b, Value.ref a = .ref b → ∃ ob, s.heap.get? b = some ob ∧ ob.dict = none) ∧ (a == sysModules) = false := by
  rcases d with ⟨kvs, e⟩ | ⟨kvs, e⟩
  · obtain ⟨_, hd, vs, _, dd⟩ := dk_rd I.hok e
    refine ⟨dd.typeIs, fun b q => ?_, hd⟩
    cases q
    obtain ⟨ob, _, _, h1, h2, _⟩ := dd
    exact ⟨ob, h1, h2.2.1⟩
  · obtain ⟨_, hd, xs, _, dd⟩ := dt_rd I.hok e
    refine ⟨dd.typeIs, fun b q => ?_, hd⟩
    cases q
    obtain ⟨ob, _, _, h1, h2, _⟩ := dd
    exact ⟨ob, h1, h2.2.1⟩

section
variable {X : Cx} {pins : List (Addr × Obj)} {σ : St} {H : Hp} {s : Shared} {a : Addr} {y d : V} {u r : Value} {o : Option V} {A : Around} {E : Value → Shared → Prop}
/-- d.get(y, x) -/
theorem d_get2 {Q : Value → Shared → Prop} (hu : A.units + 1 < cLine) (I : Inv X pins σ H s) (g : DGet H a y o) (ry : RelV y u) (rd : RelV d r) (h : ∀ w' s', Inv X pins σ H s' → RelV (o.getD d) w' → Q w' s') :
    wpAny (model X.prog X.w) A (call (.builtin "dict.get") [.ref a, u, r]) Q E s := by
  rcases g with ⟨kvs, k, e, ey, l⟩ | ⟨kvs, k, b, e, ey, eb, l⟩
  · subst ey
    obtain ⟨z, hd, vs, rel, dd⟩ := dk_rd I.hok e
    refine call_meetsIn PySem.F.slot_dict_get dd.typeIs PySem.F.entry_dict_get (PySem.F.args_dict_get_3 _ _ _) (meets_dict_get_default (mixKind X.prog X.w) a (kV_is ry) hd r) ⟨_, dd.mapOf, h _ _ (I.tok _) ?_⟩
    rw [l]
    exact (rel.val k).getD rd
  · subst ey
    cases (show u = Value.ref b from ry)
    obtain ⟨z, hd, xs, rel, dd⟩ := dt_rd I.hok e
    refine call_meetsIn PySem.F.slot_dict_get dd.typeIs PySem.F.entry_dict_get (PySem.F.args_dict_get_3 _ _ _) (meetsH_dict_get_default (tupleKind (mixKind X.prog X.w)) a b hd r) ⟨tupleKind_room_in1 hu, k, xs, key_of I.hok eb, dd, h _ _ (I.tok _) ?_⟩
    rw [l]
    exact (rel.val k).getD rd
end
def tDGet2 (td ty tx : TE) : TE := fun σ H Q => td σ H fun x H1 => ∃ a, x = .ref a ∧ IsD H1 a ∧ ty σ H1 fun y H2 => tx σ H2 fun z H3 => ∃ o, DGet H3 a y o ∧ Q (o.getD z) H3
section
variable {X : Cx} {o e f : Expr} {apos cpos : Pos} {td ty tx : TE}
theorem pe_dget2 (hu : X.A.units + 1 < cLine) (ho : PE X o td) (he : PE X e ty) (hf : PE X f tx) (m : M2 X o "get" apos e f cpos) : PE X (.Call (.Attribute o "get" apos) [e, f] [] cpos) (tDGet2 td ty tx) := by
  intro pins s σ H Q I h
  refine wpAny_Call_method m.base m.few m.line PySem.F.plainAttrs_dict PySem.F.slot_dict_get PySem.F.type_dict_get (thn (ho pins s σ H _ I h) fun u s1 ⟨x, H1, I1, rx, a, ex, d, q1⟩ => ?_)
  subst ex
  obtain rfl : u = Value.ref a := rx
  obtain ⟨t1, t2, _⟩ := isD_at I1 d
  refine ⟨t1, t2, ?_⟩
  rw [m.trees]
  refine Calls.callWith_builtin rfl (Calls.evalArgs_plain (Calls.spliced_cons (thn (he pins s1 σ H1 _ I1 q1) fun iv s2 ⟨y, H2, I2, ry, q2⟩ =>
    Calls.spliced_cons (thn (hf pins s2 σ H2 _ I2 q2) fun fv s3 ⟨z, H3, I3, rz, ov, g, q3⟩ => Calls.spliced_nil ?_))))
  exact d_get2 hu I3 g ry rz fun w' s4 I4 rw' => ⟨_, H3, I4, rw', q3⟩
end
/-! ### dict(d): a copy -/
section
variable {X : Cx} {pins : List (Addr × Obj)} {σ : St} {H : Hp} {s : Shared} {a : Addr} {kvs : List (Key × V)} {A : Around} {E : Value → Shared → Prop}
end
section
variable {X : Cx} {pins : List (Addr × Obj)} {σ : St} {H : Hp} {s : Shared} {a : Addr} {y : V} {u : Value} {A : Around} {E : Value → Shared → Prop}
end
end L2
namespace L2
open PySem PySem.Spec PyProof.Rows
section
variable {prog : Program} {w : World} {A : Around} {E : Value → Shared → Prop}
end
section
variable {X : Cx}
end
end L2
namespace L2
open PySem PySem.Spec PyProof.Rows
section
variable {X : Cx} {pins : List (Addr × Obj)} {σ : St} {H : Hp} {s : Shared} {h' : Heap}
/-- several records of ours have turned -/
theorem Inv.turnedL {t' : Nat} {ch : List Addr} (I : Inv X pins σ H s) (k : ∀ b o, b ∉ ch → s.heap.get? b = some o → h'.get? b = some o) (hf : ∀ b ∈ ch, FpOk X pins H b) : Inv X pins σ H { s with heap := h', toks := t' } := by
  have nit : ∀ b u, H b = some u → b ∉ ch := fun b u e z => by
    have q := (hf b z).1
    rw [q] at e; cases e
  refine I.step (g' := s.gens) (d' := s.drawn) (ch := ch) (fun b hb => ⟨(hf b hb).2.2.2.1, (hf b hb).2.1, (hf b hb).2.2.2.2.1, (hf b hb).2.2.2.2.2⟩) (fun b o _ _ hc e _ => k b o hc e) (fun b o _ _ hc e _ => ⟨o.slots, k b o hc e⟩)
    (fun _ _ _ _ n => n) (fun b o hc e => ⟨o, k b o hc e⟩) (fun _ _ e => e) (fun _ _ _ e => e) (fun b ps e => ⟨#[], by rw [e]; simp⟩) (fun m hm => ?_) (fun b u e => ?_) I.bare
  · obtain ⟨o, es, ep, ho, r⟩ := hm
    exact ⟨o, es, ep, k _ o (fun z => (hf _ z).2.1 rfl) ho, r⟩
  · refine (I.hok b u e).stay (fun c v hc q => k c v ?_ q) (fun _ q => q) fun _ _ q => q
    rcases hc with z | z
    · rw [z]; exact nit b u e
    · exact nit c _ z
/-- .. and one new object is laid -/
theorem Inv.turnedNew {t' : Nat} {ch : List Addr} {T : Addr} {ob : HO} (I : Inv X pins σ H s) (k : ∀ b o, b ∉ ch → s.heap.get? b = some o → h'.get? b = some o) (hf : ∀ b ∈ ch, FpOk X pins H b) (hT : s.heap.objs.size ≤ T)
    (new : ObjOk X.prog X.w (upd H T ob) h' T ob) : Inv X pins σ (upd H T ob) { s with heap := h', toks := t' } := by
  have hn : H T = none := I.hok.fresh hT
  have nit : ∀ b u, H b = some u → b ∉ ch := fun b u e z => by
    have q := (hf b z).1
    rw [q] at e; cases e
  refine I.step (g' := s.gens) (d' := s.drawn) (ch := ch) (fun b hb => ⟨(hf b hb).2.2.2.1, (hf b hb).2.1, (hf b hb).2.2.2.2.1, (hf b hb).2.2.2.2.2⟩) (fun b o _ _ hc e _ => k b o hc e) (fun b o _ _ hc e _ => ⟨o.slots, k b o hc e⟩)
    (fun b o _ e n => ?_) (fun b o hc e => ⟨o, k b o hc e⟩) (fun b xs e => ?_) (fun b o u e => ?_) (fun b ps e => ⟨#[], ?_⟩) (fun m hm => ?_) (fun b u e => ?_) I.bare
  · rw [upd_ne (Nat.ne_of_lt (Nat.lt_of_lt_of_le (Heap.lt_size e) hT))]; exact n
  · rw [upd_ne (ne_of_none e hn)]; exact e
  · rw [upd_ne (ne_of_none e hn)]; exact e
  · rw [upd_ne (ne_of_none e hn), e]; simp
  · obtain ⟨o, es, ep, ho, r⟩ := hm
    exact ⟨o, es, ep, k _ o (fun z => (hf _ z).2.1 rfl) ho, r⟩
  · by_cases hb : b = T
    · subst hb
      rw [upd_same] at e
      cases e
      exact new
    · rw [upd_ne hb] at e
      refine (I.hok b u e).stay (fun c v hc q => k c v ?_ q) (fun c q => by rw [upd_ne (ne_of_none q hn)]; exact q) fun c xs q => by rw [upd_ne (ne_of_none q hn)]; exact q
      rcases hc with z | z
      · rw [z]; exact nit b u e
      · exact nit c _ z

/-! ### locking a thing while a statement runs -/
end
section
variable {X : Cx}
/-! ### one iterator just laid -/
theorem pi_one {tg : Expr} {pins : List (Addr × Obj)} {σ : St} {H : Hp} {s : Shared} {R : It → Hp → Prop} {J : It} {tn : Nat → Heap → Prop} {tk : Nat} (I : Inv X pins σ H s) (o : Obj)
    (T : Turn X.prog X.w X.K tg J [s.heap.objs.size] s.heap.objs.size tn) (st : tn 0 (s.heap.push o)) (q : R J H) : PIE X pins σ tg R (.ref s.heap.objs.size) { s with heap := s.heap.push o, toks := tk } := by
  refine ⟨s.heap.objs.size, [s.heap.objs.size], tn, J, H, rfl, I.kept fun b ob e => Heap.get?_push_of_some _ e, T, st, fun b hb => ?_, q⟩
  have e : b = s.heap.objs.size := by simpa using hb
  subst e
  exact I.fpOk (Nat.le_refl _) (I.hok.fresh (Nat.le_refl _))
end
/-! ### range with a step -/
section
variable {X : Cx} {tg : Expr}
end
/-! ### reversed(list) -/
section
variable {X : Cx} {tg : Expr}
end
/-! ### a str -/
def Its (x : Str) : It := ⟨fun i _ => i < x.cps.size, fun i H v H' => H' = H ∧ ∃ c, x.cps[i]? = some c ∧ v = .str ⟨#[c]⟩, fun i _ => x.cps.size ≤ i⟩
theorem turn_str {P : Program} {w : World} {K : PySem.W.Frag} {tg : Expr} (it : Addr) (x : Str) (t : Tok) (ty : String) (hty : ty = "str_ascii_iterator" ∨ ty = "str_iterator") :
    Turn P w K tg (Its x) [it] it (fun i h => h.IsStrIter it ty x t i) where
  mem := by simp
  obj := fun i h st b hb => by
    have e : b = it := by simpa using hb
    subst e
    obtain ⟨o, e, c, d⟩ := st
    exact ⟨o, e, fun v z => by rw [d] at z; cases z⟩
  keep := fun i h h' st k => let ⟨o, ho, r⟩ := st; ⟨o, k it (by simp) o ho, r⟩
  item := by
    intro X hP hw hK hc i pins s σ H E I hf st hg
    subst hP hw hK
    obtain ⟨f0, f1, f2, f3, f4, f5⟩ := hf it (by simp)
    have W : Walks X.prog X.w X.A it [it] [it] x.cps.size (SignAt x) (fun i h => h.IsStrIter it ty x t i) := by
      rcases hty with e | e
      · rw [e]; exact Walks.strAscii (I.ok.hd hc) it x t
      · rw [e]; exact Walks.strWide (I.ok.hd hc) it x t
    have hno : ["enumerate", "zip", "dict_itemiterator", "dict_reverseitemiterator", "odict_iterator", "itertools.zip_longest", "itertools.pairwise"].contains ty = false := by
      rcases hty with e | e
      · rw [e]; decide
      · rw [e]; decide
    refine W.item i s _ _ hg st fun v h' tk hv st' kk => ?_
    obtain ⟨c, u, hcx, rfl⟩ := hv
    have I1 : Inv X pins σ H { s with heap := h', toks := tk } := I.turned (fun b o hb e => kk b o (by simpa using hb) e) f0 f1 f3 f4 f5
    obtain ⟨oi, e, cc, dd⟩ := id st'
    exact ⟨_, rfl, go_of (s := { s with heap := h', toks := tk }) e cc dd hno ⟨.str ⟨#[c]⟩, H, I1, ⟨u, rfl⟩, ⟨rfl, c, hcx, rfl⟩, st', fun b hb => (hf b hb).1⟩⟩
  done := by
    intro X hP hw hK hc i pins s σ H E I hf st hg
    subst hP hw hK
    obtain ⟨f0, f1, f2, f3, f4, f5⟩ := hf it (by simp)
    have hx : x.cps[i]? = none := Array.getElem?_eq_none hg
    rcases hty with e | e
    · rw [e] at st
      exact wpAny_pyNext_ascii_end (I.ok.hd hc) st hx fun h' eb => ⟨rfl, I.turned (t' := s.toks) (fun b o hb e => eb b o hb e) f0 f1 f3 f4 f5⟩
    · rw [e] at st
      exact wpAny_pyNext_wide_end (I.ok.hd hc) st hx fun h' eb => ⟨rfl, I.turned (t' := s.toks) (fun b o hb e => eb b o hb e) f0 f1 f3 f4 f5⟩
  self := fun A i s Q E st h => by
    rcases hty with e | e
    · rw [e] at st; exact wpAny_pyIter_striter_ascii st h
    · rw [e] at st; exact wpAny_pyIter_striter_wide st h
def iStr (te : TE) : TI := fun σ H R => te σ H fun v H1 => ∃ x, v = .str x ∧ R (Its x) H1
theorem pi_str {X : Cx} {tg e : Expr} {te : TE} (he : PE X e te) : PI X tg e (iStr te) := by
  intro pins s σ H R I h
  refine thn (he pins s σ H _ I h) fun v s1 ⟨y, H1, I1, r1, x, ex, q⟩ => ?_
  subst ex
  obtain ⟨t, rfl⟩ := r1
  cases ha : x.cps.all (· < 128)
  · exact wpAny_pyIter_wide ha (pi_one (tk := s1.toks) I1 _ (turn_str _ x t "str_iterator" (.inr rfl)) ⟨_, Heap.get?_push_size _ rfl, rfl, rfl⟩ q)
  · exact wpAny_pyIter_ascii ha (pi_one (tk := s1.toks) I1 _ (turn_str _ x t "str_ascii_iterator" (.inl rfl)) ⟨_, Heap.get?_push_size _ rfl, rfl, rfl⟩ q)

/-! ### a dict's keys: any dict's entries -/
section
variable {prog : Program} {w : World} {A : Around} {E : Value → Shared → Prop} {s : Shared}
end
/-! ### a locked dict -/
section
variable {X : Cx} {pins : List (Addr × Obj)} {σ : St} {H : Hp} {s : Shared} {d : Addr} {o : Obj}
end
section
variable {P : Program} {w : World} {K : PySem.W.Frag} {tg : Expr} {d : Addr} {o : Obj} {es : Array DictEntry} {ep : Nat}
end
/-! ### for k in d, d.keys(), d.values(), d.items() -/
section
variable {X : Cx} {tg e : Expr} {td : TE} {apos cpos : Pos}
end
/-! ### enumerate(list) -/
/-! ### zip(list, list) -/
theorem boot_zip5 : bootBuiltins "zip" = some (.type "zip") := by decide +kernel
end L2
section 
namespace Bits
open PySem PyProof.Rows
end Bits
end 
section 
namespace TL
open PySem PySem.Builtin PySem.Builtin.Str PySem.StrLaws
abbrev tl (x : Str) : List Nat := x.cps.toList
theorem len_tl (x : Str) : x.length = (tl x).length := by simp [tl, Str.length]
theorem ext_tl {x y : Str} (h : tl x = tl y) : x = y := Str.ext' (Array.toList_inj.mp h)
theorem tl_append (x y : Str) : tl (x ++ y) = tl x ++ tl y := by
  show (x ++ y).cps.toList = _
  rw [Str.cps_append, Array.toList_append]
theorem tl_mk (l : List Nat) : tl ⟨l.toArray⟩ = l := rfl
theorem map_tl_inj : ∀ {l m : List Str}, l.map tl = m.map tl → l = m
  | [], [], _ => rfl
  | [], _ :: _, h => by simp at h
  | _ :: _, [], h => by simp at h
  | x :: l, y :: m, h => by
    rw [List.map_cons, List.map_cons] at h
    injection h with h1 h2
    rw [ext_tl h1, map_tl_inj h2]
/-! ### the list functions -/
/-- S stands at the head of l -/
def pre (S l : List Nat) : Bool := l.take S.length == S
/-- l cut at each S from the left; k signs are still to be passed over -/
def spl (S : List Nat) : Nat → List Nat → List Nat → List (List Nat)
  | _, acc, [] => [acc]
  | 0, acc, c :: r => if pre S (c :: r) = true then acc :: spl S (S.length - 1) [] r else spl S 0 (acc ++ [c]) r
  | k + 1, acc, _ :: r => spl S k acc r
theorem spl_nil (S : List Nat) (k : Nat) (acc : List Nat) : spl S k acc [] = [acc] := by cases k <;> rfl
theorem spl_hit {S acc r : List Nat} {c : Nat} (h : pre S (c :: r) = true) : spl S 0 acc (c :: r) = acc :: spl S (S.length - 1) [] r := by
  show (if pre S (c :: r) = true then acc :: spl S (S.length - 1) [] r else spl S 0 (acc ++ [c]) r) = _
  rw [if_pos h]
theorem spl_miss {S acc r : List Nat} {c : Nat} (h : pre S (c :: r) = false) : spl S 0 acc (c :: r) = spl S 0 (acc ++ [c]) r := by
  show (if pre S (c :: r) = true then acc :: spl S (S.length - 1) [] r else spl S 0 (acc ++ [c]) r) = _
  rw [if_neg (by rw [h]; exact Bool.false_ne_true)]
theorem spl_pass (S : List Nat) : ∀ (k : Nat) (acc l : List Nat), spl S k acc l = spl S 0 acc (l.drop k)
  | 0, _, _ => by rw [List.drop_zero]
  | k + 1, acc, [] => by rw [List.drop_nil, spl_nil, spl_nil]
  | k + 1, acc, c :: r => by
    show spl S k acc r = spl S 0 acc (r.drop k)
    exact spl_pass S k acc r
theorem pre_nil {S : List Nat} (hS : S ≠ []) : pre S [] = false := by
  cases S with
  | nil => exact absurd rfl hS
  | cons s S => rfl
theorem pre_of_head {s c : Nat} (S r : List Nat) (h : c ≠ s) : pre (s :: S) (c :: r) = false := by
  cases hp : pre (s :: S) (c :: r) with
  | false => rfl
  | true =>
    have e : (c :: r).take (s :: S).length = s :: S := eq_of_beq hp
    rw [List.length_cons, List.take_succ_cons] at e
    injection e with e1 e2
    exact absurd e1 h
theorem pre_self (S r : List Nat) : pre S (S ++ r) = true := by
  show ((S ++ r).take S.length == S) = true
  have e : (S ++ r).take S.length = S := List.take_left
  rw [e] <;> exact beq_self_eq_true S

theorem getElem_drop_cons {L : List Nat} {a : Nat} (h : a < L.length) : ∃ c, L.drop a = c :: L.drop (a + 1) := ⟨L[a], List.drop_eq_getElem_cons h⟩
theorem spl_run (S L : List Nat) : ∀ (m a : Nat) (acc : List Nat), a + m ≤ L.length → (∀ k, a ≤ k → k < a + m → pre S (L.drop k) = false) →
    spl S 0 acc (L.drop a) = spl S 0 (acc ++ (L.drop a).take m) (L.drop (a + m))
  | 0, a, acc, _, _ => by rw [List.take_zero, List.append_nil, Nat.add_zero]
  | m + 1, a, acc, h, hn => by
    have hlt : a < L.length := by omega
    obtain ⟨c, e⟩ := getElem_drop_cons hlt
    have h0 := hn a (Nat.le_refl _) (by omega)
    have ih := spl_run S L m (a + 1) (acc ++ [c]) (by omega) (fun k h1 h2 => hn k (by omega) (by omega))
    have e2 : a + 1 + m = a + (m + 1) := by omega
    rw [e2] at ih
    rw [e] at h0
    rw [e, spl_miss h0, ih, List.take_succ_cons, List.append_assoc] <;> rfl
theorem drop_two (L : List Nat) (a b : Nat) : (L.drop a).drop b = L.drop (a + b) := by
  first
    | rw [List.drop_drop]
    | rw [List.drop_drop, Nat.add_comm]
theorem spl_at {S L : List Nat} (hS : S ≠ []) {c : Nat} {acc : List Nat} (h : pre S (L.drop c) = true) : spl S 0 acc (L.drop c) = acc :: spl S 0 [] (L.drop (c + S.length)) := by
  rw [← drop_two]
  cases e : L.drop c with
  | nil => rw [e, pre_nil hS] at h; cases h
  | cons d r =>
    rw [e] at h
    rw [spl_hit h, spl_pass]
    cases S with
    | nil => exact absurd rfl hS
    | cons s S => rfl
/-! ### the model's split and partition are these -/
theorem at_iff {x y : Str} (hy : tl y ≠ []) (i : Nat) : At x y x.length i ↔ pre (tl y) ((tl x).drop i) = true := by
  have hx := len_tl x
  have hl := len_tl y
  constructor
  · intro h
    have h2 := h.2
    rw [subAt_eq, hl] at h2
    exact h2
  · intro h
    have e : ((tl x).drop i).take (tl y).length = tl y := eq_of_beq h
    have e1 := congrArg List.length e
    rw [List.length_take, List.length_drop] at e1
    have e2 : 0 < (tl y).length := List.length_pos_iff.mpr hy
    refine ⟨by omega, ?_⟩
    rw [subAt_eq, hl]
    exact h
theorem no_at {x y : Str} (hy : tl y ≠ []) {i : Nat} (h : ¬ At x y x.length i) : pre (tl y) ((tl x).drop i) = false := by
  cases hp : pre (tl y) ((tl x).drop i) with
  | false => rfl
  | true => exact absurd ((at_iff hy i).mpr hp) h
theorem len1 {y : Str} (hy : tl y ≠ []) : 1 ≤ y.length := by
  have e2 : 0 < (tl y).length := List.length_pos_iff.mpr hy
  rw [len_tl y]
  exact e2
theorem tl_strSub (x : Str) (i j : Nat) : tl (strSub x i j) = ((tl x).drop i).take (j - i) := strSub_toList x i j
theorem tl_strSub_end (x : Str) (i : Nat) : tl (strSub x i x.length) = (tl x).drop i := by
  rw [tl_strSub, len_tl x]
  exact List.take_of_length_le (by rw [List.length_drop] <;> omega)

theorem parts_spl {x y : Str} (hy : tl y ≠ []) : ∀ (cuts : List Nat) (a f : Nat), a ≤ (tl x).length → ChainG x y x.length a cuts f → (∀ k, f ≤ k → ¬ At x y x.length k) →
    (partsFrom x y.length a cuts).map tl = spl (tl y) 0 [] ((tl x).drop a)
  | [], a, f, ha, h, hn => by
    have e : f = a := h
    subst e
    show [tl (strSub x f x.length)] = _
    have run := spl_run (tl y) (tl x) ((tl x).length - f) f [] (by omega) (fun k h1 _ => no_at hy (hn k h1))
    have e2 : f + ((tl x).length - f) = (tl x).length := by omega
    rw [e2, List.drop_length, spl_nil, List.nil_append, List.take_of_length_le (by rw [List.length_drop] <;> omega)] at run
    rw [run, tl_strSub_end]
  | c :: r, a, f, ha, h, hn => by
    obtain ⟨h1, h2, h3, h4⟩ := h
    have hc : c + y.length ≤ x.length := h2.1
    have hx := len_tl x
    have hl := len_tl y
    have ih := parts_spl hy r (c + y.length) f (by omega) h4 hn
    show tl (strSub x a c) :: (partsFrom x y.length (c + y.length) r).map tl = _
    have run := spl_run (tl y) (tl x) (c - a) a [] (by omega) (fun k k1 k2 => no_at hy (h3 k k1 (by omega)))
    have e2 : a + (c - a) = c := by omega
    rw [e2, List.nil_append, spl_at hy ((at_iff hy c).mp h2)] at run
    rw [run, ih, tl_strSub, hl]

/-- hk: by kind_ok where the separator is plain -/
theorem split_spl (x y : Str) (hy : tl y ≠ []) (hk : ¬ Builtin.Str.strKind x < Builtin.Str.strKind y) : (Txt.split x y).map tl = spl (tl y) 0 [] (tl x) := by
  obtain ⟨f, g, hn⟩ := occ_tight x y (len1 hy)
  have key := parts_spl hy _ 0 f (Nat.zero_le _) g hn
  rw [List.drop_zero] at key
  have none_case : occurrences x y 0 x.length (x.length + 1) = [] → [x].map tl = spl (tl y) 0 [] (tl x) := fun ho => by
    rw [ho] at key
    rw [← key]
    show [tl x] = [tl (strSub x 0 x.length)]
    rw [sub_whole]
  unfold Txt.split
  by_cases h1 : (decide (x.length < y.length) || decide (Builtin.Str.strKind x < Builtin.Str.strKind y)) = true
  · rw [if_pos h1]
    have hlt : x.length < y.length := by
      simp only [Bool.or_eq_true, decide_eq_true_eq] at h1
      rcases h1 with h | h
      · exact h
      · exact absurd h hk
    refine none_case ?_
    cases ho : occurrences x y 0 x.length (x.length + 1) with
    | nil => rfl
    | cons c r =>
      rw [ho] at g
      have hc : c + y.length ≤ x.length := g.2.1.1
      omega
  · rw [if_neg h1]
    by_cases h2 : (occurrences x y 0 x.length (x.length + 1)).isEmpty = true
    · rw [if_pos h2]
      exact none_case (List.isEmpty_iff.mp h2)
    · rw [if_neg h2, partsBetween_eq]
      exact key
theorem kind_ok {x y : Str} (h : y.cps.all (· < 256) = true) : ¬ Builtin.Str.strKind x < Builtin.Str.strKind y := by
  have e : Builtin.Str.strKind y = 1 := by unfold PySem.Builtin.Str.strKind; rw [if_pos h]
  rw [e]
  unfold PySem.Builtin.Str.strKind
  split
  · omega
  · split <;> omega

/-! ### computing spl and par -/
/-- a part that the separator does not begin in, then the separator -/
theorem spl_part {S p rest acc : List Nat} (hS : S ≠ []) (h : ∀ i, i < p.length → pre S ((p ++ (S ++ rest)).drop i) = false) :
    spl S 0 acc (p ++ (S ++ rest)) = (acc ++ p) :: spl S 0 [] rest := by
  have run := spl_run S (p ++ (S ++ rest)) p.length 0 acc (by rw [List.length_append]; omega) (fun k _ k2 => h k (by omega))
  have ed : (p ++ (S ++ rest)).drop p.length = S ++ rest := List.drop_left
  rw [List.drop_zero, Nat.zero_add, List.take_left] at run
  rw [run, spl_at hS (by rw [ed]; exact pre_self S rest), ← drop_two, ed, List.drop_left]
theorem spl_last {S p acc : List Nat} (h : ∀ i, i < p.length → pre S (p.drop i) = false) : spl S 0 acc p = [acc ++ p] := by
  have run := spl_run S p p.length 0 acc (by omega) (fun k _ k2 => h k (by omega))
  rw [List.drop_zero, Nat.zero_add, List.drop_length, spl_nil, List.take_length] at run
  exact run
/-- the separator's first sign is not in the part -/
theorem free_of {s : Nat} {S p q : List Nat} (h : s ∉ p) : ∀ i, i < p.length → pre (s :: S) ((p ++ q).drop i) = false := fun i hi => by
  have hlt : i < (p ++ q).length := by rw [List.length_append]; omega
  have e : (p ++ q).drop i = (p ++ q)[i] :: (p ++ q).drop (i + 1) := List.drop_eq_getElem_cons hlt
  rw [e]
  refine pre_of_head _ _ fun z => h ?_
  have e1 : (p ++ q)[i] = p[i] := List.getElem_append_left hi
  rw [← z, e1]
  exact List.getElem_mem hi
theorem spl_part1 {s : Nat} {S p rest acc : List Nat} (h : s ∉ p) : spl (s :: S) 0 acc (p ++ (s :: S ++ rest)) = (acc ++ p) :: spl (s :: S) 0 [] rest :=
  spl_part (by simp) (free_of h)
theorem spl_last1 {s : Nat} {S p acc : List Nat} (h : s ∉ p) : spl (s :: S) 0 acc p = [acc ++ p] := spl_last fun i hi => by
  have z := free_of (S := S) (q := []) h i hi
  rw [List.append_nil] at z
  exact z
/-- joined lists -/
def joinL (S : List Nat) : List (List Nat) → List Nat
  | [] => []
  | [p] => p
  | p :: q :: r => p ++ (S ++ joinL S (q :: r))
theorem tl_join (y : Str) : ∀ parts : List Str, tl (Str.join y parts) = joinL (tl y) (parts.map tl)
  | [] => rfl
  | [_] => rfl
  | x :: z :: r => by
    show tl (x ++ y ++ Str.join y (z :: r)) = tl x ++ (tl y ++ joinL (tl y) ((z :: r).map tl))
    rw [tl_append, tl_append, tl_join y (z :: r), List.append_assoc]
theorem spl_join {s : Nat} {S : List Nat} : ∀ {parts : List (List Nat)}, parts ≠ [] → (∀ p ∈ parts, s ∉ p) → spl (s :: S) 0 [] (joinL (s :: S) parts) = parts
  | [], h, _ => absurd rfl h
  | [p], _, hp => by
    show spl (s :: S) 0 [] p = [p]
    rw [spl_last1 (hp p (List.mem_singleton.mpr rfl)), List.nil_append]
  | p :: q :: r, _, hp => by
    show spl (s :: S) 0 [] (p ++ (s :: S ++ joinL (s :: S) (q :: r))) = p :: q :: r
    rw [spl_part1 (hp p (List.mem_cons_self ..)), List.nil_append, spl_join (by simp) fun z hz => hp z (List.mem_cons_of_mem _ hz)]
theorem join_eq (y : Str) (parts : List Str) : Txt.join y parts = Str.join y parts := glued_eq_join y parts
/-- THE READ-BACK: a joined text, split -/
theorem split_join {y : Str} {s : Nat} {S : List Nat} (ey : tl y = s :: S) (hk : y.cps.all (· < 256) = true) {parts : List Str} (hne : parts ≠ []) (hp : ∀ p ∈ parts, s ∉ tl p) :
    Txt.split (Txt.join y parts) y = parts := by
  refine map_tl_inj ?_
  rw [split_spl _ y (by rw [ey]; simp) (kind_ok hk), join_eq, tl_join, ey]
  refine spl_join (fun e => hne (List.map_eq_nil_iff.mp e)) fun p h => ?_
  obtain ⟨z, hz, rfl⟩ := List.mem_map.mp h
  exact hp z hz
/-! ### digits -/
/-- the signs of a number -/
def numL (n : Nat) : List Nat := (Nat.toDigits 10 n).map Char.toNat
theorem tl_num (n : Nat) : tl (Str.ofString (toString ((n : Nat) : Int))) = numL n := PySem.W.KIN.signs_num n
theorem digitChar_nat : ∀ d : Nat, d < 10 → (Nat.digitChar d).toNat = 48 + d := by decide
theorem numL_lt {n : Nat} (h : n < 10) : numL n = [48 + n] := by
  unfold numL
  rw [Nat.toDigits_of_lt_base h]
  show [(Nat.digitChar n).toNat] = _
  rw [digitChar_nat n h]
theorem numL_step {n : Nat} (h : 10 ≤ n) : numL n = numL (n / 10) ++ [48 + n % 10] := by
  have hm : n % 10 < 10 := Nat.mod_lt n (by decide)
  have t : Nat.toDigits 10 (n / 10) ++ Nat.toDigits 10 (n % 10) = Nat.toDigits 10 (10 * (n / 10) + n % 10) := Nat.toDigits_append_toDigits (by decide) (by omega) hm
  rw [Nat.div_add_mod] at t
  show (Nat.toDigits 10 n).map Char.toNat = _
  rw [← t, List.map_append, Nat.toDigits_of_lt_base hm]
  show (Nat.toDigits 10 (n / 10)).map Char.toNat ++ [(Nat.digitChar (n % 10)).toNat] = _
  rw [digitChar_nat _ hm] <;> rfl
theorem numL_digits (n : Nat) : NumText.AllDigits (numL n) := by
  induction n using Nat.strongRecOn with
  | _ n ih =>
    by_cases h : n < 10
    · rw [numL_lt h]
      intro c hc
      rw [List.mem_singleton.mp hc]
      omega
    · rw [numL_step (by omega)]
      intro c hc
      rcases List.mem_append.mp hc with hc | hc
      · exact ih (n / 10) (by omega) c hc
      · have hm : n % 10 < 10 := Nat.mod_lt n (by decide)
        rw [List.mem_singleton.mp hc]
        omega
theorem numL_ne (n : Nat) : numL n ≠ [] := by
  by_cases h : n < 10
  · rw [numL_lt h]
    simp
  · rw [numL_step (by omega)]
    simp
theorem numL_free {n s : Nat} (h : s < 48 ∨ 57 < s) : s ∉ numL n := fun hm => by
  have r := numL_digits n s hm
  omega
theorem numL_len {n k : Nat} (hk : 0 < k) (h : n < 10 ^ k) : (numL n).length ≤ k := by
  have z := PyProof.Rows.toString_length_le (v := (n : Int)) (by omega) hk (by
    have e : ((10 : Int) ^ k) = ((10 ^ k : Nat) : Int) := by
      first
        | exact (Int.natCast_pow 10 k).symm
        | simp
    rw [e]
    first | exact Int.ofNat_lt.mpr h | omega)
  rw [len_tl, tl_num] at z
  exact z
/-! ### words: x.split() -/
end TL
end 
namespace L2
open PySem PySem.Spec PyProof.Rows
/-- a list of texts, of numbered texts -/
theorem vals_strs : ∀ l : List (Str × Tok), Vals ((l.map (·.1)).map V.str) (strValues l)
  | [] => .nil
  | p :: r => .cons ⟨p.2, rfl⟩ (vals_strs r)
theorem strs_of_vals : ∀ {ys : List Str} {us : List Value}, Vals (ys.map V.str) us → StrsAre us ys
  | [], _, .nil => .nil
  | y :: ys, _, .cons r t => by
    obtain ⟨k, rfl⟩ := r
    exact .cons y k (strs_of_vals t)

/-- a new list of texts, tracked -/
def rNewStrs (ys : List Str) : Hp → VK → Prop := fun H Q => ∀ p, H p = none → Q (.ref p) (upd H p (.lst (ys.map V.str)))

section
variable {X : Cx} {pins : List (Addr × Obj)} {σ : St} {H : Hp} {s : Shared} {Q : VK}
theorem laid_strs {l : List (Str × Tok)} {ys : List Str} {k : Nat} (I : Inv X pins σ H s) (e : l.map (·.1) = ys) (hz : ys.length ≤ sizeLine) (h : rNewStrs ys H Q) :
    EP X pins σ Q (.ref s.heap.objs.size) { s with toks := k, heap := s.heap.push { cls := .type "list", data := .seq (strValues l).toArray } } := by
  have hp := I.hok.fresh (Nat.le_refl _)
  refine ⟨.ref s.heap.objs.size, upd H s.heap.objs.size (.lst (ys.map V.str)), I.laid (fun b u q => Heap.get?_push_of_some _ q) (Nat.le_refl _) ⟨by rw [List.length_map]; exact hz, strValues l, _, ?_, Heap.get?_push_size _ rfl⟩, rfl, h _ hp⟩
  rw [← e]
  exact vals_strs l
end
section
variable {X : Cx}
/-- x.split(sep) -/
theorem mt_split : MtR X "str.split" (fun x xs H Q => ∃ a b, x = .str a ∧ xs = [.str b] ∧ (b.length == 0) = false ∧ a.length + 2 ≤ sizeLine ∧ rNewStrs (Txt.split a b) H Q) := by
  intro pins s σ H x xs v us Q I rx rs h
  obtain ⟨a, b, rfl, rfl, hb, hz, h⟩ := h
  obtain ⟨t, rfl⟩ := rx
  cases rs with
  | cons r1 rs =>
    cases rs
    obtain ⟨u, rfl⟩ := r1
    have hl : (Txt.split a b).length ≤ sizeLine := Nat.le_trans (PyProof.Rows.split_le a b) hz
    have hn : (Builtin.Str.partsBetween a (Builtin.Str.occurrences a b 0 a.length (a.length + 1)) b.length).length ≤ sizeLine := by
      have e1 := StrLaws.occ_length_le a b 0 a.length (a.length + 1)
      rw [length_partsBetween]; omega
    cases h1 : (decide (a.length < b.length) || decide (Builtin.Str.strKind a < Builtin.Str.strKind b))
    · cases hf : (Builtin.Str.occurrences a b 0 a.length (a.length + 1)).isEmpty
      · refine call_meets F.slot_str_split (typeIs_str _ _ _) F.entry_str_split (F.args_str_split_2 _ _) (meets_str_split_sep a b t u h1 hb hf (by omega) hn) ?_
        show EP X pins σ Q (.ref s.heap.objs.size) { s with toks := _, heap := s.heap.push { cls := .type "list", data := .seq (strsFrom s.toks (Builtin.Str.partsBetween a (Builtin.Str.occurrences a b 0 a.length (a.length + 1)) b.length)).toArray } }
        rw [strsFrom_eq]
        exact laid_strs (ys := Txt.split a b) I ((numbered_texts _ _).trans ((if_neg (ne_true_of_eq_false h1)).trans (if_neg (ne_true_of_eq_false hf))).symm) hl h
      · refine call_meets F.slot_str_split (typeIs_str _ _ _) F.entry_str_split (F.args_str_split_2 _ _) (meets_str_split_not_found a b t u h1 hb hf) ?_
        exact laid_strs (l := [(a, t)]) (ys := Txt.split a b) (k := s.toks) I ((if_neg (ne_true_of_eq_false h1)).trans (if_pos hf)).symm hl h
    · refine call_meets F.slot_str_split (typeIs_str _ _ _) F.entry_str_split (F.args_str_split_2 _ _) (meets_str_split_cannot_occur a b t u h1) ?_
      exact laid_strs (l := [(a, t)]) (ys := Txt.split a b) (k := s.toks) I (if_pos h1).symm hl h

/-- sep.join(a list | a tuple of texts) -/
theorem mt_join : MtR X "str.join" (fun x xs H Q => ∃ a p, ∃ ys : List Str, x = .str a ∧ xs = [.ref p] ∧ (SqL X.K H p (ys.map V.str) ∨ SqT X.K H p (ys.map V.str)) ∧
    (ys.map (·.length)).sum + ys.length * a.length ≤ 16777216 ∧ Q (.str (Txt.join a ys)) H) := by
  intro pins s σ H x xs v us Q I rx rs h
  obtain ⟨a, p, ys, rfl, rfl, hp, hz, h⟩ := h
  obtain ⟨t, rfl⟩ := rx
  cases rs with
  | cons r1 rs =>
    cases rs
    cases r1
    rcases hp with hp | hp
    · obtain ⟨its, r, ⟨o, n, ho, hc, _, hd⟩, _⟩ := I.list hp
      exact PyProof.Rows.join_list (items := its.toArray) ⟨o, ho, hc, n, hd⟩ (by rw [List.toList_toArray]; exact strs_of_vals r) hz fun t' k => ⟨.str _, H, I.tok k, ⟨t', rfl⟩, h⟩
    · obtain ⟨its, r, ht, _⟩ := I.tuple hp
      exact PyProof.Rows.join_tuple (items := its.toArray) ht (by rw [List.toList_toArray]; exact strs_of_vals r) hz fun t' k => ⟨.str _, H, I.tok k, ⟨t', rfl⟩, h⟩

/-! ### of a text alone -/
/-! ### of a text and a text -/
/-- int(text) -/
theorem call_int_str : CallR X (.type "int") (fun xs H Q => ∃ a n, xs = [.str a] ∧ PySem.intText? a = some n ∧ a.length ≤ 640 ∧ Q (.int n) H) := by
  intro pins s σ H xs us Q I rs h
  obtain ⟨a, n, rfl, hn, hl, h⟩ := h
  cases rs with
  | cons r1 rs =>
    cases rs
    obtain ⟨t, rfl⟩ := r1
    exact PySem.W.KIN.call_text hn hl ⟨.int n, H, I.tok _, ⟨_, rfl⟩, h⟩
end
section
variable {X : Cx} {o e : Expr} {to te : TE}
def tM1 (r : V → List V → Hp → VK → Prop) (to te : TE) : TE := fun σ H Q => to σ H fun x H1 => (∃ a, x = .str a) ∧ te σ H1 fun y H2 => r x [y] H2 Q
theorem pe_m1 {id : String} {name : Str} {apos pos : Pos} {r : V → List V → Hp → VK → Prop} (slot : Slot "str" name id) (ty : typeOf (.builtin id) = pure (.type "method_descriptor")) (rule : MtR X id r) (ho : PE X o to) (he : PE X e te)
    (hs : starEach [e] X.env = [(false, eval e X.env)] := by rfl) (hbase : attributeBase o name X.env (eval o X.env) = eval o X.env := by rfl) (hline : (apos.endLine == pos.line) = true := by rfl) :
    PE X (.Call (.Attribute o name apos) [e] [] pos) (tM1 r to te) := by
  intro pins s σ H Q I h
  refine PySem.Call_method1 hbase hs hline (thn (ho pins s σ H _ I h) fun v s1 ⟨x, H1, I1, r1, q1⟩ => ?_)
  obtain ⟨⟨a, rfl⟩, q1⟩ := q1
  obtain ⟨t, rfl⟩ := _root_.id r1
  refine ⟨"str", _, F.plainAttrs_str, slot, ty, typeIs_str _ _ _, (fun _ e => nomatch e), Calls.callWith_builtin rfl (Calls.evalArgs_plain (Calls.spliced_cons ?_))⟩
  exact thn (he pins s1 σ H1 _ I1 q1) fun u s2 ⟨y, H2, I2, r2, q2⟩ => Calls.spliced_nil (rule pins s2 σ H2 _ [y] _ [u] Q I2 r1 (.cons r2 .nil) q2)

theorem pe_split {apos pos : Pos} (ho : PE X o to) (he : PE X e te) (hs : starEach [e] X.env = [(false, eval e X.env)] := by rfl) (hbase : attributeBase o "split" X.env (eval o X.env) = eval o X.env := by rfl) (hline : (apos.endLine == pos.line) = true := by rfl) :
    PE X (.Call (.Attribute o "split" apos) [e] [] pos) (tM1 (fun x xs H Q => ∃ a b, x = .str a ∧ xs = [.str b] ∧ (b.length == 0) = false ∧ a.length + 2 ≤ sizeLine ∧ rNewStrs (Txt.split a b) H Q) to te) :=
  pe_m1 F.slot_str_split F.type_str_split mt_split ho he hs hbase hline
theorem pe_join {apos pos : Pos} (ho : PE X o to) (he : PE X e te) (hs : starEach [e] X.env = [(false, eval e X.env)] := by rfl) (hbase : attributeBase o "join" X.env (eval o X.env) = eval o X.env := by rfl) (hline : (apos.endLine == pos.line) = true := by rfl) :
    PE X (.Call (.Attribute o "join" apos) [e] [] pos) (tM1 (fun x xs H Q => ∃ a p, ∃ ys : List Str, x = .str a ∧ xs = [.ref p] ∧ (SqL X.K H p (ys.map V.str) ∨ SqT X.K H p (ys.map V.str)) ∧
      (ys.map (·.length)).sum + ys.length * a.length ≤ 16777216 ∧ Q (.str (Txt.join a ys)) H) to te) :=
  pe_m1 F.slot_str_join F.type_str_join mt_join ho he hs hbase hline
end
end L2
namespace L2
open PySem PySem.Spec PyProof.Rows
section
variable {X : Cx}
theorem op_le_str : OpR X (compareOp .LtE) (fun x y H Q => ∃ i j, x = .str i ∧ y = .str j ∧ Q (.bl (!decide (j.cps.toList < i.cps.toList))) H) := by
  intro pins s σ H x y v u Q I rx ry h
  obtain ⟨i, j, rfl, rfl, q⟩ := h
  obtain ⟨t, rfl⟩ := rx
  obtain ⟨t', rfl⟩ := ry
  exact PySem.P.le_str (fin_bl I q rfl)
end
/-! ### slices of a text -/
theorem IsPart.raw {v : Value} {o : Option Int} (p : IsPart v o) : ∃ l : Option (Int × Tok), v = partValue l ∧ l.map (·.1) = o := by
  cases p with
  | none => exact ⟨none, rfl, rfl⟩
  | int i t => exact ⟨some (i, t), rfl, rfl⟩

/-- a part, clipped, as the text's slice reckons it -/
def clipS (n d : Nat) : Option Int → Int
  | none => (d : Int)
  | some i => max 0 (min (if i < 0 then i + (n : Int) else i) (n : Int))
theorem clipS_eq (n d : Nat) (o : Option Int) : clipS n d o = ((HT.sIx n d o : Nat) : Int) := by
  cases o with
  | none => rfl
  | some v =>
    show max (0 : Int) (min (if v < 0 then v + (n : Int) else v) (n : Int)) = (((if v < 0 then (v + (n : Int)).toNat else min v.toNat n) : Nat) : Int)
    by_cases hv : v < 0
    · simp only [if_pos hv]
      omega
    · simp only [if_neg hv]
      omega
theorem sidx_clip (a b : Option Int) (n : Nat) : Builtin.Str.strSliceIndices a b 1 n = sliceRange (clipS n 0 a) (clipS n n b) 1 := by
  have h1 : ((1 : Int) > 0) = True := by simp
  cases a <;> cases b <;> first
    | rfl
    | (simp only [Builtin.Str.strSliceIndices, clipS, h1, if_true]; rfl)
    | simp [Builtin.Str.strSliceIndices, clipS]
theorem sidx (a b : Option Int) (n : Nat) : Builtin.Str.strSliceIndices a b 1 n = (List.range (HT.sIx n n b - HT.sIx n 0 a)).map (fun k => HT.sIx n 0 a + k) := by
  rw [sidx_clip, clipS_eq, clipS_eq]
  generalize HT.sIx n 0 a = p
  generalize HT.sIx n n b = q
  simp only [sliceRange, show ((1 : Int) > 0) = True from by simp, if_true]
  by_cases hlt : (p : Int) < q
  · have e3 : (((q : Int) - p + 1 - 1) / 1).toNat = q - p := by first | omega | (simp; done) | (simp; omega)
    simp only [hlt, if_true, e3]
    refine List.map_congr_left fun k _ => ?_
    omega
  · have : q - p = 0 := by omega
    simp [hlt, this]

/-- z[lo:hi] -/
def cutS (z : Str) (lo hi : Option Int) : Str :=
  ⟨((z.cps.toList.drop (HT.sIx z.length 0 lo)).take (HT.sIx z.length z.length hi - HT.sIx z.length 0 lo)).toArray⟩
theorem sliceText_cut (z : Str) (lo hi : Option Int) : PySem.StrLaws.sliceText z lo hi = cutS z lo hi := by
  have h1 : HT.sIx z.length 0 lo ≤ z.length := HT.sIx_le _ _ (Nat.zero_le _) _
  have h2 : HT.sIx z.length z.length hi ≤ z.length := HT.sIx_le _ _ (Nat.le_refl _) _
  have hp : HT.sIx z.length 0 lo ≤ max (HT.sIx z.length 0 lo) (HT.sIx z.length z.length hi) := Nat.le_max_left _ _
  have hq : max (HT.sIx z.length 0 lo) (HT.sIx z.length z.length hi) ≤ z.length := Nat.max_le.mpr ⟨h1, h2⟩
  have hd : max (HT.sIx z.length 0 lo) (HT.sIx z.length z.length hi) - HT.sIx z.length 0 lo = HT.sIx z.length z.length hi - HT.sIx z.length 0 lo := by omega
  have e : Builtin.Str.strSliceIndices lo hi 1 z.length =
      Builtin.Str.strSliceIndices (some ((HT.sIx z.length 0 lo : Nat) : Int)) (some ((max (HT.sIx z.length 0 lo) (HT.sIx z.length z.length hi) : Nat) : Int)) 1 z.length := by
    rw [PySem.StrLaws.strSliceIndices_plain hp hq, hd, sidx]
  have e2 : PySem.StrLaws.sliceText z lo hi =
      PySem.StrLaws.sliceText z (some ((HT.sIx z.length 0 lo : Nat) : Int)) (some ((max (HT.sIx z.length 0 lo) (HT.sIx z.length z.length hi) : Nat) : Int)) := by
    unfold PySem.StrLaws.sliceText
    rw [e]
  rw [e2, PySem.StrLaws.sliceText_nat z hp hq, hd]
  rfl
theorem cutS_length (z : Str) (lo hi : Option Int) : (cutS z lo hi).length ≤ z.length := by
  show (((z.cps.toList.drop (HT.sIx z.length 0 lo)).take (HT.sIx z.length z.length hi - HT.sIx z.length 0 lo)).toArray).size ≤ z.cps.size
  rw [List.size_toArray, List.length_take, List.length_drop, Array.length_toList]
  omega
def rSlS : V → Option Int → Option Int → Hp → VK → Prop := fun x lo hi H Q => ∃ z, x = .str z ∧ z.length ≤ sizeLine ∧ Q (.str (cutS z lo hi)) H
theorem sl_str {X : Cx} : SlR X rSlS := by
  intro pins s σ H x v vl vu lo hi sl Q I rx hs pl pu h
  obtain ⟨z, rfl, hz, q⟩ := h
  obtain ⟨t, rfl⟩ := rx
  obtain ⟨os, hos, hcs, hds⟩ := hs
  obtain ⟨l, rfl, rfl⟩ := IsPart.raw pl
  obtain ⟨u, rfl, rfl⟩ := IsPart.raw pu
  refine ⟨"str", _, F.slot_str_getitem.lookup, typeIs_str _ _ _, ?_⟩
  refine wpAny_getItem_str_slice (l := l) (u := u) (st := none) ⟨os, hos, hcs, hds⟩ rfl ?_
  have hl : (PySem.StrLaws.sliceText z (l.map (·.1)) (u.map (·.1))).length ≤ sizeLine := by
    rw [sliceText_cut]
    exact Nat.le_trans (cutS_length z _ _) hz
  rw [← sliceText_cut] at q
  unfold PySem.StrLaws.sliceText at q hl
  show Made.post (if ((1 : Int) == 1 && (Builtin.Str.strSliceIndices (l.map (·.1)) (u.map (·.1)) 1 z.length).length == z.length) = true then Made.val (.str z t)
    else Made.str ⟨((Builtin.Str.strSliceIndices (l.map (·.1)) (u.map (·.1)) 1 z.length).filterMap (z.cps[·]?)).toArray⟩) (EP X pins σ Q) s
  by_cases c : ((1 : Int) == 1 && (Builtin.Str.strSliceIndices (l.map (·.1)) (u.map (·.1)) 1 z.length).length == z.length) = true
  · rw [if_pos c] at q ⊢
    exact ⟨.str z, H, I, ⟨t, rfl⟩, q⟩
  · rw [if_neg c] at q hl ⊢
    exact ⟨hl, .str _, H, I.tok _, ⟨_, rfl⟩, q⟩
end L2
namespace Att
open PySem PySem.W PySem.Calls PyProof.Rows
/-! ### the script -/
theorem ints_of_wellAll {P : Params} {h : Heap} : ∀ (ns : List Int) (vs : List Value), WellAll P h vs (ns.map WData.int) → IntsAre vs ns := by
  intro ns
  induction ns with
  | nil =>
    intro vs w
    rw [List.map_nil] at w
    cases w
    exact .nil
  | cons n ns ih =>
    intro vs w
    rw [List.map_cons] at w
    cases w with
    | cons a b =>
      cases a
      exact .cons _ _ (ih _ b)

theorem script_of {l : OpenLaw} {n : Nat} (hn : l.most = some n) {P : Params} {h : Heap} {args : List WData} {vals : List Value}
    (hpre : l.row.toRowW.claim.pre args = true) (hwl : WellAll P h vals args) :
    ∃ a vs ns, vals = [Value.ref a] ∧ args = [WData.list (ns.map WData.int)] ∧ h.get? a = some { cls := .type "list", data := .seq vs.toArray } ∧ IntsAre vs ns ∧ ns.length ≤ n := by
  have hsh : WShape.hasAll [] args [.list .int] = true := (pre_splitW hpre).1
  have hc : l.pre.holds [] { args := args } = true := (pre_splitW hpre).2
  obtain ⟨d, r, rfl, h1, h2⟩ := hasAllW_cons hsh
  obtain rfl := hasAllW_nil h2
  obtain ⟨xs, rfl, h3⟩ := hasW_list h1
  obtain ⟨ns, rfl⟩ := items_int h3
  have hlen : ns.length ≤ n := by
    unfold OpenLaw.pre at hc
    have h4 : (WTm.not (.lt (.lit (.int (n : Int))) (.len (.arg 0)))).holds [] { args := [.list (ns.map .int)] } = true := by
      have h4 := (holds_andW hc).1
      rw [hn] at h4
      exact h4
    have h5 := condW_of h4 (w_not (w_lt w_lit (w_len_list (w_arg rfl))))
    rw [List.length_map] at h5
    refine Nat.le_of_not_lt fun q => ?_
    have q' : (n : Int) < ((ns.length : Nat) : Int) := by omega
    first
      | (rw [decide_eq_true q'] at h5; exact absurd h5 (by decide))
      | (simp at h5; omega)
  cases hwl with
  | cons w1 w2 =>
    cases w2
    cases w1 with
    | list ho hall => exact ⟨_, _, ns, rfl, rfl, ho, ints_of_wellAll ns _ hall, hlen⟩

theorem post_true (l : OpenLaw) (args : List WData) : l.row.toRowW.claim.post args (.bool true) args = true :=
  postW_of (r := l.row.toRowW) (X := (true == true))
    (show WShape.has [] (.bool true) .bool = true by first | rfl | decide | simp [WShape.has, WShape.arms, WShape.armsAll])
    (show (WTm.eq .res (.lit (.bool true))).value [] { args := args, res := some (.bool true), after := args } = some (.bool (true == true)) from w_eq_bool (w_res rfl) w_lit) rfl

/-! ### the attachment: holds_open's last premise (the goal 'hc' behind k_head) from a wpAny of the law's body -/
/-- the same from a codeAny of the CALL (for a layer whose function contracts speak of calls) -/
theorem attach_call {l : OpenLaw} {n : Nat} {q : Program} {loose : List Str} {XP : (Str → Option Value) → Heap → Prop} {YP : World → Heap → Prop} {d : DefRec}
    (hn : l.most = some n) (hdf : d.params.defaults = [])
    (call : ∀ (w : World) (s₀ s₁ : Shared) (mg mb : Str → Option Value) (fa : Addr) (o : Obj) (pm cd doc : Value) (a : Addr) (vs : List Value) (ns : List Int),
      Ground q loose [] XP w s₀ mg mb s₁.heap → YP w s₁.heap →
      s₁.heap.get? fa = some o → o.data = .func (docDef d.name d.params d.body d.scope pm cd doc) → s₁.heap.CodeRec cd d.name → mg d.name = some (.ref fa) →
      s₁.heap.get? a = some { cls := .type "list", data := .seq vs.toArray } → IntsAre vs ns → ns.length ≤ n → s₁.gens = #[] →
      codeAny (model l.prog w) callerA (.call (.ref fa) ⟨[.ref a], []⟩) (fun r s' => r = .ok (.ret (.bool true)) ∧ OldK s₁.heap s'.heap ∧ s'.os = s₁.os ∧ AllBare s'.gens) s₁) :
    WalkO q loose XP YP l.row.toRowW d [] (fun f vs => PySem.call f vs) := by
  intro w s₀ s₁ mg mb G Y fa o pm cd doc dV kV ho hd hcd hD hmg hg args vals as hpre hlay hrd hwl hlo
  obtain rfl : dV = .none := Dflts.none hD hdf
  obtain rfl : kV = .none := Dflts.noKw hD
  obtain ⟨a, vs, ns, rfl, rfl, hobj, hints, hlen⟩ := script_of hn hpre hwl
  refine enter_call (codeAny_mono (call w s₀ s₁ mg mb fa o pm cd doc a vs ns G Y ho (fd_plain hd) hcd hmg hobj hints hlen hg) fun r s' hq => ?_)
  obtain ⟨rfl, h2, h3, h4⟩ := hq
  exact ⟨.inl ⟨.bool true, .bool true, [], rfl, fun _ => rfl, .bool true, post_true l _, fun _ => ⟨List.Pairwise.nil, fun _ hm => (nomatch hm)⟩⟩, h2, h3, h4⟩

/-! ### rules over ANY heap (no ledger) from facts about the written part K: the library's own take a ledger (News) for what they write -/
section
variable {prog : Program} {w : World} {A : Around} {E : Value → Shared → Prop} {s : Shared} {K : Frag}
/-! the whole heap as the ledger: makes every rule that writes through a ledger a rule over any heap -/
end
end Att
namespace L2
open PySem PySem.Spec PyProof.Rows
theorem vals_ints : ∀ {vs : List Value} {ns : List Int}, IntsAre vs ns → Vals (ns.map V.int) vs
  | _, _, .nil => .nil
  | _, _, .cons n t h => .cons ⟨t, rfl⟩ (vals_ints h)

end L2
namespace L2
open PySem PySem.Spec PyProof.Rows
end L2
/- THE LAST THEOREM (shape; LID, My.* are yours):
   My.Adr: a structure of the addresses that your layer names (classes, functions); My.Txt K t: a structure (Prop) of the equations over K;
   My.txt_mk : {K} {implicit addresses ..} (e1 : nsIn K mainGlobals "law" = some (some (.ref f))) (e2 : K.lookup f = some ⟨oc, od, .func (fnOf "law" "law" params body scope dV kV doc pm an cdv ct), sl⟩) (e3 : codeIn K cdv "law" = true) .. : ∃ t, My.Txt K t

set_option maxRecDepth 100000 in
set_option maxHeartbeats 0 in
theorem PySem.Challenge.cw_LID_holds : PySem.Challenge.rw_LID.Holds := by
  w_on; o_law; k_head; (case hw => w_witness2)
  k_fill
  refine L2.walk_of (l := PySem.Challenge.rw_LID) (n := 63) (k := 40) (x := "script") (CX := fun w => ..) (sp := fun _ => My.sp_law) rfl (by decide) rfl ⟨rfl, by decide, by decide⟩ (fun w h Y => PySem.W.kIn_of Y) ?F ?S ?C
  case F =>
    intro w mg fa h KX G hmg
    have T : ∃ t, My.Txt (L2.KOf KX) t := by
      dsimp only [L2.KOf]                          -- K must stand as «<heap const> w.params» for k_is
      refine' My.txt_mk ?e1 ?e2 ?e3 ..
      (case e1 => PySem.W.k_is)                    -- in the order: a name -> its address -> its object -> its parts
      (case e2 => PySem.W.k_is)
      ..
    obtain ⟨t, T⟩ := T
    have e0 := hmg.symm.trans (PySem.W.mg_of KX G T.law)
    cases e0                                       -- fa is the law's own address
    exact ⟨_, fun s u => .of_eq rfl, fun base kb nb => My.law_fn T kb nb⟩     -- if «.of_eq rfl» comes too early: refine' ⟨_, ?b, fun base kb nb => My.law_fn T kb nb⟩; exact fun s u => .of_eq rfl
  case S => exact fun w H a ns hl hO hS => ..
  case C => exact ..
(the tactic k_is has no namespace: write k_is) -/
/-! SHORT WORDS over the layer: a def of the text, its body, what a loop and a test want. -/
namespace L2
open PySem PySem.Spec PyProof.Rows
/-! ### the text by places -/
/-- the j-th statement of a class's body -/
def inClass (s : Stmt) (j : Nat) : Stmt := match s with
  | .ClassDef _ _ _ body _ _ _ _ _ _ _ => body.getD j (.Pass ⟨0, 0, 0, 0⟩)
  | _ => .Pass ⟨0, 0, 0, 0⟩
def defArgs (s : Stmt) : Arguments := match s with
  | .FunctionDef _ a _ _ _ _ _ _ _ _ => a
  | _ => { posonlyargs := [], args := [], vararg := none, kwonlyargs := [], kw_defaults := [], kwarg := none, defaults := [] }
def defBody (s : Stmt) : List Stmt := match s with
  | .FunctionDef _ _ b _ _ _ _ _ _ _ => b
  | _ => []
def defScope (s : Stmt) : Scope := match s with
  | .FunctionDef _ _ _ _ _ _ sc _ _ _ => sc
  | _ => { kind := .function, names := [], isGenerator := false, isCoroutine := false }

/-! ### no exception leaves a def -/
abbrev CX0 : CXT := fun _ _ _ _ _ _ => False
abbrev E0 : XK := fun _ _ _ => False
theorem pass0 {X : Cx} : Passes CX0 X E0 := fun _ _ _ _ _ _ _ h => h.elim

/-! ### a def (or method) of the text as it stands behind the top -/
structure Fun (K : PySem.W.Frag) (x qual : Str) (st : Stmt) (f : Addr) (fd : FuncData) : Prop where
  ex : ∃ (oc : Value) (od : Option Addr) (kV doc pm : Value) (an : Option Addr) (cdv ct : Value) (osl : Array (Option Value)),
    fd = PySem.W.fnOf x qual (defArgs st) (defBody st) (defScope st) .none kV doc pm an cdv ct ∧ K.lookup f = some ⟨oc, od, .func fd, osl⟩ ∧ PySem.W.codeIn K cdv qual = true
  kp : PySem.W.keepIn K (.ref f) = true
section
variable {P : Program} {w : World} {K : PySem.W.Frag} {mg : Str → Option Value} {base : Heap}
/-- THE RULE for a def: its body as a term of rules, and the reading of that term -/
theorem Fun.ok {x qual : Str} {st : Stmt} {f : Addr} {fd : FuncData} {N ps : List Str} {k : Nat} {sp : Sp} (F : Fun K x qual st f fd) (S : FnScope N ps (defScope st)) (len : ∀ vs H Q E, sp vs H Q E → vs.length = ps.length)
    (hbody : ∀ (cdv : Value) (A : Around) (outer : List Env) (s : Shared) (H : Hp) (vs : List V) (Q : VK) (E : XK), Room k (A.deeper (envOfC qual (defScope st) s.heap.objs.size f cdv)) → sp vs H Q E →
      ∃ t, PSs (cxOf CX0 P w K mg base N qual (defScope st) f cdv A outer s H E).nox (defBody st) t ∧ t { nx := fun _ H' => Q .non H', rt := Q } (start N vs) H) : FnOk P w K mg base CX0 (k + 1) f fd ps sp := by
  obtain ⟨oc, od, kV, doc, pm, an, cdv, ct, osl, rfl, lk, hcd⟩ := F.ex
  refine fn_of lk hcd S len fun A outer s H vs Q E hr hsp => ?_
  obtain ⟨t, h, q⟩ := hbody cdv A outer s H vs Q E hr hsp
  exact ⟨t, h.nox, q⟩
/-- how its arguments bind (no defaults): h is «fun _ _ _ _ _ _ us hl => match us, hl with | [_, _], _ => rfl», one _ a parameter -/
theorem Fun.binds {x qual : Str} {st : Stmt} {f : Addr} {fd : FuncData} {ps : List Str} (F : Fun K x qual st f fd)
    (h : ∀ (kV doc pm : Value) (an : Option Addr) (cdv ct : Value) (us : List Value), us.length = ps.length → bindArgs (PySem.W.fnOf x qual (defArgs st) (defBody st) (defScope st) .none kV doc pm an cdv ct) ⟨us, []⟩ = pure (ps.zip us)) : Binds K fd ps [] := by
  obtain ⟨oc, od, kV, doc, pm, an, cdv, ct, osl, rfl, lk, hcd⟩ := F.ex
  exact .all (h kV doc pm an cdv ct)
theorem fun_mk {x qual : Str} {st : Stmt} {f : Addr} {oc : Value} {od an : Option Addr} {osl : Array (Option Value)} {kV doc pm cdv ct : Value} (l : K.lookup f = some ⟨oc, od, .func (PySem.W.fnOf x qual (defArgs st) (defBody st) (defScope st) .none kV doc pm an cdv ct), osl⟩)
    (c : PySem.W.codeIn K cdv qual = true) (k : PySem.W.keepIn K (.ref f) = true) : Fun K x qual st f (PySem.W.fnOf x qual (defArgs st) (defBody st) (defScope st) .none kV doc pm an cdv ct) := ⟨⟨oc, od, kV, doc, pm, an, cdv, ct, osl, rfl, l, c⟩, k⟩
end
theorem hu_of {A : Around} {k : Nat} (hr : Room k A) : A.units + 1 < cLine := Nat.lt_of_le_of_lt (Nat.add_le_add_left (by decide : 1 ≤ 64) _) hr.units
/-! ### expressions in short: the name that stands in the i-th slot -/
section
variable {X : Cx}
theorem pv (i : Nat) {x : Str} {pos : Pos} (hN : X.N[i]? = some x := by rfl) (hv : Vis X.env.scope x := by first | exact Or.inl rfl | exact Or.inr (Or.inl rfl) | exact Or.inr (Or.inr rfl)) (hd : (x == ("__debug__" : Str)) = false := by decide)
    (hcd : (x == ("__classdict__" : Str)) = false := by decide) : PE X (.Name x pos) (tVar i) := pe_var hN hv hd hcd
end
/-! ### tests -/
theorem iteF {A B : Prop} (h : B) : if false = true then A else B := by
  rw [if_neg Bool.false_ne_true]
  exact h
theorem iteT {A B : Prop} (h : A) : if true = true then A else B := by
  rw [if_pos rfl]
  exact h
theorem ite2 {c A B : Prop} [Decidable c] (h1 : c → A) (h2 : ¬ c → B) : if c then A else B := by
  by_cases h : c
  · rw [if_pos h]
    exact h1 h
  · rw [if_neg h]
    exact h2 h
/-! ### heaps -/
/-- all that was tracked is as it was -/
def Same (H H' : Hp) : Prop := ∀ b o, H b = some o → H' b = some o
theorem Same.refl (H : Hp) : Same H H := fun _ _ h => h
theorem Same.trans {H H1 H2 : Hp} (a : Same H H1) (b : Same H1 H2) : Same H H2 := fun c o h => b c o (a c o h)
/-! ### a dict's pairs: keys that differ -/
section
variable {κ : Type} [DecidableEq κ]
end
/-! ### lists -/
theorem at_of {xs : List V} {z : Int} {j : Nat} {v : V} (e : z = (j : Int)) (h : xs[j]? = some v) : atI xs z = some v := by
  rw [e]
  exact atI_nat h
end L2

set_option Elab.async false
set_option maxRecDepth 100000
set_option linter.all false
set_option maxHeartbeats 8000000
/-! More rules over the layer: dict(d), d != e, d.clear(), isinstance of a whole number, list(reversed(xs)), // by a great number. -/
namespace Rl
open PySem PySem.Spec L2
section
variable {X : Cx}
/-- // by a positive divisor of up to nine thousand bits -/
theorem op_fdivL : OpR X (binaryOp .FloorDiv) (rI (fun _ j => 0 < j ∧ j.natAbs.log2 < 9000) fun i j => .int (i / j)) := opI fun i j _ _ _ _ _ hc q => by
  have h1 : (0 : Int) < j := hc.1
  exact PyProof.Rows.floordiv_int (by omega) (by rw [Int.fdiv_eq_ediv_of_nonneg i (by omega)]; exact q) (.inl (PyProof.noPylong_of_log2 hc.2))

end
end Rl
namespace Rl
open PySem PySem.Spec L2
/-- a block cut in two: what holds between is said -/
def tCut (t u : TS) : TS := fun D σ H => ∃ Mid : St → Hp → Prop, t { D with nx := Mid } σ H ∧ ∀ σ' H', Mid σ' H' → u D σ' H'
theorem pss_cut {X : Cx} {st : Stmt} {rest : List Stmt} {t u : TS} (h1 : PS X st t) (h2 : PSs X rest u) : PSs X (st :: rest) (tCut t u) := by
  intro pins s σ H D I ⟨Mid, a, b⟩
  refine wpAny_execs_cons (thn (h1 pins s σ H { D with nx := Mid } I a) fun f s1 q => ?_)
  cases f with
  | next => obtain ⟨σ', H', I', q⟩ := q; exact h2 pins s1 σ' H' D I' (b σ' H' q)
  | ret v => exact q
  | brk => exact q
  | cont => exact q
end Rl
namespace Tb
open PySem PySem.Spec PyProof.Rows L2
/-- nothing is tracked but the script and the empty tables at ts -/
def OnlyT (ts : List Addr) (H : Hp) : Prop := ∀ b, H b = none ∨ (∃ o xs, H b = some (.frz o (.lst xs))) ∨ (b ∈ ts ∧ H b = some (.tbl #[]))
/-- where the module of the built-ins lies -/
def BM (mg : Str → Option Value) (base : Heap) : Prop := ∃ bm ob, mg "__builtins__" = some (.ref bm) ∧ bm ≠ builtinsNs ∧ base.get? bm = some ob ∧ ob.cls = .type "module" ∧ ob.dict = some builtinsNs ∧ ob.data = .plain

def h0T (ts : List Addr) (a : Addr) (u : Option HO) : Hp := fun b => if b ∈ ts then some (.tbl #[]) else if b = a then u else none
theorem h0T_t {ts : List Addr} {a b : Addr} {u : Option HO} (h : b ∈ ts) : h0T ts a u b = some (.tbl #[]) := by unfold h0T; rw [if_pos h]
theorem h0T_a {ts : List Addr} {a : Addr} {u : Option HO} (h : a ∉ ts) : h0T ts a u a = u := by unfold h0T; rw [if_neg h, if_pos rfl]
theorem h0T_n {ts : List Addr} {a b : Addr} {u : Option HO} (h : b ∉ ts) (h2 : b ≠ a) : h0T ts a u b = none := by unfold h0T; rw [if_neg h, if_neg h2]

theorem law_callT {P : Program} {w : World} {K : PySem.W.Frag} {mg mb : Str → Option Value} {CX : CXT} {k : Nat} {fa a : Addr} {fd : FuncData} {x : Str} {sp : Sp} {s₁ : Shared} {vs : List Value} {ns : List Int} {ts : List Addr}
    (KX : K.In s₁.heap) (hns : s₁.heap.Ns mainGlobals mg) (hb : s₁.heap.Ns builtinsNs mb) (hbb : ∀ x : Str, x ≠ "__name__" → mb x = bootBuiltins x) (hlim : s₁.heap.NoLimit) (hg : s₁.gens = #[])
    (ha : s₁.heap.get? a = some { cls := .type "list", data := .seq vs.toArray }) (hi : IntsAre vs ns) (hl : ns.length ≤ sizeLine) (hr : Room k callerA)
    (hts : ∀ P ∈ ts, s₁.heap.get? P = some (PySem.W.tabObj #[])) (hcs : ∀ P ∈ ts, ∃ c, PySem.W.codeHdIn K c P = true) (hnt : PySem.W.noTabs K = true) (hbm : BM mg s₁.heap)
    (F : ∀ base : Heap, K.In base → base.Ns mainGlobals mg → BM mg base → FnOk P w K mg base CX k fa fd [x] sp) (hbind : ∀ (s : Shared) (u : Value), BindsTo s fd ⟨[u], []⟩ [(x, u)])
    (hsp : ∀ H : Hp, OnlyT ts H → (∀ P ∈ ts, H P = some (.tbl #[])) → SqL K H a (ns.map V.int) → sp [.ref a] H (fun v _ => v = .bl true) fun _ _ _ => False)
    (hCX : ∀ H e s', CX [] H s₁ (fun _ _ _ => False) e s' → False) :
    codeAny (model P w) callerA (.call (.ref fa) ⟨[.ref a], []⟩) (fun r s' => r = .ok (.ret (.bool true)) ∧ OldK s₁.heap s'.heap ∧ s'.os = s₁.os ∧ AllBare s'.gens) s₁ := by
  have rv := vals_ints hi
  have lenV := hi.length
  have core : ∀ H : Hp, OnlyT ts H → (∀ P ∈ ts, H P = some (.tbl #[])) → SqL K H a (ns.map V.int) → HOk P w H s₁.heap → (∀ b, H b ≠ none → b = a ∨ b ∈ ts) → (H a ≠ none → K.lookup a = none) →
      codeAny (model P w) callerA (.call (.ref fa) ⟨[.ref a], []⟩) (fun r s' => r = .ok (.ret (.bool true)) ∧ OldK s₁.heap s'.heap ∧ s'.os = s₁.os ∧ AllBare s'.gens) s₁ := by
    intro H hO hTb hS hok hA hK
    have base_of : ∀ {b : Addr} {o : Obj}, s₁.heap.get? b = some o → H b = none → (hidT s₁.heap H).get? b = some o := fun e n => hidT_get e n
    have no : ∀ {b : Addr} {o : Obj}, s₁.heap.get? b = some o → o ≠ { cls := .type "list", data := .seq vs.toArray } → o ≠ PySem.W.tabObj #[] → H b = none := fun {b o} e d1 d2 => by
      cases q : H b with
      | none => rfl
      | some u =>
        rcases hA b (by rw [q]; simp) with e' | e'
        · subst e'
          rw [ha] at e; cases e
          exact absurd rfl d1
        · rw [hts b e'] at e; cases e
          exact absurd rfl d2
    have noA : ∀ {b : Addr} {o : Obj} {es : Array DictEntry} {ep : Nat}, s₁.heap.get? b = some o → o.data = .dict es ep → H b = none := fun {b o es ep} e d =>
      no e (fun z => by rw [z] at d; cases d) fun z => by rw [z] at d; cases d
    have nsK : ∀ {b : Addr} {m : Str → Option Value}, s₁.heap.Ns b m → (hidT s₁.heap H).Ns b m := fun {b m} ⟨o, es, ep, e, d, r⟩ => ⟨o, es, ep, base_of e (noA e d), d, r⟩
    have hKb : K.In (hidT s₁.heap H) := fun b o e => base_of (KX b o e) (by
      cases q : H b with
      | none => rfl
      | some u =>
        rcases hA b (by rw [q]; simp) with e' | e'
        · subst e'
          rw [hK (by rw [q]; simp)] at e; cases e
        · have e2 := KX b o e
          rw [hts b e'] at e2
          have h2 := List.all_eq_true.mp hnt (b, o) (PySem.W.mem_of_lookupK e)
          have e3 : PySem.W.tabObj #[] = o := Option.some.inj e2
          subst e3
          exact absurd (show false = true from h2) Bool.false_ne_true)
    have hM : Mod K mg (hidT s₁.heap H) := ⟨hKb, nsK hns, ⟨mb, nsK hb, hbb⟩, let ⟨mc, h1, h2⟩ := hlim; ⟨mc, nsK h1, h2⟩⟩
    have e0 : Env0 P w K mg (hidT s₁.heap H) callerA [] s₁ H := ⟨rfl, hM, fun b o e => of_hidT e, Nat.le_of_eq (hidT_size _ _), trivial, fun b hb => absurd (show b ∈ ([] : List Addr) from hb) (by simp), hok, .of_eq hg⟩
    have hBM : BM mg (hidT s₁.heap H) := by
      obtain ⟨bm, ob, b1, b2, b3, b4, b5, b6⟩ := hbm
      refine ⟨bm, ob, b1, b2, base_of b3 (no b3 (fun z => ?_) fun z => ?_), b4, b5, b6⟩
      · rw [z] at b6; cases b6
      · rw [z] at b6; cases b6
    refine codeAny_mono ((F _ hKb (nsK hns) hBM).run callerA [] s₁ H ⟨[.ref a], []⟩ [.ref a] [.ref a] _ _ hr e0 (hbind s₁ (.ref a)) (.cons rfl .nil) (hsp H hO hTb hS)) fun r s' h => ?_
    cases r with
    | error e => exact (hCX H e s' h).elim
    | ok fl =>
      cases fl with
      | next => exact False.elim h
      | brk => exact False.elim h
      | cont => exact False.elim h
      | ret u =>
        obtain ⟨v, H', os, bare, un, hok', r', q⟩ := h
        have q' : v = .bl true := q
        subst q'
        obtain rfl : u = Value.bool true := r'
        have tab : ∀ b ∈ ts, ∃ ps, s'.heap.get? b = some (PySem.W.tabObj ps) := fun b hb => by
          obtain ⟨more, e⟩ := un.tbls b _ (hTb b hb)
          exact ⟨_, hok' b _ e⟩
        have same : ∀ b o, b ∉ ts → s₁.heap.get? b = some o → s'.heap.get? b = some o := fun b o hb e => by
          cases q : H b with
          | none => exact un.keep b o e q (by intro z; exact absurd (show b ∈ ([] : List Addr) from z) (by simp)) (by simp)
          | some u =>
            rcases hO b with z | ⟨ob, xs, z⟩ | ⟨z, _⟩
            · rw [q] at z; cases z
            · have z2 := un.frzs b ob _ z
              obtain ⟨e1, _⟩ := hok b _ z
              obtain ⟨e2, _⟩ := hok' b _ z2
              rw [e] at e1; cases e1
              exact e2
            · exact absurd z hb
        refine ⟨rfl, ⟨fun b o e => ?_, fun b o e => ?_⟩, os, bare⟩
        · by_cases hb : b ∈ ts
          · obtain ⟨ps, hP⟩ := tab b hb
            obtain ⟨c, hc⟩ := hcs b hb
            have e2 := hts b hb
            rw [e] at e2
            cases e2
            exact .inr (.inl ⟨((PySem.W.codeHd_of_K KX hc).tab e).isCodeTable, rfl, #[], ps, rfl, by rw [Array.empty_append]; exact hP⟩)
          · exact .inl (same b o hb e)
        · by_cases hb : b ∈ ts
          · obtain ⟨ps, hP⟩ := tab b hb
            exact ⟨_, hP⟩
          · exact ⟨o, same b o hb e⟩
  have nats : a ∉ ts := fun z => by
    have e := hts a z
    rw [ha] at e
    cases e
  have start : ∀ u : Option HO, OnlyT ts (h0T ts a u) → SqL K (h0T ts a u) a (ns.map V.int) → (∀ v, u = some v → ObjOk P w (h0T ts a u) s₁.heap a v) → (u ≠ none → K.lookup a = none) →
      codeAny (model P w) callerA (.call (.ref fa) ⟨[.ref a], []⟩) (fun r s' => r = .ok (.ret (.bool true)) ∧ OldK s₁.heap s'.heap ∧ s'.os = s₁.os ∧ AllBare s'.gens) s₁ := fun u h1 h2 h3 h4 => by
    refine core _ h1 (fun P hP => h0T_t hP) h2 (fun b v z => ?_) (fun b z => ?_) fun z => h4 (by rw [h0T_a nats] at z; exact z)
    · by_cases hb : b ∈ ts
      · rw [h0T_t hb] at z
        cases z
        exact hts b hb
      · by_cases hb2 : b = a
        · subst hb2
          rw [h0T_a hb] at z
          exact h3 v z
        · rw [h0T_n hb hb2] at z
          cases z
    · by_cases hb : b ∈ ts
      · exact .inr hb
      · by_cases hb2 : b = a
        · exact .inl hb2
        · exact absurd (h0T_n hb hb2) z
  have only : ∀ u : Option HO, (u = none ∨ ∃ o xs, u = some (.frz o (.lst xs))) → OnlyT ts (h0T ts a u) := fun u hu b => by
    by_cases hb : b ∈ ts
    · exact .inr (.inr ⟨hb, h0T_t hb⟩)
    · by_cases hb2 : b = a
      · subst hb2
        rw [h0T_a hb]
        rcases hu with e | ⟨o, xs, e⟩
        · exact .inl e
        · exact .inr (.inl ⟨o, xs, e⟩)
      · exact .inl (h0T_n hb hb2)
  cases hk : K.lookup a with
  | some o =>
    have e := KX a o hk
    rw [ha] at e
    cases e
    exact start none (only none (.inl rfl)) (.inr ⟨_, vs.toArray, _, hk, rfl, rfl, rfl, by rw [List.size_toArray, lenV]; exact hl, by simpa using rv⟩) (fun v z => nomatch z) fun z => absurd rfl z
  | none =>
    exact start (some (.frz { cls := .type "list", data := .seq vs.toArray } (.lst (ns.map V.int)))) (only _ (.inr ⟨_, _, rfl⟩)) (.inl (.inr ⟨{ cls := .type "list", data := .seq vs.toArray }, h0T_a nats⟩))
      (fun v z => by cases z; exact ⟨ha, by rw [List.length_map]; exact hl, vs, _, rv, ha⟩) fun _ => hk

/-- the goal that k_head leaves, where the law's code makes functions -/
theorem walk_ofT {l : PySem.W.OpenLaw} {n k : Nat} {q : Program} {loose : List Str} {XP : (Str → Option Value) → Heap → Prop} {YP : World → Heap → Prop} {d : DefRec} {K : Params → PySem.W.Frag} {CX : World → CXT} {sp : World → Sp} {x : Str} {ts : List Addr}
    (hn : l.most = some n) (hn2 : n ≤ sizeLine) (hdf : d.params.defaults = []) (hr : Room k callerA)
    (hY : ∀ (w : World) (h : Heap), YP w h → (K w.params).In h ∧ ∀ P ∈ ts, h.get? P = some (PySem.W.tabObj #[]))
    (hcs : ∀ (w : World), ∀ P ∈ ts, ∃ c, PySem.W.codeHdIn (K w.params) c P = true) (hnt : ∀ w : World, PySem.W.noTabs (K w.params) = true)
    (F : ∀ (w : World) (mg : Str → Option Value) (fa : Addr) (h : Heap), (K w.params).In h → h.Ns mainGlobals mg → mg d.name = some (.ref fa) →
      ∃ fd : FuncData, (∀ (s : Shared) (u : Value), BindsTo s fd ⟨[u], []⟩ [(x, u)]) ∧
        ∀ base : Heap, (K w.params).In base → base.Ns mainGlobals mg → BM mg base → FnOk l.prog w (K w.params) mg base (CX w) k fa fd [x] (sp w))
    (hsp : ∀ (w : World) (H : Hp) (a : Addr) (ns : List Int), ns.length ≤ n → OnlyT ts H → (∀ P ∈ ts, H P = some (.tbl #[])) → SqL (K w.params) H a (ns.map V.int) → sp w [.ref a] H (fun v _ => v = .bl true) fun _ _ _ => False)
    (hCX : ∀ (w : World) (H : Hp) (s : Shared) (e : Value) (s' : Shared), CX w [] H s (fun _ _ _ => False) e s' → False) :
    PySem.W.WalkO q loose XP YP l.row.toRowW d [] (fun f vs => PySem.call f vs) := by
  refine Att.attach_call hn hdf fun w s₀ s₁ mg mb fa o pm cd doc a vs ns G Y ho hd hcd hmg hobj hints hlen hg => ?_
  obtain ⟨KX, hts⟩ := hY w _ Y
  obtain ⟨fd, hb, hF⟩ := F w mg fa _ KX G.T.g hmg
  exact law_callT KX G.T.g G.T.b G.T.builtins G.T.nolimit hg hobj hints (Nat.le_trans hlen hn2) hr hts (hcs w) (hnt w) G.T.bmain hF hb (fun H hO hT hS => hsp w H a ns hlen hO hT hS) fun H e s' => hCX w H s₁ e s'

/-! ### a lambda is made: its table has grown -/
section
variable {X : Cx}
def CoO (c : Addr) (qual : Str) : HO := .ext fun h => h.CodeRec (.ref c) qual
/-- a table by which one lambda was made -/
def tab1 (pos : Pos) (c : Addr) : Array Value := #[rawInt pos.line, rawInt pos.col, .ref c]
end
end Tb
namespace Tb
open PySem PySem.Spec PyProof.Rows L2
/-- the rule for a def whose code object is known, defaults or not -/
theorem okD {P : Program} {w : World} {K : PySem.W.Frag} {mg : Str → Option Value} {base : Heap} {x qual : Str} {st : Stmt} {f : Addr} {N ps : List Str} {k : Nat} {sp : Sp} {oc dV kV doc pm cdv ct : Value} {od an : Option Addr} {osl : Array (Option Value)}
    (lk : K.lookup f = some ⟨oc, od, .func (PySem.W.fnOf x qual (defArgs st) (defBody st) (defScope st) dV kV doc pm an cdv ct), osl⟩) (hcd : PySem.W.codeIn K cdv qual = true) (S : FnScope N ps (defScope st)) (len : ∀ vs H Q E, sp vs H Q E → vs.length = ps.length)
    (hbody : ∀ (A : Around) (outer : List Env) (s : Shared) (H : Hp) (vs : List V) (Q : VK) (E : XK), Room k (A.deeper (envOfC qual (defScope st) s.heap.objs.size f cdv)) → sp vs H Q E →
      ∃ t, PSs (cxOf CX0 P w K mg base N qual (defScope st) f cdv A outer s H E).nox (defBody st) t ∧ t { nx := fun _ H' => Q .non H', rt := Q } (start N vs) H) : FnOk P w K mg base CX0 (k + 1) f (PySem.W.fnOf x qual (defArgs st) (defBody st) (defScope st) dV kV doc pm an cdv ct) ps sp := by
  refine fn_of lk hcd S len fun A outer s H vs Q E hr hsp => ?_
  obtain ⟨t, h, q⟩ := hbody A outer s H vs Q E hr hsp
  exact ⟨t, h.nox, q⟩
/-- the table of a def that makes one lambda: not made so far, or made -/
def LamT (H : Hp) (P : Addr) (pos : Pos) (qual : Str) : Prop := H P = some (.tbl #[]) ∨ ∃ c', H P = some (.tbl (tab1 pos c')) ∧ H c' = some (CoO c' qual)
theorem LamT.is {H : Hp} {P : Addr} {pos : Pos} {qual : Str} (h : LamT H P pos qual) : ∃ ps, H P = some (.tbl ps) := by
  rcases h with e | ⟨c', e, _⟩
  · exact ⟨_, e⟩
  · exact ⟨_, e⟩
theorem LamT.keep {H H' : Hp} {P : Addr} {pos : Pos} {qual : Str} (h : LamT H P pos qual) (k : ∀ b o, H b = some o → (∃ ps, o = .tbl ps) ∨ (∃ φ, o = .ext φ) → H' b = some o) : LamT H' P pos qual := by
  rcases h with e | ⟨c', e, e2⟩
  · exact .inl (k _ _ e (.inl ⟨_, rfl⟩))
  · exact .inr ⟨c', k _ _ e (.inl ⟨_, rfl⟩), k _ _ e2 (.inr ⟨_, rfl⟩)⟩
end Tb

set_option Elab.async false
set_option maxRecDepth 100000
set_option linter.all false
set_option maxHeartbeats 4000000
namespace Tb
open PySem PySem.Spec PyProof.Rows L2
/-! ### generator expressions: their code, by the def's table -/
section
variable {X : Cx} {pins : List (Addr × Obj)} {σ : L2.St} {H : Hp} {s : Shared}
/-- the code of a generator expression: made now, or before -/
theorem gen_code {A : Around} {E : Value → Shared → Prop} {env : Env} {scope : Scope} {pos : Pos} {c P : Addr} {qual : Str} {Q : Value → Shared → Prop} (hcode : env.code = .ref c) (hC : PySem.W.codeHdIn X.K c P = true) (I : Inv X pins σ H s) (hT : LamT H P pos qual)
    (q : ∀ (c' : Addr) (H' : Hp) (s' : Shared), Inv X pins σ H' s' → (∀ b o, H b = some o → b ≠ P → H' b = some o) → LamT H' P pos qual → s.heap.objs.size ≤ s'.heap.objs.size → (∀ b o, s.heap.get? b = some o → b ≠ P → s'.heap.get? b = some o) → s'.gens = s.gens → s'.os = s.os → (∀ b, b < s.heap.objs.size → H b = none → H' b = none) → Q (.ref c') s') :
    wpAny (model X.prog X.w) A (genexprCode env pos qual scope) Q E s := by
  have C := PySem.W.codeHd_of_K I.kIn hC
  rcases hT with hP | ⟨c', hP, hc'⟩
  · have ePh : s.heap.get? P = some (PySem.W.tabObj #[]) := I.hok P _ hP
    refine wpAny_genexprCodeX hcode (C.code ePh trivial) (C.tab ePh) rfl fun c' h' tk hx hge hlt _ hrec htb _ => ?_
    have htb := htb.2
    rw [Array.empty_append] at htb
    have hPs : P < s.heap.objs.size := Heap.lt_size ePh
    have fc : H c' = none := I.hok.fresh hge
    have ncP : c' ≠ P := Nat.ne_of_gt (Nat.lt_of_lt_of_le hPs hge)
    have new : ∀ b o, s.heap.get? b = some o → b ≠ c' := fun b o e => Nat.ne_of_lt (Nat.lt_of_lt_of_le (Heap.lt_size e) hge)
    have keepN : ∀ b o, s.heap.get? b = some o → b ≠ P → h'.get? b = some o := fun b o e hb => hx b o hb e
    have at3 : ∀ b, b ≠ P → b ≠ c' → (upd (upd H P (.tbl (tab1 pos c'))) c' (CoO c' qual)) b = H b := fun b h1 h2 => by rw [upd_ne h2, upd_ne h1]
    have nn : ∀ b u, H b = some u → u ≠ .tbl #[] → b ≠ P ∧ b ≠ c' := fun b u e hu => ⟨fun z => (by rw [z, hP] at e; cases e; exact hu rfl), fun z => (by rw [z, fc] at e; cases e)⟩
    have n0 : ∀ b o, s.heap.get? b = some o → H b = none → b ≠ P := fun b o e n z => by rw [z, hP] at n; cases n
    refine q c' (upd (upd H P (.tbl (tab1 pos c'))) c' (CoO c' qual)) { s with heap := h', toks := tk } ?_ (fun b o e hb => ?_) (.inr ⟨c', ?_, upd_same⟩) (Nat.le_of_lt (Nat.lt_of_le_of_lt hge hlt)) keepN rfl rfl (fun b lt n => by rw [at3 b (fun z => by rw [z, hP] at n; cases n) (Nat.ne_of_lt (Nat.lt_of_lt_of_le lt hge))]; exact n)
    · refine I.step (g' := s.gens) (d' := s.drawn) (t' := tk) (ch := []) (fun _ z => nomatch z) (fun b o _ _ _ e n => keepN b o e (n0 b o e n)) (fun b o _ _ _ e n => ⟨o.slots, keepN b o e (n0 b o e n)⟩) (fun b o _ e n => ?_) (fun b o _ e => ?_)
        (fun b xs e => ?_) (fun b o u e => ?_) (fun b ps e => ?_) (fun m hm => ?_) (fun b u e => ?_) I.bare
      · rw [at3 b (n0 b o e n) (new b o e)]; exact n
      · by_cases hb : b = P
        · subst hb; exact ⟨_, htb⟩
        · exact ⟨o, keepN b o e hb⟩
      · obtain ⟨h1, h2⟩ := nn b _ e (by simp)
        rw [at3 b h1 h2]; exact e
      · obtain ⟨h1, h2⟩ := nn b _ e (by simp)
        rw [at3 b h1 h2]; exact e
      · by_cases hb : b = P
        · subst hb
          rw [hP] at e
          cases e
          exact ⟨tab1 pos c', by rw [upd_ne (Ne.symm ncP), upd_same, Array.empty_append]⟩
        · have h2 : b ≠ c' := fun z => by rw [z, fc] at e; cases e
          exact ⟨#[], by rw [at3 b hb h2, e]; simp⟩
      · obtain ⟨o, es, ep, ho, r⟩ := hm
        exact ⟨o, es, ep, keepN _ o ho (n0 _ o ho I.free), r⟩
      · by_cases h2 : b = c'
        · subst h2
          rw [upd_same] at e
          cases e
          obtain ⟨c₂, oc, vs, t, e2, hoc, hd, hv⟩ := hrec
          cases e2
          refine ⟨⟨_, oc, vs, t, rfl, hoc, hd, hv⟩, ⟨_, hoc⟩, fun h1 h2 ⟨c3, oc3, vs3, t3, e3, hoc3, hd3, hv3⟩ k => ?_⟩
          cases e3
          exact ⟨_, oc3, vs3, t3, rfl, k _ hoc3, hd3, hv3⟩
        · rw [upd_ne h2] at e
          by_cases h1 : b = P
          · subst h1
            rw [upd_same] at e
            cases e
            exact htb
          · rw [upd_ne h1] at e
            refine (I.hok b u e).stay (fun c2 v hc z => ?_) (fun c2 z => ?_) fun c2 xs z => ?_
            · refine keepN c2 v z fun z2 => ?_
              rcases hc with z3 | z3
              · exact h1 (z3.symm.trans z2)
              · rw [z2, hP] at z3; cases z3
            · obtain ⟨a1, a2⟩ := nn c2 _ z (by simp)
              rw [at3 c2 a1 a2]; exact z
            · obtain ⟨a1, a2⟩ := nn c2 _ z (by simp)
              rw [at3 c2 a1 a2]; exact z
    · rw [upd_ne (ne_of_none e fc), upd_ne hb]; exact e
    · rw [upd_ne (Ne.symm ncP), upd_same]
  · have ePh : s.heap.get? P = some (PySem.W.tabObj (tab1 pos c')) := I.hok P _ hP
    refine wpAny_genexprCode_hit hcode (C.code ePh trivial) (codeAmong_snoc (pos := pos) (c := .ref c') [] trivial rfl) ?_
    exact q c' H s I (fun _ _ e _ => e) (.inr ⟨c', hP, hc'⟩) (Nat.le_refl _) (fun _ _ e _ => e) rfl rfl (fun _ _ n => n)
end
end Tb

set_option Elab.async false
set_option maxRecDepth 100000
set_option linter.all false
set_option maxHeartbeats 4000000
namespace Tb
open PySem PySem.Spec PyProof.Rows L2
/-- each sign of one text lies in the other -/
def allIn (t ls : Str) : Bool := t.cps.toList.all fun c => Txt.contains ls ⟨#[c]⟩
/-- all(y in L for y in e) -/
def tAllIn (te : TE) (P : Addr) (pos : Pos) (qual ls : Str) : TE := fun σ H Q => te σ H fun v H1 => ∃ t : Str, v = .str t ∧ LamT H1 P pos qual ∧ ∀ H', (∀ b o, H1 b = some o → b ≠ P → H' b = some o) → LamT H' P pos qual → Q (.bl (allIn t ls)) H'
section
variable {X : Cx}
theorem passing_all (n : Nat) : passing (fun _ => true) n 0 = List.range n := by
  unfold passing
  rw [List.drop_zero]
  exact List.filter_eq_self.mpr fun _ _ => rfl
theorem all_range_cps (t : Str) (f : Nat → Bool) : ((List.range t.cps.size).all fun j => match t.cps[j]? with | some c => f c | none => true) = t.cps.toList.all f := by
  rw [Bool.eq_iff_iff, List.all_eq_true, List.all_eq_true]
  constructor
  · intro h c hc
    obtain ⟨j, hj⟩ := List.mem_iff_getElem?.mp hc
    have hj' : t.cps[j]? = some c := by rw [← Array.getElem?_toList]; exact hj
    have lt : j < t.cps.size := (Array.getElem?_eq_some_iff.mp hj').1
    have := h j (List.mem_range.mpr lt)
    rw [hj'] at this
    exact this
  · intro h j hj
    cases e : t.cps[j]? with
    | none => rfl
    | some c => exact h c (List.mem_iff_getElem?.mpr ⟨j, by rw [Array.getElem?_toList]; exact e⟩)
theorem pe_all_in {iter : Expr} {te : TE} {y L ls : Str} {tL : Tok} {scope : Scope} {c P : Addr} {p p1 p2 p3 py pos cpos : Pos} (hr : Room 1 X.A) (hbm : BM X.mg X.base) (hcode : X.env.code = .ref c) (hC : PySem.W.codeHdIn X.K c P = true)
    (hcl : closureFor scope X.env = pure []) (hco : scope.isCoroutine = false) (hcell : ∀ z ∈ scope.names, z.2 ≠ .cell) (h0 : scope.names.lookup (".0" : Str) = some NameKind.local) (hy : scope.names.lookup y = some .local) (hkind : scope.kind = .function)
    (hyk : ∀ C code bi, (genEnv scope [] C code bi X.env).kindOf y = some .local) (hLk : ∀ C code bi, (genEnv scope [] C code bi X.env).kindOf L = some .globalImplicit)
    (hg : Gl X "all") (hm : X.mg "all" = none) (hmL : X.mg L = some (.str ls tL)) (hs : ∀ x, genFold iter X.env x = pure x) (he : PE X iter te) (hyd : (y == ("__debug__" : Str)) = false) (hLd : (L == ("__debug__" : Str)) = false) :
    PE X (.Call (.Name "all" p) [.GeneratorExp (.Compare (.Name y p1) [.In] [.Name L p2] p3) [⟨.Name y py, iter, [], 0⟩] scope pos] [] cpos) (tAllIn te P pos (X.env.qual ++ "<genexpr>") ls) := by
  intro pins s σ H Q I h
  refine wpAny_Call_Name_kw (ld_blt (u := .builtin "all") I hg hm boot_all ?_)
  have hst : starEach [.GeneratorExp (.Compare (.Name y p1) [.In] [.Name L p2] p3) [⟨.Name y py, iter, [], 0⟩] scope pos] X.env = [(false, eval (.GeneratorExp (.Compare (.Name y p1) [.In] [.Name L p2] p3) [⟨.Name y py, iter, [], 0⟩] scope pos) X.env)] := by rfl
  refine PyProof.Rows.callWith_builtin1 ?_ hst rfl
  rw [hst]
  show wpAny _ _ (spliced ((false, _) :: [])) _ _ s
  refine Calls.spliced_cons ?_
  have hdep : X.A.depth < recursionLimit := by have := hr.dp; omega
  refine wpAny_GeneratorExp_walksQ hr.hd hco hcl hcell h0 hy hkind hdep ?_ hs
  refine thn (he pins s σ H _ I h) fun v s1 ⟨x, H1, I1, rx, t, ex, hT, q⟩ => ?_
  subst ex
  obtain ⟨tok, rfl⟩ := rx
  refine wpAny_pyIter_str fun o St W hst0 => ?_
  have ke2 : ∀ b u, s1.heap.get? b = some u → (s1.heap.push o).get? b = some u := fun b u e => Heap.get?_push_of_some _ e
  have I2 : Inv X pins σ H1 { s1 with heap := s1.heap.push o } := I1.kept (t' := s1.toks) ke2
  refine ⟨I2.nolimit, gen_code hcode hC I2 hT fun c' H3 s3 I3 kp hT3 sz3 k3 eg3 eo3 kn3 => ?_⟩
  obtain ⟨bm, ob, b1, b2, b3, b4, b5, b6⟩ := hbm
  refine wpAny_builtinsFor (by rw [I.ok.glob]; exact I3.mod.glob.keeps I3.bk) b1 b2 (I3.bk _ _ b3) b4 b5 b6 ?_
  have hPs : P < s1.heap.objs.size := by
    obtain ⟨ps, hp⟩ := hT.is
    exact Heap.lt_size (I1.hok P _ hp)
  have hsz2 : (s1.heap.push o).objs.size = s1.heap.objs.size + 1 := Heap.size_push _ _
  have sz3' : s1.heap.objs.size + 1 ≤ s3.heap.objs.size := by rw [← hsz2]; exact sz3
  have nIP : s1.heap.objs.size ≠ P := Nat.ne_of_gt hPs
  refine ⟨s1.heap.objs.size, [s1.heap.objs.size], [s1.heap.objs.size], t.cps.size, SignAt t, St, fun _ => true, fun i r => ∃ c, t.cps[i]? = some c ∧ r = .bool (Txt.contains ls ⟨#[c]⟩), rfl, fun A' hA => W A' hA, ?_, ?_, I3.nolimit, ?_, ?_, ?_⟩
  · refine (W X.A hr.hd).frame 0 _ _ hst0 fun b hb o' e => k3 b o' e ?_
    rw [List.mem_singleton.mp hb]; exact nIP
  · intro b hb
    rw [List.mem_singleton.mp hb]; exact Nat.lt_of_lt_of_le (Nat.lt_succ_self _) sz3'
  · intro hb
    have lt : cStatics < s1.heap.objs.size := let ⟨_, hn, _⟩ := I1.nolimit; hn.lt
    rw [List.mem_singleton.mp hb] at lt
    exact Nat.lt_irrefl _ lt
  · intro href hk
    refine ⟨fun A' E' i v s2 m2 hA hP hns hm2 hk2 => ?_, fun A' E' i v s2 m2 hA hP _ hns hm2 hk2 => ?_⟩
    · exact wpAny_pure ⟨rfl, s2.heap, s2.toks, rfl, fun _ _ e => e⟩
    · obtain ⟨cc, u, hc, rfl⟩ := hP
      have base : ∀ b o, X.base.get? b = some o → s2.heap.get? b = some o := fun b o e => by
        have e1 := I1.bk b o e
        have e3 := I3.bk b o e
        have lt := Heap.lt_size e1
        exact hk2 b (List.mem_range.mpr (Heap.lt_size e3)) (fun z => by rw [List.mem_singleton.mp z] at lt; exact Nat.lt_irrefl _ lt) o (hk _ _ e3)
      refine wpAny_Compare1 ?_ rfl
      refine wpAny_Name (wpAny_loadName_local hkind (hyk _ _ _) hns hm2 ?_) hyd
      refine Calls.Name_function_global hkind (hLk _ _ _) (Calls.loadGlobal_global (mg := X.mg) ?_ hmL ?_) hLd
      · show s2.heap.Ns X.env.globals X.mg
        rw [I.ok.glob]; exact I.mod.glob.keeps base
      · exact SB.contains ⟨⟨cc, hc, rfl⟩, s2.heap, s2.toks, rfl, fun _ _ e => e⟩
  · intro a h5 tk gs hgs ha h5s hk5 WX hG
    refine Calls.spliced_nil (call_all_walkS ?_)
    have W1 := WX.in4_1
    refine W1.self 0 _ _ _ hG ?_
    rw [passing_all] at W1
    refine ⟨a, _, _, _, _, _, _, fun j => match t.cps[j]? with | some c => Txt.contains ls ⟨#[c]⟩ | none => true, rfl, W1, ?_, fun j v s' Q' E' hP hQ => ?_, fun s' hmv => ?_⟩
    · exact hG
    · obtain ⟨i, hi, cc, hc, rfl⟩ := hP
      have lt : j < t.cps.size := by
        have := (List.getElem?_eq_some_iff.mp hi).1
        rwa [List.length_range] at this
      rw [List.getElem?_range lt] at hi
      obtain rfl := Option.some.inj hi
      dsimp only at hQ
      rw [hc] at hQ
      exact wpAny_truthy_bool hQ
    · have keep : ∀ b o, b ≠ s1.heap.objs.size → s3.heap.get? b = some o → s'.heap.get? b = some o := fun b o nb e => hmv.heap b o (fun z => by
        rcases List.mem_cons.mp z with z | z
        · exact Nat.lt_irrefl _ (z ▸ Heap.lt_size e)
        · exact nb (List.mem_singleton.mp z)) (hk5 b o e)
      have hn3 : H3 s1.heap.objs.size = none := kn3 _ (by show s1.heap.objs.size < (s1.heap.push o).objs.size; rw [hsz2]; exact Nat.lt_succ_self _) I1.fresh
      have I4 := I3.turned (it := s1.heap.objs.size) (h' := s'.heap) (t' := s'.toks) keep hn3 (Nat.ne_of_gt I1.lt) (.inr I1.sz) (fun x c e z => by
        obtain ⟨v, o, ho, _⟩ := I1.cell x c e
        exact Nat.lt_irrefl _ (z ▸ Heap.lt_size ho)) (fun p hp z => by
        have := Heap.lt_size (I1.pin p hp).1
        rw [z] at this
        exact Nat.lt_irrefl _ this)
      have bare : AllBare s'.gens := hmv.gens.bare fun y hy => by
        rcases Array.mem_push.mp hy with hy | rfl
        · exact I3.bare y hy
        · exact hgs
      have I5 : L2.Inv X pins σ H3 s' := ⟨I4.ok, hmv.os.trans I3.os, bare, I4.base, I4.loc, I4.cell, I4.free, I4.freeC, I4.pin, I4.hok, I4.len⟩
      refine ⟨.bl (allIn t ls), H3, I5, ?_, q H3 kp hT3⟩
      show Value.bool _ = Value.bool _
      rw [List.length_range, all_range_cps]; rfl
end
end Tb

set_option Elab.async false
set_option maxRecDepth 100000
set_option linter.all false
set_option maxHeartbeats 4000000
namespace Tb
open PySem PySem.Spec PyProof.Rows L2
/-! ### x.removeprefix(y); a list's items in a tuple -/
section
variable {X : Cx}
theorem mt_removeprefix : MtR X "str.removeprefix" (fun x xs H Q => ∃ a b, x = .str a ∧ xs = [.str b] ∧ a.length ≤ sizeLine ∧ Q (.str (Txt.removeprefix a b)) H) := by
  intro pins s σ H x xs v us Q I rx rs h
  obtain ⟨a, b, rfl, rfl, hz, h⟩ := h
  obtain ⟨t, rfl⟩ := rx
  cases rs with
  | cons r1 rs =>
    cases rs
    obtain ⟨u, rfl⟩ := r1
    exact call_gives F.slot_str_removeprefix (typeIs_str _ _ _) F.entry_str_removeprefix (F.args_str_removeprefix_2 _ _) (gives_str_removeprefix a b t u) (post_affix hz _ fun t' k => ⟨.str _, H, I.tok k, ⟨t', rfl⟩, h⟩)
theorem pe_removeprefix {o e : Expr} {to te : TE} {apos pos : Pos} (ho : PE X o to) (he : PE X e te) (hs : starEach [e] X.env = [(false, eval e X.env)] := by rfl) (hbase : attributeBase o "removeprefix" X.env (eval o X.env) = eval o X.env := by rfl) (hline : (apos.endLine == pos.line) = true := by rfl) :
    PE X (.Call (.Attribute o "removeprefix" apos) [e] [] pos) (tM1 (fun x xs H Q => ∃ a b, x = .str a ∧ xs = [.str b] ∧ a.length ≤ sizeLine ∧ Q (.str (Txt.removeprefix a b)) H) to te) :=
  pe_m1 F.slot_str_removeprefix F.type_str_removeprefix mt_removeprefix ho he hs hbase hline
/-- e, .., *l, .. -/
def tStarL (K : PySem.W.Frag) (tl : TE) (t : TA) : TA := fun σ H Q => tl σ H fun u H1 => ∃ a xs, u = .ref a ∧ SqL K H1 a xs ∧ t σ H1 fun ys H2 => Q (xs ++ ys) H2
theorem pa_starL {l : Expr} {sp : Pos} {es : List Expr} {tl : TE} {t : TA} (hl : PE X l tl) (hr : PA X es t) : PA X (.Starred l sp :: es) (tStarL X.K tl t) := by
  intro pos pins s σ H Q I h
  rw [show starEach (.Starred l sp :: es) X.env = (true, eval l X.env) :: starEach es X.env from rfl]
  show wpAny _ _ (spliced ((true, do let v ← eval l X.env; standAt pos; pure v) :: backTo pos (starEach es X.env))) _ _ s
  unfold spliced
  refine wpAny_bind (wpAny_bind (thn (hl pins s σ H _ I h) fun u s1 ⟨x, H1, I1, r1, a, xs, ex, hq, q1⟩ => wpAny_bind (wpAny_standAt (wpAny_pure ?_))))
  subst ex
  cases r1
  obtain ⟨its, rv, pl, hz⟩ := I1.list hq
  obtain ⟨o, n, e1, e2, e3, e4⟩ := id pl
  simp only [if_true]
  refine wpAny_bind (wpAny_bind ?_)
  refine wpAny_specialOf pl.isList.typeIs F.slot_list_iter.lookup ?_
  simp only [Option.isSome_some, if_true]
  refine wpAny_pure ?_
  simp only [Bool.false_eq_true, if_false]
  have hl' := rv.length
  refine wpAny_bind ?_
  refine wpAny_collect_seq (T := "list") a (.inl rfl) e1 e2 e4 (fun h' hk => ?_) (by rw [List.size_toArray]; omega)
  refine wpAny_bind (wpAny_holding ?_)
  have I2 : L2.Inv X pins σ H1 { s1 with heap := h' } := I1.kept (t' := s1.toks) hk
  exact thn (hr pos pins _ σ H1 _ I2 q1) fun us s2 ⟨ys, H2, I3, r2, q2⟩ => wpAny_pure ⟨xs ++ ys, H2, I3, rv.append r2, q2⟩
end
end Tb

set_option Elab.async false
set_option maxRecDepth 100000
set_option linter.all false
set_option maxHeartbeats 8000000
namespace Tb
open PySem PySem.Spec PyProof.Rows L2
/-! ### a dict of the module itself, keyed by texts -/
/-- what it holds, read off the module's objects -/
def TabK (K : PySem.W.Frag) (a : Addr) (D : List (Str × V)) : Prop :=
  (a == sysModules) = false ∧ ∃ o es ep, K.lookup a = some o ∧ o.ExactDict ∧ o.data = .dict es ep ∧ KTD.Rows (fun (d : V) v => RelV d v) es.toList D
/-- the value at a text -/
def valT (D : List (Str × V)) (k : Str) : Option V := KTD.datumAt k D
section
variable {X : Cx} {pins : List (Addr × Obj)} {σ : L2.St} {H : Hp} {s : Shared} {a : Addr} {D : List (Str × V)}
theorem Inv.tab (I : L2.Inv X pins σ H s) (h : TabK X.K a D) : KTD.TabOf (fun (d : V) v => RelV d v) s.heap a D := by
  obtain ⟨z, o, es, ep, hk, hc, hd, r⟩ := h
  exact ⟨z, o, es, ep, I.kIn a o hk, hc, hd, r⟩
end
section
variable {δ : Type} {R : δ → Value → Prop} {prog : Program} {w : World} {A : Around} {E : Value → Shared → Prop} {s : Shared} {a : Addr} {D : List (Str × δ)} {k : Str} {tk : Tok}
theorem tab_typeIs (T : KTD.TabOf R s.heap a D) : s.TypeIs (.ref a) "dict" := by
  obtain ⟨_, o, _, _, ho, hc, _⟩ := T
  exact ⟨o, ho, hc.1⟩
theorem tab_look {Q : Option Value → Shared → Prop} (T : KTD.TabOf R s.heap a D) (hit : ∀ d v, KTD.datumAt k D = some d → R d v → Q (some v) { s with toks := s.toks + 1 })
    (miss : KTD.datumAt k D = none → Q none { s with toks := s.toks + 1 }) : wpAny (model prog w) A (dictGet a (.str k tk)) Q E s := by
  obtain ⟨_, o, es, ep, ho, _, hd, rows⟩ := T
  have all : (es.all fun e => isExactStrKey e.key) = true := by
    obtain ⟨l⟩ := es
    simpa using rows.exact
  have same : ∀ m : Option Value, (es.toList.find? fun e => e.key.isStr k).map (·.val) = m → findBy (fun k v => v.isStr k) es k = m := fun m e => by
    rw [← e]
    obtain ⟨l⟩ := es
    simp [findBy]
  have goal : Q (findBy (fun k v => v.isStr k) es k) { s with toks := s.toks + 1 } := by
    rcases hat : KTD.datumAt k D with _ | d
    · rw [same none (rows.find_none hat)]
      exact miss hat
    · obtain ⟨v, hv, rv⟩ := rows.find_some hat
      rw [same (some v) hv]
      exact hit d v hat rv
  unfold dictGet
  try with_reducible refine wpAny_holding ?_
  refine wpAny_bind (wpAny_pyHash_str (wpAny_bind (KTD.kt_dictFind_strs (s := { s with toks := s.toks + 1 }) ho hd all ?_)))
  rw [findBy_of_findIdx?] at goal
  cases hi : es.findIdx? fun e => e.key.isStr k with
  | none =>
    rw [hi] at goal
    exact wpAny_pure goal
  | some i =>
    rw [hi] at goal
    exact wpAny_bind (wpAny_dictEntries (s := { s with toks := s.toks + 1 }) ho hd (wpAny_pure goal))
theorem tab_item {Q : Value → Shared → Prop} {d : δ} (T : KTD.TabOf R s.heap a D) (hd : KTD.datumAt k D = some d) (hQ : ∀ v, R d v → Q v { s with toks := s.toks + 1 }) :
    wpAny (model prog w) A (getItem (.ref a) (.str k tk)) Q E s := by
  have ty := tab_typeIs T
  unfold getItem
  try with_reducible refine wpAny_holding ?_
  refine wpAny_bind (wpAny_sequenceKey ty (by decide) (wpAny_bind (wpAny_callSpecial?_slot (name := Str.ofString "__getitem__") ty slot_dict_getitem (wpAny_call_entry slot_dict_getitem ty entry_dict_getitem ?_ (args_dict_getitem _ _)))))
  show wpAny _ _ (dictGet a (.str k tk) >>= _) _ _ s
  refine wpAny_bind (tab_look T (fun d' v e rv => wpAny_pure ⟨v, rfl, wpAny_pure (hQ v ?_)⟩) fun e => ?_)
  · rw [hd] at e
    rw [Option.some.inj e]; exact rv
  · rw [hd] at e; cases e
theorem tab_notIn {Q : Value → Shared → Prop} (T : KTD.TabOf R s.heap a D) (h : Q (.bool (!(KTD.datumAt k D).isSome)) { s with toks := s.toks + 1 }) : wpAny (model prog w) A (compareOp .NotIn (.str k tk) (.ref a)) Q E s := by
  have ty := tab_typeIs T
  show wpAny _ _ (do return .bool (!(← contains (.ref a) (.str k tk)))) Q E s
  refine wpAny_bind ?_
  unfold contains
  try with_reducible refine wpAny_holding ?_
  refine wpAny_bind (wpAny_specialOf ty slot_dict_contains.lookup ?_)
  show wpAny _ _ (if (some (Value.builtin "dict.__contains__") == some Value.none) = true then _ else _) _ E s
  rw [if_neg (by rw [beq_builtin_none]; exact Bool.false_ne_true)]
  refine wpAny_bind (wpAny_callSpecialUnlessNone?_slot (name := Str.ofString "__contains__") ty slot_dict_contains (wpAny_call_entry slot_dict_contains ty entry_dict_contains ?_ (args_dict_contains _ _)))
  show wpAny _ _ (dictGet a (.str k tk) >>= _) _ _ s
  refine wpAny_bind (tab_look T (fun d v e _ => ?_) fun e => ?_) <;> rw [e] at h
  · show wpAny _ _ (ret (.bool true)) _ _ _
    exact wpAny_pure ⟨_, rfl, wpAny_truthy_bool (wpAny_pure h)⟩
  · show wpAny _ _ (Builtin.Dict.pendingKey? a (.str k tk) >>= _) _ _ _
    exact wpAny_bind (wpAny_pendingKey_other T.1 (wpAny_pure ⟨_, rfl, wpAny_truthy_bool (wpAny_pure h)⟩))
end
section
variable {X : Cx} {o i : Expr} {pos : Pos} {td ty : TE}
/-- d[k] of the module's own dict -/
def tTab (K : PySem.W.Frag) (td ty : TE) : TE := fun σ H Q => td σ H fun x H1 => ty σ H1 fun y H2 => ∃ a k D v, x = .ref a ∧ y = .str k ∧ TabK K a D ∧ valT D k = some v ∧ Q v H2
theorem pe_tab (ho : PE X o td) (hi : PE X i ty) (hs : NoSl i) : PE X (.Subscript o i pos) (tTab X.K td ty) := by
  intro pins s σ H Q I h
  refine subD_of PySem.F.slot_dict_getitem.lookup hs (thn (ho pins s σ H _ I h) fun u s1 ⟨x, H1, I1, rx, q1⟩ => thn (hi pins s1 σ H1 _ I1 q1) fun iv s2 ⟨y, H2, I2, ry, a, k, D, v, ex, ey, g, hv, q2⟩ => ?_)
  subst ex ey
  obtain rfl : u = Value.ref a := rx
  obtain ⟨t, rfl⟩ := ry
  have T := Inv.tab I2 g
  exact ⟨tab_typeIs T, tab_item T hv fun w' rw' => ⟨v, H2, I2.tok _, rw', q2⟩⟩
/-- k not in d -/
theorem op_notInTab : OpR X (compareOp .NotIn) (fun x y H Q => ∃ a k D, y = .ref a ∧ x = .str k ∧ TabK X.K a D ∧ Q (.bl (!(valT D k).isSome)) H) := by
  intro pins s σ H x y v u Q I rx ry h
  obtain ⟨a, k, D, rfl, rfl, g, q⟩ := h
  obtain rfl : u = Value.ref a := ry
  obtain ⟨t, rfl⟩ := rx
  exact tab_notIn (Inv.tab I g) ⟨.bl (!(valT D k).isSome), H, I.tok _, rfl, q⟩
end
end Tb

set_option Elab.async false
set_option maxRecDepth 100000
set_option linter.all false
set_option maxHeartbeats 4000000
namespace U
open PySem L2 TL Rl Tb
def top (i : Nat) : Stmt := PySem.Challenge.pw_dozehall_k89_rows_read_or_refused.main.body.getD i (.Pass ⟨0, 0, 0, 0⟩)
abbrev sIsName : Stmt := top 22
abbrev sReadRow : Stmt := top 28
abbrev sRowOr : Stmt := top 29
abbrev sPartsOr : Stmt := top 30
abbrev sPartOr : Stmt := top 31
abbrev sIsNum : Stmt := top 32
abbrev sSource : Stmt := top 34
abbrev sDraw : Stmt := top 35
abbrev sWhole : Stmt := top 36
abbrev sName : Stmt := top 37
abbrev sGreat : Stmt := top 38
abbrev sNumber : Stmt := top 39
abbrev sForm : Stmt := top 40
abbrev sRow : Stmt := top 41
abbrev sTextL : Stmt := top 42
abbrev sSame : Stmt := top 52
abbrev sSign : Stmt := top 43
abbrev sOdd : Stmt := top 44
abbrev sSpoil : Stmt := top 45
abbrev sWords : Stmt := top 46
abbrev sRdName : Stmt := top 47
abbrev sRdNum : Stmt := top 48
abbrev sDue : Stmt := top 49
abbrev sRefusal : Stmt := top 50
abbrev sAsked : Stmt := top 51
abbrev sXI : Stmt := inClass (top 1) 0
abbrev sLaw : Stmt := top 53

theorem iteF' {A B : Prop} {b : Bool} (h : b = false) (q : B) : if b = true then A else B := by subst h; rw [if_neg Bool.false_ne_true]; exact q
theorem iteT' {A B : Prop} {b : Bool} (h : b = true) (q : A) : if b = true then A else B := by subst h; rw [if_pos rfl]; exact q
/-- what is asked of the text's names -/
structure Glb (mg : Str → Option Value) : Prop where
  len : mg "len" = none
  enumerate : mg "enumerate" = none
  int : mg "int" = none
  range : mg "range" = none
  dict : mg "dict" = none
  sorted : mg "sorted" = none
  isi : mg "isinstance" = none
  list : mg "list" = none
  all : mg "all" = none
  tuple : mg "tuple" = none
  max : mg "max" = none
  min : mg "min" = none
  str : mg "str" = none
  rev : mg "reversed" = none
  abs : mg "abs" = none

/-! ### a source of draws -/
structure Sb (d c n : Int) : Prop where
  d0 : 0 ≤ d
  c0 : 0 ≤ c
  c1 : c ≤ 10000000000
  n0 : 0 ≤ n
abbrev srcO (d c n : Int) : HO := .lst [.int d, .int c, .int n]
def spSource (K : PySem.W.Frag) : Sp := fun vs H Q _ => ∃ (a : Addr) (ns : List Int) (k : Int), vs = [.ref a, .int k] ∧ SqL K H a (ns.map V.int) ∧ ns.length ≤ 63 ∧ 0 ≤ k ∧ k ≤ 100 ∧ ∀ p d c, H p = none → Sb d c 0 → Q (.ref p) (upd H p (srcO d c 0))
def spDraw : Sp := fun vs H Q _ => ∃ (p : Addr) (d c n m : Int), vs = [.ref p, .int m] ∧ H p = some (srcO d c n) ∧ Sb d c n ∧ n ≤ 100000 ∧ 0 < m ∧ m.natAbs.log2 < 9000 ∧ ∀ d' r, 0 ≤ r → r < m → Sb d' c (n + 1) → Q (.int r) (upd H p (srcO d' c (n + 1)))
section
variable {P : Program} {w : World} {K : PySem.W.Frag} {mg : Str → Option Value} {base : Heap}
theorem scSource : FnScope ["_law_script", "_law_k", "_law_cell", "_law_deep"] ["_law_script", "_law_k"] (defScope sSource) := ⟨rfl, rfl, rfl, by decide +kernel, rfl, by decide +kernel, by decide +kernel⟩
theorem int_at {ns : List Int} {i : Nat} (h : i < ns.length) : ∃ z, (ns.map V.int)[i]? = some (V.int z) := ⟨ns[i], by rw [List.getElem?_map, List.getElem?_eq_getElem h]; rfl⟩
theorem ok_source {f : Addr} {fd : FuncData} (F : Fun K "_law_source" "_law_source" sSource f fd) (G : Glb mg) : FnOk P w K mg base CX0 1 f fd ["_law_script", "_law_k"] (spSource K) := by
  refine F.ok scSource (fun vs H Q E h => ?_) (fun cdv A outer s H vs Q E hr h => ?_)
  · obtain ⟨a, ns, k, rfl, _⟩ := h
    rfl
  · obtain ⟨a, ns, k, rfl, hS, hlen, k0, k1, q⟩ := h
    refine ⟨_, (pss_cons (ps_set (i := 2) scSource.nd rfl (Or.inl rfl) pe_int)
      (pss_cons (ps_set (i := 3) scSource.nd rfl (Or.inl rfl) pe_int)
      (pss_cut (ps_if (pt_cmpR op_gt (pe_callB call_len_seq (by rfl) G.len PySem.boot_len (pa_cons (pv 0) pa_nil)) pe_int (nomark _)) (pss_one (ps_set (i := 2) scSource.nd rfl (Or.inl rfl) (pe_ix ix_list (pv 0) (pe_op op_mod (pv 1) (pe_callB call_len_seq (by rfl) G.len PySem.boot_len (pa_cons (pv 0) pa_nil))) (fun _ _ => rfl)))) pss_nil)
      (pss_cut (ps_if (PW.pt (pw_and (pt_cmpR op_lt (pv 1) (pe_callB call_len_seq (by rfl) G.len PySem.boot_len (pa_cons (pv 0) pa_nil)) (nomark _)) (pw_and1 (pt_cmpR op_ge (pv 2) (pe_op op_pow pe_int pe_int) (nomark _))))) (pss_one (ps_set (i := 3) scSource.nd rfl (Or.inl rfl) (pv 2))) pss_nil)
      (pss_one (ps_ret (pe_lst (pa_cons (pv 3) (pa_cons (pe_op op_add (pe_op op_add (pe_op op_mod (pv 2) pe_int) (pe_op op_mul pe_int (pv 1))) pe_int) (pa_cons pe_int pa_nil)))))))))), ?_⟩
    refine ⟨fun σ' H' => H' = H ∧ ∃ cell : Int, σ' = [some (.ref a), some (.int k), some (.int cell), some (.int 0)], ?_, ?_⟩
    · refine ⟨_, rfl, a, _, rfl, .inl hS, _, _, rfl, rfl, _, rfl, ?_⟩
      by_cases hp : (0 : Int) < ((ns.map V.int).length : Int)
      · rw [decide_eq_true hp]
        refine iteT ?_
        have e0 := Int.emod_nonneg k (show ((ns.map V.int).length : Int) ≠ 0 by omega)
        have e1 := Int.emod_lt_of_pos k hp
        have e2 : (k % ((ns.map V.int).length : Int)).toNat < ns.length := by rw [List.length_map] at *; omega
        obtain ⟨z, hz⟩ := int_at e2
        have e3 : k % ((ns.map V.int).length : Int) = (((k % ((ns.map V.int).length : Int)).toNat : Nat) : Int) := by omega
        exact ⟨_, rfl, _, rfl, _, rfl, a, _, rfl, .inl hS, _, _, rfl, rfl, hp, a, _, _, _, rfl, rfl, hS, at_of e3 hz, rfl, z, rfl⟩
      · rw [decide_eq_false hp]
        exact iteF ⟨rfl, 0, rfl⟩
    rintro _ H1 ⟨rfl, cell, rfl⟩
    refine ⟨fun σ' H'' => H'' = H1 ∧ ∃ deep : Int, 0 ≤ deep ∧ σ' = [some (.ref a), some (.int k), some (.int cell), some (.int deep)], ?_, ?_⟩
    · refine ⟨_, rfl, _, rfl, a, _, rfl, .inl hS, _, _, rfl, rfl, _, rfl, ?_⟩
      refine ite2 (fun _ => ?_) (fun _ => ?_)
      · refine ⟨_, rfl, _, _, rfl, rfl, ⟨by decide, by decide, by decide⟩, _, _, rfl, rfl, _, rfl, ?_⟩
        by_cases hc : (10 : Int) ^ (18 : Int).toNat ≤ cell
        · rw [decide_eq_true hc]
          refine iteT ⟨_, rfl, rfl, cell, ?_, rfl⟩
          have : (10 : Int) ^ (18 : Int).toNat = 1000000000000000000 := by decide
          omega
        · rw [decide_eq_false hc]
          exact iteF ⟨rfl, 0, Int.le_refl 0, rfl⟩
      · exact iteF ⟨rfl, 0, Int.le_refl 0, rfl⟩
    rintro _ H2 ⟨rfl, deep, hd, rfl⟩
    refine ⟨_, rfl, _, rfl, _, _, rfl, rfl, (by show (0 : Int) < 2147483647; decide), _, rfl, _, _, rfl, rfl, .inl ⟨by decide, by decide⟩, _, _, rfl, rfl, _, _, rfl, rfl, (by show 3 ≤ sizeLine; rw [sizeLine_eq]; decide), fun p hp => ?_⟩
    refine q p _ _ hp ⟨hd, ?_, ?_, Int.le_refl 0⟩
    · have := Int.emod_nonneg cell (show (2147483647 : Int) ≠ 0 by decide); omega
    · have := Int.emod_lt_of_pos cell (show (0 : Int) < 2147483647 by decide); omega
end
end U

set_option Elab.async false
set_option maxRecDepth 100000
set_option linter.all false
set_option maxHeartbeats 8000000
namespace U
open PySem L2 TL Rl Tb
/-! ### names, numbers, rows as texts: mathematics -/
def letters : Str := "abcdefghijklmnopqrstuvwxyz"
def figs : Str := "0123456789"
abbrev rp (t : Str) : Str := Txt.removeprefix t "-"
def numS (n : Int) : Str := Str.ofString (toString n)
def strip45 : List Nat → List Nat
  | [] => []
  | c :: cs => if c = 45 then cs else c :: cs
theorem tl_numS {n : Int} (h : 0 ≤ n) : tl (numS n) = numL n.natAbs := by
  obtain ⟨m, rfl⟩ := Int.eq_ofNat_of_zero_le h
  exact tl_num m
theorem tl_numS_neg {n : Int} (h : n < 0) : tl (numS n) = 45 :: numL n.natAbs := by
  have e : toString n = "-" ++ toString (0 - n) := PyProof.Rows.toString_neg h
  have e2 : (toString (0 - n)).toList.map Char.toNat = numL n.natAbs := by
    rw [← PyProof.Rows.signs_ofString, show (0 - n) = ((n.natAbs : Nat) : Int) by omega]
    exact tl_num _
  show (Str.ofString (toString n)).cps.toList = _
  rw [PyProof.Rows.signs_ofString, e, String.toList_append, List.map_append, e2]
  rfl
theorem tl_minus : tl ("-" : Str) = [45] := by decide +kernel
theorem tl_zero : tl ("0" : Str) = [48] := by decide +kernel
theorem sub_minus (t : Str) : Builtin.Str.subAt t "-" 0 = ((tl t).take 1 == [45]) := by
  have hl : ("-" : Str).length = 1 := by decide +kernel
  unfold Builtin.Str.subAt
  rw [hl, Bool.eq_iff_iff, beq_iff_eq, beq_iff_eq, ← Array.toList_inj, Array.toList_extract, show ("-" : Str).cps.toList = [45] from tl_minus]
  show ((tl t).drop 0).take (0 + 1 - 0) = [45] ↔ _
  rw [List.drop_zero]
theorem tl_rp (t : Str) : tl (rp t) = strip45 (tl t) := by
  have hl : ("-" : Str).length = 1 := by decide +kernel
  unfold rp Txt.removeprefix
  rw [sub_minus, hl]
  cases e : tl t with
  | nil =>
    show tl (Txt.affix t none) = []
    exact e
  | cons c cs =>
    have hx : t.length = cs.length + 1 := by rw [len_tl, e]; rfl
    by_cases hc : c = 45
    · subst hc
      show tl (if (t.length - 1 == t.length) = true then t else Builtin.Str.strSub t 1 t.length) = cs
      rw [if_neg (by rw [beq_iff_eq]; omega), tl_strSub_end, e]
      rfl
    · have hb : ((c :: cs).take 1 == [45]) = false := beq_false_of_ne fun z => hc (by injection z)
      rw [hb]
      show tl (Txt.affix t none) = if c = 45 then cs else c :: cs
      rw [if_neg hc]
      exact e
theorem rp_len (t : Str) : (rp t).length ≤ t.length := by
  rw [len_tl, len_tl, tl_rp]
  cases tl t with
  | nil => exact Nat.le_refl _
  | cons c cs =>
    show (if c = 45 then cs else c :: cs).length ≤ _
    split <;> simp
theorem len_rp (t : Str) : t.length ≤ (rp t).length + 1 := by
  rw [len_tl, len_tl, tl_rp]
  cases tl t with
  | nil => exact Nat.zero_le _
  | cons c cs =>
    show _ ≤ (if c = 45 then cs else c :: cs).length + 1
    split <;> simp
theorem tl_figs : tl figs = [48, 49, 50, 51, 52, 53, 54, 55, 56, 57] := by decide +kernel
theorem tl_letters : tl letters = [97, 98, 99, 100, 101, 102, 103, 104, 105, 106, 107, 108, 109, 110, 111, 112, 113, 114, 115, 116, 117, 118, 119, 120, 121, 122] := by decide +kernel
theorem allIn_iff (t ls : Str) : allIn t ls = true ↔ ∀ c ∈ tl t, c ∈ tl ls := by
  unfold allIn
  rw [List.all_eq_true]
  refine forall_congr' fun c => forall_congr' fun _ => ?_
  show (!(Builtin.Str.occurrences ls ⟨#[c]⟩ 0 ls.length 1).isEmpty) = true ↔ _
  rw [StrLaws.found_one, decide_eq_true_eq]
theorem allIn_figs (t : Str) : allIn t figs = true ↔ NumText.AllDigits (tl t) := by
  rw [allIn_iff, tl_figs]
  refine forall_congr' fun c => forall_congr' fun _ => ?_
  simp only [List.mem_cons, List.not_mem_nil, or_false]
  omega
theorem allIn_letters (t : Str) : allIn t letters = true ↔ ∀ c ∈ tl t, 97 ≤ c ∧ c ≤ 122 := by
  rw [allIn_iff, tl_letters]
  refine forall_congr' fun c => forall_congr' fun _ => ?_
  simp only [List.mem_cons, List.not_mem_nil, or_false]
  omega
def isName (t : Str) : Bool := decide (1 ≤ t.length) && decide (t.length ≤ 8) && allIn t letters
/-- the figures do not begin with a nought -/
def noNought (t : Str) : Bool := match (tl t)[0]? with
  | some c => !decide (V.str ⟨#[c]⟩ = V.str "0")
  | none => false
def isNum (t : Str) : Bool := (decide (1 ≤ (rp t).length) && decide ((rp t).length ≤ 60) && allIn (rp t) figs) && (decide (V.str t = V.str "0") || noNought (rp t))
theorem one_zero {c : Nat} : (V.str (⟨#[c]⟩ : Str) = V.str "0") ↔ c = 48 := by
  constructor
  · intro h
    injection h with h
    have := congrArg tl h
    rw [tl_zero] at this
    injection this
  · rintro rfl
    exact congrArg V.str (ext_tl (by rw [tl_zero]))
/-- a number's text has a value -/
theorem isNum_val {t : Str} (h : isNum t = true) : t.length ≤ 61 ∧ ∃ n, PySem.intText? t = some n := by
  unfold isNum at h
  simp only [Bool.and_eq_true, decide_eq_true_eq] at h
  obtain ⟨⟨⟨h1, h2⟩, h3⟩, _⟩ := h
  have hl := len_rp t
  refine ⟨by omega, ?_⟩
  rw [allIn_figs] at h3
  rw [len_tl] at h1
  rw [tl_rp] at h1 h3
  cases e : tl t with
  | nil => rw [e] at h1; exact absurd h1 (by decide)
  | cons c cs =>
    rw [e] at h1 h3
    by_cases hc : c = 45
    · subst hc
      have h1' : 1 ≤ cs.length := h1
      exact ⟨_, intText_neg (x := t) (cs := cs) e h3 (fun z => by rw [z] at h1'; exact absurd h1' (by decide)) (by omega)⟩
    · have h3' : NumText.AllDigits (if c = 45 then cs else c :: cs) := h3
      rw [if_neg hc] at h3'
      refine ⟨_, intText_digits (x := t) ?_ ?_ (by omega)⟩
      · rw [show t.cps.toList = c :: cs from e]; exact h3'
      · rw [show t.cps.toList = c :: cs from e]; simp
theorem numL_head {n : Nat} (h : n ≠ 0) : ∃ c cs, numL n = c :: cs ∧ c ≠ 48 := by
  induction n using Nat.strongRecOn with
  | _ n ih =>
    by_cases hn : n < 10
    · exact ⟨48 + n, [], numL_lt hn, by omega⟩
    · obtain ⟨c, cs, e, hc⟩ := ih (n / 10) (by omega) (by omega)
      exact ⟨c, cs ++ [48 + n % 10], by rw [numL_step (by omega), e]; rfl, hc⟩
theorem strip_num (n : Nat) : strip45 (numL n) = numL n := by
  have hd := numL_digits n
  cases e : numL n with
  | nil => rfl
  | cons c cs =>
    have : c ≠ 45 := by
      have := hd c (by rw [e]; exact List.mem_cons_self ..)
      omega
    exact if_neg this
theorem rp_num (n : Int) : tl (rp (numS n)) = numL n.natAbs := by
  rw [tl_rp]
  by_cases h : 0 ≤ n
  · rw [tl_numS h]; exact strip_num _
  · rw [tl_numS_neg (by omega)]; rfl
theorem isNum_num {n : Int} (h : n.natAbs < 10 ^ 60) : isNum (numS n) = true := by
  have e := rp_num n
  have l1 : 1 ≤ (numL n.natAbs).length := List.length_pos_iff.mpr (numL_ne _)
  have l2 : (numL n.natAbs).length ≤ 60 := numL_len (by decide) h
  unfold isNum
  simp only [Bool.and_eq_true, decide_eq_true_eq]
  refine ⟨⟨⟨by rw [len_tl, e]; exact l1, by rw [len_tl, e]; exact l2⟩, ?_⟩, ?_⟩
  · rw [allIn_figs, e]; exact numL_digits _
  · rw [Bool.or_eq_true]
    by_cases hz : n = 0
    · subst hz
      refine .inl (decide_eq_true (congrArg V.str (ext_tl ?_)))
      rw [tl_zero, tl_numS (Int.le_refl 0)]
      exact numL_lt (by decide)
    · right
      obtain ⟨c, cs, ec, hc⟩ := numL_head (n := n.natAbs) (by omega)
      unfold noNought
      rw [e, ec]
      show (!decide (V.str (⟨#[c]⟩ : Str) = V.str "0")) = true
      rw [decide_eq_false fun z => hc (one_zero.mp z)]
      rfl
theorem numS_len {n : Int} (h : n.natAbs < 10 ^ 60) : (numS n).length ≤ 61 := (isNum_val (isNum_num h)).1
theorem numS_free {n : Int} : 32 ∉ tl (numS n) := by
  by_cases hn : 0 ≤ n
  · rw [tl_numS hn]; exact numL_free (by omega)
  · rw [tl_numS_neg (by omega)]
    intro h
    rcases List.mem_cons.mp h with h | h
    · cases h
    · exact numL_free (by omega) h
theorem isName_iff {t : Str} : isName t = true ↔ 1 ≤ t.length ∧ t.length ≤ 8 ∧ ∀ c ∈ tl t, 97 ≤ c ∧ c ≤ 122 := by
  unfold isName
  rw [Bool.and_eq_true, Bool.and_eq_true, decide_eq_true_eq, decide_eq_true_eq, allIn_letters, and_assoc]
/-! parts, read -/
def partV (kd wd : Str) : Option V :=
  if kd = "room" ∨ kd = "key" then (if isName wd = true then some (.str wd) else none)
  else if isNum wd = true then
    (if kd = "guest" ∧ ¬ (0 ≤ (PySem.intText? wd).getD 0 ∧ (PySem.intText? wd).getD 0 ≤ 999999) then none else some (.int ((PySem.intText? wd).getD 0)))
  else none
def partsL : List Str → List Str → List V
  | k :: ks, w :: ws => (partV k w).getD .non :: partsL ks ws
  | _, _ => []
def partsOk : List Str → List Str → Bool
  | [], [] => true
  | k :: ks, w :: ws => (partV k w).isSome && partsOk ks ws
  | _, _ => false
def partsV (ks ws : List Str) : Option (List V) := if ws.length = ks.length ∧ partsOk ks ws = true then some (partsL ks ws) else none
def formsD : List (Str × List Str) :=
  [("set", ["room", "number"]), ("add", ["room", "number", "number", "place"]), ("cas", ["room", "number", "number", "place"]), ("swap", ["room", "number", "number", "place"]),
   ("take", ["room", "place"]), ("if", ["room", "number", "place"]), ("load", ["room"]), ("wait", ["room", "number", "place", "place", "late"]), ("still", ["room", "place", "place", "late"]),
   ("wake", ["room", "count"]), ("move", ["room", "room", "count", "count"])]
def formOf (k : Str) : Option (List Str) := PyProof.Rows.KTD.datumAt k formsD
def wordsV : List Str → Option (List V)
  | [] => none
  | w :: ws => match formOf w with
    | none => none
    | some ks => (partsV ks ws).map (V.str w :: ·)
def rowV (t : Str) : Option (List V) := wordsV (Txt.split t " ")
/-- one thing of a row: a name, a number -/
inductive Pt
  | nm (s : Str)
  | nu (n : Int)
def Pt.v : Pt → V
  | .nm s => .str s
  | .nu n => .int n
def Pt.s : Pt → Str
  | .nm s => s
  | .nu n => numS n
def Pt.ok : Pt → Prop
  | .nm s => isName s = true
  | .nu n => n.natAbs < 10 ^ 60
theorem Pt.free {p : Pt} (o : p.ok) : 32 ∉ tl p.s := by
  cases p with
  | nm s =>
    obtain ⟨_, _, h⟩ := isName_iff.mp o
    intro z
    have := h 32 z
    omega
  | nu n => exact numS_free
theorem Pt.len {p : Pt} (o : p.ok) : p.s.length ≤ 61 := by
  cases p with
  | nm s =>
    obtain ⟨_, h, _⟩ := isName_iff.mp o
    show s.length ≤ 61
    omega
  | nu n => exact numS_len o
theorem tl_blank : tl (" " : Str) = [32] := by decide +kernel
end U

set_option Elab.async false
set_option maxRecDepth 100000
set_option linter.all false
set_option maxHeartbeats 4000000
namespace U
open PySem L2 TL Rl Tb
/-! ### is_name, is_number -/
abbrev gnP : Pos := ⟨44, 45, 44, 83⟩
abbrev gfP : Pos := ⟨79, 56, 79, 97⟩
def LN (H : Hp) (P : Addr) : Prop := LamT H P gnP ("is_name.<locals>." ++ "<genexpr>")
def LF (H : Hp) (P : Addr) : Prop := LamT H P gfP ("is_number.<locals>." ++ "<genexpr>")
def spIsName (Pn : Addr) : Sp := fun vs H Q _ => ∃ t : Str, vs = [.str t] ∧ t.length ≤ sizeLine ∧ LN H Pn ∧ ∀ H', (∀ b o, H b = some o → b ≠ Pn → H' b = some o) → LN H' Pn → Q (.bl (isName t)) H'
section
variable {P : Program} {w : World} {K : PySem.W.Frag} {mg : Str → Option Value} {base : Heap}
theorem scIn : FnScope ["text"] ["text"] (defScope sIsName) := ⟨rfl, rfl, rfl, by decide +kernel, rfl, by decide +kernel, by decide +kernel⟩
theorem ok_isName {tL tO : Tok} {f c Pn : Addr} {oc dV kV doc pm ct : Value} {od an : Option Addr} {osl : Array (Option Value)}
    (lk : K.lookup f = some ⟨oc, od, .func (PySem.W.fnOf "is_name" "is_name" (defArgs sIsName) (defBody sIsName) (defScope sIsName) dV kV doc pm an (.ref c) ct), osl⟩) (hcd : PySem.W.codeIn K (.ref c) "is_name" = true) (hC : PySem.W.codeHdIn K c Pn = true) (hbm : BM mg base) (G : Glb mg)
    (cL : mg "LETTERS" = some (.str letters tL)) (cO : mg "LONGEST" = some (.int 8 tO)) :
    FnOk P w K mg base CX0 2 f (PySem.W.fnOf "is_name" "is_name" (defArgs sIsName) (defBody sIsName) (defScope sIsName) dV kV doc pm an (.ref c) ct) ["text"] (spIsName Pn) := by
  refine okD lk hcd scIn (fun vs H Q E h => ?_) (fun A0 outer s H vs Q E hr h => ?_)
  · obtain ⟨t, rfl, _⟩ := h
    rfl
  · obtain ⟨t, rfl, hz, hT, q⟩ := h
    refine ⟨_, (pss_one (ps_ret (pe_and (pe_chain op_le op_le pe_int (pe_callB call_len_str (by rfl) G.len PySem.boot_len (pa_cons (pv 0) pa_nil)) (pe_glob (v := .int 8) (u := .int 8 tO) (by rfl) cO ⟨_, rfl⟩)) (pe_one (pe_all_in (c := c) (P := Pn) (ls := letters) (tL := tL) hr hbm rfl hC rfl rfl (by decide +kernel) (by decide +kernel) (by decide +kernel) rfl (fun _ _ _ => rfl) (fun _ _ _ => rfl) (by rfl) G.all cL (fun _ => rfl) (pv 0) (by decide +kernel) (by decide +kernel)))))), ?_⟩
    have e1 : (decide ((1 : Int) ≤ (t.length : Int))) = decide (1 ≤ t.length) := by rw [decide_eq_decide]; omega
    have e8 : (decide ((t.length : Int) ≤ (8 : Int))) = decide (t.length ≤ 8) := by rw [decide_eq_decide]; omega
    refine ⟨_, rfl, t, rfl, hz, _, _, rfl, rfl, _, rfl, ?_⟩
    cases h1 : decide (1 ≤ t.length) with
    | false =>
      refine iteF' (e1.trans h1) ?_
      have q0 := q H (fun _ _ e _ => e) hT
      have e0 : isName t = false := by unfold isName; rw [h1]; rfl
      rw [e0] at q0
      exact ⟨_, rfl, iteF q0⟩
    | true =>
      refine iteT' (e1.trans h1) ?_
      cases h8 : decide (t.length ≤ 8) with
      | false =>
        have q0 := q H (fun _ _ e _ => e) hT
        have e0 : isName t = false := by unfold isName; rw [h1, h8]; rfl
        rw [e0] at q0
        refine ⟨_, _, rfl, rfl, _, rfl, iteF' (e8.trans h8) ?_⟩
        exact q0
      | true =>
        refine ⟨_, _, rfl, rfl, _, rfl, iteT' (e8.trans h8) ?_⟩
        refine ⟨_, rfl, t, rfl, hT, fun H' k' hT' => ?_⟩
        have q0 := q H' k' hT'
        have e0 : isName t = allIn t letters := by unfold isName; rw [h1, h8]; rfl
        rw [e0] at q0
        exact q0
end
end U

set_option Elab.async false
set_option maxRecDepth 100000
set_option linter.all false
set_option maxHeartbeats 8000000
namespace U
open PySem L2 TL Rl Tb
def spIsNum (Pf : Addr) : Sp := fun vs H Q _ => ∃ t : Str, vs = [.str t] ∧ t.length ≤ sizeLine ∧ LF H Pf ∧ ∀ H', (∀ b o, H b = some o → b ≠ Pf → H' b = some o) → LF H' Pf → Q (.bl (isNum t)) H'
section
variable {P : Program} {w : World} {K : PySem.W.Frag} {mg : Str → Option Value} {base : Heap}
theorem scNm : FnScope ["word", "figures"] ["word"] (defScope sIsNum) := ⟨rfl, rfl, rfl, by decide +kernel, rfl, by decide +kernel, by decide +kernel⟩
theorem ok_isNum {tF tM : Tok} {f c Pf : Addr} {oc dV kV doc pm ct : Value} {od an : Option Addr} {osl : Array (Option Value)}
    (lk : K.lookup f = some ⟨oc, od, .func (PySem.W.fnOf "is_number" "is_number" (defArgs sIsNum) (defBody sIsNum) (defScope sIsNum) dV kV doc pm an (.ref c) ct), osl⟩) (hcd : PySem.W.codeIn K (.ref c) "is_number" = true) (hC : PySem.W.codeHdIn K c Pf = true) (hbm : BM mg base) (G : Glb mg)
    (cF : mg "FIGURES" = some (.str figs tF)) (cM : mg "MOST_FIGURES" = some (.int 60 tM)) :
    FnOk P w K mg base CX0 2 f (PySem.W.fnOf "is_number" "is_number" (defArgs sIsNum) (defBody sIsNum) (defScope sIsNum) dV kV doc pm an (.ref c) ct) ["word"] (spIsNum Pf) := by
  refine okD lk hcd scNm (fun vs H Q E h => ?_) (fun A0 outer s H vs Q E hr h => ?_)
  · obtain ⟨t, rfl, _⟩ := h
    rfl
  · obtain ⟨t, rfl, s1, hT, q⟩ := h
    have s2 : (rp t).length ≤ sizeLine := Nat.le_trans (rp_len t) s1
    refine ⟨_, (pss_cons (ps_set (i := 1) scNm.nd rfl (Or.inl rfl) (pe_removeprefix (pv 0) pe_str))
      (pss_cut (ps_if (PW.pt (pw_or (pt_not (pt_chain op_le op_le pe_int (pe_callB call_len_str (by rfl) G.len PySem.boot_len (pa_cons (pv 1) pa_nil)) (pe_glob (v := .int 60) (u := .int 60 tM) (by rfl) cM ⟨_, rfl⟩)))
        (pw_or1 (pt_not (pt_val (pe_all_in (c := c) (P := Pf) (ls := figs) (tL := tF) hr hbm rfl hC rfl rfl (by decide +kernel) (by decide +kernel) (by decide +kernel) rfl (fun _ _ _ => rfl) (fun _ _ _ => rfl) (by rfl) G.all cF (fun _ => rfl) (pv 1) (by decide +kernel) (by decide +kernel))))))) (pss_one (ps_ret pe_bl)) pss_nil)
      (pss_one (ps_ret (pe_or (pe_cmpR op_eq (pv 0) pe_str (nomark _)) (pe_one (pe_cmpR op_ne (pe_ix ix_str (pv 1) pe_int (fun _ _ => rfl)) pe_str (nomark _)))))))), ?_⟩
    refine ⟨_, rfl, ⟨_, rfl⟩, _, _, rfl, rfl, s1, ?_⟩
    have e1 : (decide ((1 : Int) ≤ ((rp t).length : Int))) = decide (1 ≤ (rp t).length) := by rw [decide_eq_decide]; omega
    have e6 : (decide (((rp t).length : Int) ≤ (60 : Int))) = decide ((rp t).length ≤ 60) := by rw [decide_eq_decide]; omega
    refine ⟨fun σ' H' => σ' = [some (.str t), some (.str (rp t))] ∧ (∀ b o, H b = some o → b ≠ Pf → H' b = some o) ∧ LF H' Pf ∧ 1 ≤ (rp t).length ∧ (decide (1 ≤ (rp t).length) && decide ((rp t).length ≤ 60) && allIn (rp t) figs) = true, ?_, ?_⟩
    · refine ⟨_, rfl, _, rfl, s2, _, _, rfl, rfl, _, rfl, ?_⟩
      cases h1 : decide (1 ≤ (rp t).length) with
      | false =>
        have q0 := q H (fun _ _ e _ => e) hT
        rw [show isNum t = false by unfold isNum; rw [h1]; rfl] at q0
        exact iteF' (e1.trans h1) ⟨_, rfl, iteT (iteT q0)⟩
      | true =>
        refine iteT' (e1.trans h1) ?_
        refine ⟨_, _, rfl, rfl, _, rfl, ?_⟩
        cases h6 : decide ((rp t).length ≤ 60) with
        | false =>
          have q0 := q H (fun _ _ e _ => e) hT
          rw [show isNum t = false by unfold isNum; rw [h1, h6]; rfl] at q0
          exact iteT' (by rw [e6, h6]; rfl) (iteT q0)
        | true =>
          refine iteF' (by rw [e6, h6]; rfl) ?_
          refine ⟨_, rfl, _, rfl, hT, fun H' k' hT' => ?_⟩
          cases ha : allIn (rp t) figs with
          | false =>
            have q0 := q H' k' hT'
            rw [show isNum t = false by unfold isNum; rw [h1, h6, ha]; rfl] at q0
            exact ⟨_, rfl, iteT q0⟩
          | true =>
            exact ⟨_, rfl, iteF ⟨rfl, k', hT', of_decide_eq_true h1, rfl⟩⟩
    rintro _ H' ⟨rfl, k', hT', l1, hall⟩
    have q0 := q H' k' hT'
    have eq0 : isNum t = (decide (V.str t = V.str "0") || noNought (rp t)) := by unfold isNum; rw [hall, Bool.true_and]
    rw [eq0] at q0
    refine ⟨_, rfl, rfl, _, rfl, ?_⟩
    cases h0 : decide (V.str t = V.str "0") with
    | true =>
      rw [h0] at q0
      exact iteT q0
    | false =>
      rw [h0] at q0
      refine iteF ?_
      have hl : 0 < (tl (rp t)).length := by rw [← len_tl]; exact l1
      obtain ⟨cc, hc⟩ : ∃ cc, (tl (rp t))[0]? = some cc := ⟨_, List.getElem?_eq_getElem hl⟩
      refine ⟨_, rfl, _, 0, cc, rfl, rfl, s2, atI_nat (j := 0) hc, rfl, ?_⟩
      rw [show (false || noNought (rp t)) = !decide (V.str (⟨#[cc]⟩ : Str) = V.str "0") by rw [Bool.false_or]; unfold noNought; rw [hc]] at q0
      exact q0
end
end U

set_option Elab.async false
set_option maxRecDepth 100000
set_option linter.all false
set_option maxHeartbeats 4000000
namespace U
open PySem L2 TL Rl Tb
def Kp (Pt : Addr) (H H' : Hp) : Prop := ∀ b o, H b = some o → b ≠ Pt → H' b = some o
theorem LamT.ne {H : Hp} {Pt b : Addr} {o : HO} {pos : Pos} {q : Str} (h : LamT H Pt pos q) (e : H b = some o) (d : ∀ ps, o ≠ .tbl ps) : b ≠ Pt := by
  obtain ⟨ps, hp⟩ := LamT.is h
  exact ne_of e hp (d ps)
/-- another table is written -/
theorem LamT.kp2 {H H' : Hp} {P1 P2 : Addr} {pos pos2 : Pos} {q q2 : Str} (h : LamT H P1 pos q) (h2 : LamT H P2 pos2 q2) (ne : P1 ≠ P2) (kp : Kp P2 H H') : LamT H' P1 pos q := by
  rcases h with h | ⟨c', h, hc⟩
  · exact .inl (kp _ _ h ne)
  · exact .inr ⟨c', kp _ _ h ne, kp _ _ hc (LamT.ne h2 hc (by intro p z; cases z))⟩
theorem same_new {H : Hp} {a : Addr} {o : HO} (h : H a = none) : Same H (upd H a o) := fun b u e => by rw [upd_ne (ne_of_none e h)]; exact e
/-- the tables of both -/
structure TT (H : Hp) (Pn Pf : Addr) : Prop where
  n : LN H Pn
  f : LF H Pf
  ne : Pn ≠ Pf
/-- all is kept but the tables -/
def K2 (Pn Pf : Addr) (H H' : Hp) : Prop := ∀ b o, H b = some o → b ≠ Pn → b ≠ Pf → H' b = some o
theorem K2.trans {Pn Pf : Addr} {H H1 H2 : Hp} (a : K2 Pn Pf H H1) (b : K2 Pn Pf H1 H2) : K2 Pn Pf H H2 := fun c o e h1 h2 => b c o (a c o e h1 h2) h1 h2
theorem K2.of {Pn Pf : Addr} {H H1 : Hp} (s : Same H H1) : K2 Pn Pf H H1 := fun c o e _ _ => s c o e
theorem TT.same {Pn Pf : Addr} {H H1 : Hp} (t : TT H Pn Pf) (s : Same H H1) : TT H1 Pn Pf := ⟨LamT.keep t.n fun b o e _ => s b o e, LamT.keep t.f fun b o e _ => s b o e, t.ne⟩
theorem TT.nn {Pn Pf b : Addr} {H : Hp} {o : HO} (t : TT H Pn Pf) (e : H b = some o) (d : ∀ ps, o ≠ .tbl ps) : b ≠ Pn ∧ b ≠ Pf := ⟨LamT.ne t.n e d, LamT.ne t.f e d⟩
def spPart (Pn Pf : Addr) : Sp := fun vs H Q _ => ∃ (kd wd : Str), vs = [.str kd, .str wd] ∧ TT H Pn Pf ∧ wd.length ≤ sizeLine ∧ ∀ H', K2 Pn Pf H H' → TT H' Pn Pf → Q ((partV kd wd).getD .non) H'
section
variable {P : Program} {w : World} {K : PySem.W.Frag} {mg : Str → Option Value} {base : Heap}
theorem scPt : FnScope ["kind", "word", "number"] ["kind", "word"] (defScope sPartOr) := ⟨rfl, rfl, rfl, by decide +kernel, rfl, by decide +kernel, by decide +kernel⟩
theorem ok_part {tG : Tok} {f fN fM Pn Pf : Addr} {fd fdN fdM : FuncData} (F : Fun K "part_or_none" "part_or_none" sPartOr f fd) (G : Glb mg)
    (GN : FnOk P w K mg base CX0 2 fN fdN ["text"] (spIsName Pn)) (mgN : mg "is_name" = some (.ref fN)) (kpN : PySem.W.keepIn K (.ref fN) = true) (bN : Binds K fdN ["text"] [])
    (GM : FnOk P w K mg base CX0 2 fM fdM ["word"] (spIsNum Pf)) (mgM : mg "is_number" = some (.ref fM)) (kpM : PySem.W.keepIn K (.ref fM) = true) (bM : Binds K fdM ["word"] [])
    (cG : mg "LAST_GUEST" = some (.int 999999 tG)) : FnOk P w K mg base CX0 3 f fd ["kind", "word"] (spPart Pn Pf) := by
  refine F.ok scPt (fun vs H Q E h => ?_) (fun cdv A0 outer s H vs Q E hr h => ?_)
  · obtain ⟨kd, wd, rfl, _⟩ := h
    rfl
  · obtain ⟨kd, wd, rfl, hT, zw, q⟩ := h
    have z2 : 2 ≤ sizeLine := by rw [sizeLine_eq]; decide
    refine ⟨_, (pss_cut (ps_if (pt_cmpR op_in_seq (pv 0) (pe_tup (pa_cons pe_str (pa_cons pe_str pa_nil))) (by rfl)) (pss_one (ps_ret (pe_ifExp (pt_val (pe_call GN hr (by rfl) mgN kpN bN .nil pass0 (pa_cons (pv 1) pa_nil))) (pv 1) pe_non))) pss_nil)
      (pss_cut (ps_if (pt_not (pt_val (pe_call GM hr (by rfl) mgM kpM bM .nil pass0 (pa_cons (pv 1) pa_nil)))) (pss_one (ps_ret pe_non)) pss_nil)
      (pss_cons (ps_set (i := 2) scPt.nd rfl (Or.inl rfl) (pe_callTy call_int_str (by rfl) G.int (by decide +kernel) (pa_cons (pv 1) pa_nil)))
      (pss_cut (ps_if (PW.pt (pw_and (pt_cmpR op_eq (pv 0) pe_str (nomark _)) (pw_and1 (pt_not (pt_chain op_le op_le pe_int (pv 2) (pe_glob (v := .int 999999) (u := .int 999999 tG) (by rfl) cG ⟨_, rfl⟩)))))) (pss_one (ps_ret pe_non)) pss_nil)
      (pss_one (ps_ret (pv 2))))))), ?_⟩
    have both : ∀ {H1 : Hp}, TT H1 Pn Pf → ∀ {H2 : Hp}, Kp Pn H1 H2 → LN H2 Pn → TT H2 Pn Pf := fun {H1} t {H2} k l => ⟨l, LamT.kp2 t.f t.n t.ne.symm k, t.ne⟩
    have both' : ∀ {H1 : Hp}, TT H1 Pn Pf → ∀ {H2 : Hp}, Kp Pf H1 H2 → LF H2 Pf → TT H2 Pn Pf := fun {H1} t {H2} k l => ⟨LamT.kp2 t.n t.f t.ne k, l, t.ne⟩
    refine ⟨fun σ' H' => σ' = [some (.str kd), some (.str wd), none] ∧ K2 Pn Pf H H' ∧ TT H' Pn Pf ∧ ¬ (kd = "room" ∨ kd = "key"), ?_, ?_⟩
    · refine ⟨_, rfl, z2, fun tt htt => ?_⟩
      have s1 := same_new (o := .tup [.str "room", .str "key"]) htt
      have g1 : (upd H tt (.tup [.str "room", .str "key"])) tt = some (.tup [.str "room", .str "key"]) := upd_same
      generalize upd H tt (.tup [.str "room", .str "key"]) = H1 at s1 g1
      have t1 := hT.same s1
      refine ⟨tt, _, rfl, .inr (SqT.of g1), rfl, rfl, _, rfl, ?_⟩
      by_cases hk : kd = "room" ∨ kd = "key"
      · refine iteT' (by rcases hk with rfl | rfl <;> decide +kernel) ?_
        refine ⟨_, rfl, wd, rfl, zw, t1.n, fun H2 k2 l2 => ?_⟩
        have q0 := q H2 ((K2.of s1).trans fun c o e a _ => k2 c o e a) (both t1 k2 l2)
        cases hn : isName wd with
        | true =>
          rw [show partV kd wd = some (.str wd) by unfold partV; rw [if_pos hk, if_pos hn]] at q0
          exact ⟨_, rfl, iteT ⟨_, rfl, q0⟩⟩
        | false =>
          rw [show partV kd wd = none by unfold partV; rw [if_pos hk, if_neg (by rw [hn]; exact Bool.false_ne_true)]] at q0
          exact ⟨_, rfl, iteF q0⟩
      · refine iteF' (by
          show inV (.str kd) [.str "room", .str "key"] = false
          have e1 : eqV (.str ("room" : Str)) (.str kd) = false := by
            show (("room" : Str) == kd) = false
            exact beq_false_of_ne fun e => hk (.inl e.symm)
          have e2 : eqV (.str ("key" : Str)) (.str kd) = false := by
            show (("key" : Str) == kd) = false
            exact beq_false_of_ne fun e => hk (.inr e.symm)
          show (eqV (.str ("room" : Str)) (.str kd) || (eqV (.str ("key" : Str)) (.str kd) || false)) = false
          rw [e1, e2]; rfl) ?_
        exact ⟨rfl, K2.of s1, t1, hk⟩
    rintro _ H1 ⟨rfl, k1, t1, hk⟩
    refine ⟨fun σ' H' => σ' = [some (.str kd), some (.str wd), none] ∧ K2 Pn Pf H H' ∧ TT H' Pn Pf ∧ isNum wd = true, ?_, ?_⟩
    · refine ⟨_, rfl, wd, rfl, zw, t1.f, fun H2 k2 l2 => ?_⟩
      have k3 : K2 Pn Pf H H2 := k1.trans fun c o e _ b => k2 c o e b
      cases hn : isNum wd with
      | true => exact ⟨_, rfl, iteF ⟨rfl, k3, both' t1 k2 l2, rfl⟩⟩
      | false =>
        have q0 := q H2 k3 (both' t1 k2 l2)
        rw [show partV kd wd = none by unfold partV; rw [if_neg hk, if_neg (by rw [hn]; exact Bool.false_ne_true)]] at q0
        exact ⟨_, rfl, iteT q0⟩
    rintro _ H2 ⟨rfl, k2, t2, hn⟩
    obtain ⟨zl, n, hi⟩ := isNum_val hn
    have q0 := q H2 k2 t2
    have ep : partV kd wd = if kd = "guest" ∧ ¬ (0 ≤ n ∧ n ≤ 999999) then none else some (.int n) := by
      unfold partV
      rw [if_neg hk, if_pos hn, hi]
      rfl
    rw [ep] at q0
    refine ⟨_, rfl, wd, n, rfl, hi, by omega, ?_⟩
    refine ⟨fun σ' H' => σ' = [some (.str kd), some (.str wd), some (.int n)] ∧ H' = H2 ∧ ¬ (kd = "guest" ∧ ¬ (0 ≤ n ∧ n ≤ 999999)), ?_, ?_⟩
    · refine ⟨_, rfl, rfl, _, rfl, ?_⟩
      by_cases hg : kd = "guest"
      · refine iteT' (decide_eq_true (by rw [hg])) ?_
        refine ⟨_, rfl, _, _, rfl, rfl, _, rfl, ?_⟩
        by_cases h0 : 0 ≤ n
        · refine iteT' (decide_eq_true h0) ?_
          refine ⟨_, _, rfl, rfl, _, rfl, ?_⟩
          by_cases h9 : n ≤ 999999
          · exact iteF' (by rw [decide_eq_true h9]; rfl) ⟨rfl, rfl, fun z => z.2 ⟨h0, h9⟩⟩
          · rw [if_pos ⟨hg, fun z => h9 z.2⟩] at q0
            exact iteT' (by rw [decide_eq_false h9]; rfl) q0
        · rw [if_pos ⟨hg, fun z => h0 z.1⟩] at q0
          exact iteF' (decide_eq_false h0) ⟨_, rfl, iteT q0⟩
      · exact iteF' (decide_eq_false fun e => hg (by injection e)) ⟨rfl, rfl, fun z => hg z.1⟩
    rintro _ H3 ⟨rfl, rfl, hc⟩
    rw [if_neg hc] at q0
    exact ⟨_, rfl, q0⟩
end
end U

set_option Elab.async false
set_option linter.all false
set_option maxRecDepth 100000
set_option maxHeartbeats 4000000
namespace Zp
open PySem
section
variable {prog : Program} {w : World} {A : Around} {E : Value → Shared → Prop} {s : Shared}
/-! ### a tuple's items, one by one, as zip asks for them -/
theorem next_tup {it t : Addr} {i : Nat} {items} {x : Value} {Q : Value → Shared → Prop} (hit : s.heap.IsTupleIter it t i) (ht : s.heap.IsTuple t items) (hx : items[i]? = some x)
    (hQ : ∀ h', h'.IsTupleIter it t (i + 1) → Heap.SameBut it s.heap h' → Q x { s with heap := h' }) : wpAny (model prog w) A (Builtin.SmallTypes.nextOf (.ref it)) Q E s := by
  obtain ⟨o, ho, hc, hd⟩ := id hit
  obtain ⟨ol, hol, _, nl, hdl⟩ := ht
  unfold Builtin.SmallTypes.nextOf
  refine wpAny_bind (wpAny_callSpecial?_slot (name := Str.ofString "__next__") hit.typeIs F.slot_tuple_iterator_next
    (wpAny_call_entry F.slot_tuple_iterator_next hit.typeIs F.entry_tuple_iterator_next ?_ (F.args_tuple_iterator_next_1 _)))
  show wpAny _ _ (field (.ref it) 0 >>= _) _ _ s
  refine wpAny_bind (wpAny_field ho hd (x := .ref t) rfl ?_)
  show wpAny _ _ (if (Value.ref t == Value.none) = true then _ else _) _ _ s
  rw [if_neg (show ¬ ((Value.ref t == Value.none) = true) from Bool.false_ne_true)]
  show wpAny _ _ (field (.ref it) 1 >>= _) _ _ s
  refine wpAny_bind (wpAny_field ho hd (x := .int i 0) rfl ?_)
  show wpAny _ _ (seqItems? (.ref t) >>= _) _ _ s
  refine wpAny_bind (wpAny_seqItems hol hdl ?_)
  simp only [Int.toNat_natCast, hx]
  refine wpAny_bind (wpAny_setField ho hd (by simp) (wpAny_pure ⟨x, rfl, wpAny_pure (hQ _ ?_ (Heap.SameBut.update ..))⟩))
  exact ⟨_, Heap.get?_update_self _ ho (Obj.isFreed_of_fields (Obj.data_mapFields hd _)), (Obj.cls_mapFields ..).trans hc, by
    rw [Obj.data_mapFields hd]; simp [rawInt]⟩

theorem next_tup_end {it t : Addr} {i : Nat} {items} {Q : Value → Shared → Prop} (hh : A.handled = none) (hit : s.heap.IsTupleIter it t i) (ht : s.heap.IsTuple t items) (hx : items[i]? = none)
    (hE : ∀ h' e, Heap.ExtBut it s.heap h' → (∃ o, h'.get? e = some o ∧ o.cls = .type "StopIteration") → E (.ref e) { s with heap := h' }) :
    wpAny (model prog w) A (Builtin.SmallTypes.nextOf (.ref it)) Q E s := by
  obtain ⟨o, ho, hc, hd⟩ := id hit
  obtain ⟨ol, hol, _, nl, hdl⟩ := ht
  unfold Builtin.SmallTypes.nextOf
  refine wpAny_bind (wpAny_callSpecial?_slot (name := Str.ofString "__next__") hit.typeIs F.slot_tuple_iterator_next
    (wpAny_call_entry F.slot_tuple_iterator_next hit.typeIs F.entry_tuple_iterator_next ?_ (F.args_tuple_iterator_next_1 _)))
  show wpAny _ _ (field (.ref it) 0 >>= _) _ _ s
  refine wpAny_bind (wpAny_field ho hd (x := .ref t) rfl ?_)
  show wpAny _ _ (if (Value.ref t == Value.none) = true then _ else _) _ _ s
  rw [if_neg (show ¬ ((Value.ref t == Value.none) = true) from Bool.false_ne_true)]
  show wpAny _ _ (field (.ref it) 1 >>= _) _ _ s
  refine wpAny_bind (wpAny_field ho hd (x := .int i 0) rfl ?_)
  show wpAny _ _ (seqItems? (.ref t) >>= _) _ _ s
  refine wpAny_bind (wpAny_seqItems hol hdl ?_)
  simp only [Int.toNat_natCast, hx]
  refine wpAny_bind (wpAny_rule (wpAny_bind (wpAny_setField ho hd (by simp) ?_)))
  show wpAny _ _ (newExc (.type "StopIteration") [] >>= _) _ _ _
  refine wpAny_bind ?_
  simp only [newExc, newTuple]
  refine wpAny_bind (wpAny_newObj_type ?_ (by size_fits))
  refine wpAny_bind (m := firstArgMember _ _) (wpAny_of_eq (a := Value.none) (by first | rfl | (simp only [firstArgMember]; rfl)) ?_)
  refine wpAny_newObj_type ?_ (by size_fits)
  simp only [raiseNew]
  refine wpAny_bind (wpAny_handled ?_)
  first | rw [show A.in1.handled = none from hh] | rw [hh]
  refine wpAny_bind (wpAny_pure (wpAny_throw ?_))
  exact hE _ _ (((Heap.SameBut.update ..).extBut.push _).push _) ⟨_, Heap.get?_push_size _ rfl, rfl⟩
end
theorem drawsTup {prog : Program} {w : World} {A : Around} (hh : A.handled = none) (it t : Addr) (hne : t ≠ it) (items : Array Value) :
    Draws prog w A it [it, t] items.size (fun i x => items[i]? = some x) (fun i h => h.IsTupleIter it t i ∧ h.IsTuple t items) where
  live := fun i h st => by obtain ⟨⟨o, e, _⟩, _⟩ := st; exact ⟨o, e⟩
  frame := fun i h h' st k => by
    obtain ⟨h1, o, e, r⟩ := st
    exact ⟨h1.at fun o e => k it (by simp) o e, o, k t (by simp) o e, r⟩
  item := fun i s Q E hi st hQ => next_tup st.1 st.2 (Array.getElem?_eq_getElem hi) fun h' a b => hQ _ h' s.toks (Array.getElem?_eq_getElem hi) ⟨a, st.2.extBut b.extBut hne⟩ b
  done := fun s Q E st hE => next_tup_end hh st.1 st.2 (Array.getElem?_eq_none (Nat.le_refl _)) hE
end Zp

set_option Elab.async false
set_option linter.all false
set_option maxRecDepth 100000
set_option maxHeartbeats 4000000
namespace Zp
open PySem
/-! ### zip of two sources of any kind -/
structure Ap2 (z TI TO i1 i2 : Addr) (f1 f2 : List Addr) : Prop where
  TIz : TI ≠ z
  TOz : TO ≠ z
  TITO : TI ≠ TO
  TIi1 : TI ≠ i1
  TIi2 : TI ≠ i2
  i1z : i1 ≠ z
  i2z : i2 ≠ z
  TOi1 : TO ≠ i1
  TOi2 : TO ≠ i2
  f1z : ∀ b ∈ f1, b ≠ z
  f2z : ∀ b ∈ f2, b ≠ z
  f1TO : ∀ b ∈ f1, b ≠ TO
  f2TO : ∀ b ∈ f2, b ≠ TO
  f12 : ∀ b ∈ f1, b ≠ i2
  f21 : ∀ b ∈ f2, b ≠ i1
section
variable {prog : Program} {w : World} {A : Around} {E : Value → Shared → Prop} {s : Shared} {z TI TO i1 i2 : Addr} {f1 f2 : List Addr} {n1 n2 : Nat} {P1 P2 : Nat → Value → Prop} {S1 S2 : Nat → Heap → Prop}
theorem keepF {it : Addr} {fp : List Addr} {n : Nat} {P : Nat → Value → Prop} {St : Nat → Heap → Prop} {A' : Around} (D : Draws prog w A' it fp n P St) {i : Nat} {h h' : Heap} {c : Addr} (st : St i h) (k : Heap.ExtBut c h h') (a : ∀ b ∈ fp, b ≠ c) : St i h' :=
  D.frame i h h' st fun b hb o e => k b o (a b hb) e
theorem keepP {h h' : Heap} {c T : Addr} {a b : Value} (st : IsPair h T a b) (k : Heap.ExtBut c h h') (n : T ≠ c) : IsPair h' T a b := k T _ n st

theorem zip2_item {k : Nat} {a b : Value} {Q : Value → Shared → Prop} (D1 : Draws prog w A i1 f1 n1 P1 S1) (D2 : Draws prog w A i2 f2 n2 P2 S2) (D : Ap2 z TI TO i1 i2 f1 f2)
    (hz : IsZip s.heap z TI TO .none) (hTI : IsPair s.heap TI (.ref i1) (.ref i2)) (hTO : IsPair s.heap TO a b) (s1 : S1 k s.heap) (s2 : S2 k s.heap) (k1 : k < n1) (k2 : k < n2)
    (hQ : ∀ h' tk x y, P1 k x → P2 k y → IsZip h' z TI TO (rawInt s.heap.objs.size) → IsPair h' TO x y → S1 (k + 1) h' → S2 (k + 1) h' → IsPair h' s.heap.objs.size x y → h'.objs.size = s.heap.objs.size + 1 →
      (∀ c o, c ≠ z → c ≠ TO → c ≠ i1 → c ≠ i2 → s.heap.get? c = some o → h'.get? c = some o) → Q (.ref s.heap.objs.size) { s with heap := h', toks := tk }) :
    wpAny (model prog w) A (Builtin.«zip.__next__» ⟨[.ref z], []⟩) (fun fin s' => ∃ v, fin = .done (.ret v) ∧ Q v s') E s := by
  show wpAny _ _ (field (.ref z) 2 >>= _) _ _ _
  refine wpAny_bind (wpAny_field hz rfl (x := .bool false) rfl ?_)
  show wpAny _ _ (field (.ref z) 3 >>= _) _ _ _
  refine wpAny_bind (wpAny_field hz rfl (x := .ref TI) rfl ?_)
  refine wpAny_bind (wpAny_seqItems hTI rfl ?_)
  show wpAny _ _ (Builtin.SmallTypes.ownedTupleIsFree (.ref z) >>= _) _ _ _
  refine wpAny_bind ?_
  unfold Builtin.SmallTypes.ownedTupleIsFree
  refine wpAny_bind (wpAny_field hz rfl (x := .none) rfl (wpAny_pure ?_))
  simp only [if_true]
  refine wpAny_bind (wpAny_rule ?_)
  refine wpAny_bind (wpAny_field hz rfl (x := .ref TO) rfl ?_)
  refine wpAny_bind (wpAny_setField_rec hz (by simp) fun h₁ hz₁ hs₁ => ?_)
  replace hz₁ : IsZip h₁ z TI TO .ellipsis := hz₁
  refine wpAny_bind ?_
  simp only [List.zipIdx_cons, List.zipIdx_nil, List.forIn_cons, List.forIn_nil]
  refine wpAny_bind (wpAny_bind (wpAny_onRaise ?_))
  show wpAny _ _ (Builtin.SmallTypes.nextOf (.ref i1) >>= _) _ _ _
  refine wpAny_bind (D1.item k _ _ _ k1 (keepF D1 s1 hs₁.extBut D.f1z) fun x h₂ t₂ p1 s1₂ hs₂ => wpAny_pure ?_)
  have hTO₂ : IsPair h₂ TO a b := keepP (keepP hTO hs₁.extBut D.TOz) hs₂.extBut D.TOi1
  refine wpAny_bind (wpAny_seqItems hTO₂ rfl ?_)
  refine wpAny_bind (wpAny_updateSeq_pair hTO₂ fun h₃ hTO₃ hs₃ => ?_)
  replace hTO₃ : IsPair h₃ TO x b := hTO₃
  refine wpAny_bind (wpAny_letGo (wpAny_pure ?_))
  refine wpAny_bind (wpAny_bind (wpAny_onRaise ?_))
  show wpAny _ _ (Builtin.SmallTypes.nextOf (.ref i2) >>= _) _ _ _
  refine wpAny_bind (D2.item k _ _ _ k2 (keepF D2 (keepF D2 (keepF D2 s2 hs₁.extBut D.f2z) hs₂.extBut D.f21) hs₃.extBut D.f2TO) fun y h₄ t₄ p2 s2₄ hs₄ => wpAny_pure ?_)
  have hTO₄ : IsPair h₄ TO x b := keepP hTO₃ hs₄.extBut D.TOi2
  refine wpAny_bind (wpAny_seqItems hTO₄ rfl ?_)
  refine wpAny_bind (wpAny_updateSeq_pair hTO₄ fun h₅ hTO₅ hs₅ => ?_)
  replace hTO₅ : IsPair h₅ TO x y := hTO₅
  refine wpAny_bind (wpAny_letGo (wpAny_pure (wpAny_pure ?_)))
  refine wpAny_bind (wpAny_seqItems hTO₅ rfl ?_)
  refine wpAny_bind (wpAny_newTuple ?_)
  have hsz : h₅.objs.size = s.heap.objs.size := by rw [hs₅.1, hs₄.1, hs₃.1, hs₂.1, hs₁.1]
  have hk₅ : ∀ c o, c ≠ z → c ≠ TO → c ≠ i1 → c ≠ i2 → s.heap.get? c = some o → h₅.get? c = some o := fun c o c1 c2 c3 c4 e =>
    hs₅.extBut _ _ c2 (hs₄.extBut _ _ c4 (hs₃.extBut _ _ c2 (hs₂.extBut _ _ c3 (hs₁.extBut _ _ c1 e))))
  have hz₅ : IsZip h₅ z TI TO .ellipsis := hs₅.extBut _ _ D.TOz.symm (hs₄.extBut _ _ D.i2z.symm (hs₃.extBut _ _ D.TOz.symm (hs₂.extBut _ _ D.i1z.symm hz₁)))
  have s1₅ : S1 (k + 1) h₅ := keepF D1 (keepF D1 (keepF D1 s1₂ hs₃.extBut D.f1TO) hs₄.extBut D.f12) hs₅.extBut D.f1TO
  have s2₅ : S2 (k + 1) h₅ := keepF D2 s2₄ hs₅.extBut D.f2TO
  have hzlt : z < h₅.objs.size := Heap.lt_size hz₅
  show wpAny _ _ (Builtin.SmallTypes.ownedTupleHandOut (.ref z) (.ref h₅.objs.size) >>= _) _ _ _
  refine wpAny_bind ?_
  unfold Builtin.SmallTypes.ownedTupleHandOut
  have hz₆ : IsZip (h₅.push { cls := .type "tuple", data := .seq #[x, y] }) z TI TO .ellipsis := Heap.get?_push_of_some _ hz₅
  refine wpAny_bind (wpAny_setField_rec hz₆ (by simp) fun h₇ hz₇ hs₇ => ?_)
  replace hz₇ : IsZip h₇ z TI TO (rawInt h₅.objs.size) := hz₇
  refine wpAny_setField_rec hz₇ (by simp) fun h₈ hz₈ hs₈ => ?_
  replace hz₈ : IsZip h₈ z TI TO (rawInt h₅.objs.size) := hz₈
  have up : ∀ c o, c ≠ z → h₅.get? c = some o → h₈.get? c = some o := fun c o c1 e => hs₈.extBut _ _ c1 (hs₇.extBut _ _ c1 (Heap.get?_push_of_some _ e))
  have hT₈ : IsPair h₈ h₅.objs.size x y := hs₈.extBut _ _ (Nat.ne_of_gt hzlt) (hs₇.extBut _ _ (Nat.ne_of_gt hzlt) (Heap.get?_push_size _ rfl))
  have hz8 : h₈.objs.size = h₅.objs.size + 1 := by rw [hs₈.1, hs₇.1, Heap.size_push]
  rw [hsz] at hz₈ hT₈ hz8
  refine wpAny_pure ⟨_, rfl, ?_⟩
  show Q (.ref h₅.objs.size) _
  rw [hsz]
  exact hQ h₈ _ x y p1 p2 hz₈ (up _ _ D.TOz hTO₅) (D1.frame _ _ _ s1₅ fun b hb o e => up b o (D.f1z b hb) e) (D2.frame _ _ _ s2₅ fun b hb o e => up b o (D.f2z b hb) e) hT₈ hz8 fun c o c1 c2 c3 c4 e => up c o c1 (hk₅ c o c1 c2 c3 c4 e)
end
end Zp

set_option Elab.async false
set_option linter.all false
set_option maxRecDepth 100000
set_option maxHeartbeats 4000000
namespace Zp
open PySem
section
variable {prog : Program} {w : World} {A : Around} {E : Value → Shared → Prop} {s : Shared} {z TI TO i1 i2 : Addr} {f1 f2 : List Addr} {n1 n2 : Nat} {P1 P2 : Nat → Value → Prop} {S1 S2 : Nat → Heap → Prop}
theorem zip2_end {a b : Value} {k : Nat} {Q : Fin → Shared → Prop} (D1 : Draws prog w A i1 f1 n1 P1 S1) (D2 : Draws prog w A i2 f2 n2 P2 S2) (D : Ap2 z TI TO i1 i2 f1 f2)
    (hz : IsZip s.heap z TI TO .none) (hTI : IsPair s.heap TI (.ref i1) (.ref i2)) (hTO : IsPair s.heap TO a b) (s1 : S1 k s.heap) (s2 : S2 k s.heap) (hend : k = n1 ∨ (k < n1 ∧ k = n2))
    (hE : ∀ h' tk e, (∀ c o, c ≠ z → c ≠ TO → c ≠ i1 → c ≠ i2 → s.heap.get? c = some o → h'.get? c = some o) → (∃ o, h'.get? e = some o ∧ o.cls = .type "StopIteration") → E (.ref e) { s with heap := h', toks := tk }) :
    wpAny (model prog w) A (Builtin.«zip.__next__» ⟨[.ref z], []⟩) Q E s := by
  show wpAny _ _ (field (.ref z) 2 >>= _) _ _ _
  refine wpAny_bind (wpAny_field hz rfl (x := .bool false) rfl ?_)
  show wpAny _ _ (field (.ref z) 3 >>= _) _ _ _
  refine wpAny_bind (wpAny_field hz rfl (x := .ref TI) rfl ?_)
  refine wpAny_bind (wpAny_seqItems hTI rfl ?_)
  show wpAny _ _ (Builtin.SmallTypes.ownedTupleIsFree (.ref z) >>= _) _ _ _
  refine wpAny_bind ?_
  unfold Builtin.SmallTypes.ownedTupleIsFree
  refine wpAny_bind (wpAny_field hz rfl (x := .none) rfl (wpAny_pure ?_))
  simp only [if_true]
  refine wpAny_bind (wpAny_rule ?_)
  refine wpAny_bind (wpAny_field hz rfl (x := .ref TO) rfl ?_)
  refine wpAny_bind (wpAny_setField_rec hz (by simp) fun h₁ hz₁ hs₁ => ?_)
  replace hz₁ : IsZip h₁ z TI TO .ellipsis := hz₁
  refine wpAny_bind ?_
  simp only [List.zipIdx_cons, List.zipIdx_nil, List.forIn_cons, List.forIn_nil]
  refine wpAny_bind (wpAny_bind (wpAny_onRaise ?_))
  show wpAny _ _ (Builtin.SmallTypes.nextOf (.ref i1) >>= _) _ _ _
  rcases hend with k1 | ⟨k1, k2⟩
  · subst k1
    refine wpAny_bind (D1.done _ _ _ (keepF D1 s1 hs₁.extBut D.f1z) fun h₂ e hs₂ he => ?_)
    obtain ⟨oe, hoe, hce⟩ := he
    have hz₂ : IsZip h₂ z TI TO .ellipsis := hs₂ _ _ D.i1z.symm hz₁
    have hez : e ≠ z := fun x => by subst x; rw [hz₂] at hoe; cases hoe; simp at hce
    refine wpAny_setField_rec hz₂ (by simp) fun h₃ _ hs₃ => hE h₃ _ e (fun c o c1 _ c3 _ x => hs₃.extBut _ _ c1 (hs₂ _ _ c3 (hs₁.extBut _ _ c1 x))) ⟨oe, hs₃.extBut _ _ hez hoe, hce⟩
  · refine wpAny_bind (D1.item k _ _ _ k1 (keepF D1 s1 hs₁.extBut D.f1z) fun x h₂ t₂ p1 s1₂ hs₂ => wpAny_pure ?_)
    have hTO₂ : IsPair h₂ TO a b := keepP (keepP hTO hs₁.extBut D.TOz) hs₂.extBut D.TOi1
    refine wpAny_bind (wpAny_seqItems hTO₂ rfl ?_)
    refine wpAny_bind (wpAny_updateSeq_pair hTO₂ fun h₃ hTO₃ hs₃ => ?_)
    refine wpAny_bind (wpAny_letGo (wpAny_pure ?_))
    refine wpAny_bind (wpAny_bind (wpAny_onRaise ?_))
    show wpAny _ _ (Builtin.SmallTypes.nextOf (.ref i2) >>= _) _ _ _
    subst k2
    refine wpAny_bind (D2.done _ _ _ (keepF D2 (keepF D2 (keepF D2 s2 hs₁.extBut D.f2z) hs₂.extBut D.f21) hs₃.extBut D.f2TO) fun h₄ e hs₄ he => ?_)
    obtain ⟨oe, hoe, hce⟩ := he
    have hz₄ : IsZip h₄ z TI TO .ellipsis := hs₄ _ _ D.i2z.symm (hs₃.extBut _ _ D.TOz.symm (hs₂.extBut _ _ D.i1z.symm hz₁))
    have hez : e ≠ z := fun x => by subst x; rw [hz₄] at hoe; cases hoe; simp at hce
    refine wpAny_setField_rec hz₄ (by simp) fun h₅ _ hs₅ => hE h₅ _ e (fun c o c1 c2 c3 c4 x => hs₅.extBut _ _ c1 (hs₄ _ _ c4 (hs₃.extBut _ _ c2 (hs₂.extBut _ _ c3 (hs₁.extBut _ _ c1 x))))) ⟨oe, hs₅.extBut _ _ hez hoe, hce⟩

theorem next2_item {k : Nat} {a b : Value} {Q : Option Value → Shared → Prop} (D1 : ∀ A : Around, A.handled = none → Draws prog w A i1 f1 n1 P1 S1) (D2 : ∀ A : Around, A.handled = none → Draws prog w A i2 f2 n2 P2 S2) (hh : A.handled = none) (D : Ap2 z TI TO i1 i2 f1 f2)
    (hz : IsZip s.heap z TI TO .none) (hTI : IsPair s.heap TI (.ref i1) (.ref i2)) (hTO : IsPair s.heap TO a b) (s1 : S1 k s.heap) (s2 : S2 k s.heap) (k1 : k < n1) (k2 : k < n2)
    (hQ : ∀ h' tk x y, P1 k x → P2 k y → IsZip h' z TI TO (rawInt s.heap.objs.size) → IsPair h' TO x y → S1 (k + 1) h' → S2 (k + 1) h' → IsPair h' s.heap.objs.size x y → h'.objs.size = s.heap.objs.size + 1 →
      (∀ c o, c ≠ z → c ≠ TO → c ≠ i1 → c ≠ i2 → s.heap.get? c = some o → h'.get? c = some o) → Q (some (.ref s.heap.objs.size)) { s with heap := h', toks := tk }) :
    wpAny (model prog w) A (pyNext (.ref z)) Q E s := by
  have hT : s.TypeIs (.ref z) "zip" := ⟨_, hz, rfl⟩
  unfold pyNext
  exact wpAny_bind (wpAny_attempt (wpAny_callSpecial?_slot (name := Str.ofString "__next__") hT F.slot_zip_next
    (wpAny_call_entry F.slot_zip_next hT F.entry_zip_next
      (zip2_item (D1 _ (by first | exact hh | assumption)) (D2 _ (by first | exact hh | assumption)) D hz hTI hTO s1 s2 k1 k2 fun h' tk x y b1 b2 a1 a2 a3 a4 a5 a6 a7 => wpAny_pure (hQ h' tk x y b1 b2 a1 a2 a3 a4 a5 a6 a7)) (F.args_zip_next_1 _))))

theorem next2_end {k : Nat} {a b : Value} {Q : Option Value → Shared → Prop} (D1 : ∀ A : Around, A.handled = none → Draws prog w A i1 f1 n1 P1 S1) (D2 : ∀ A : Around, A.handled = none → Draws prog w A i2 f2 n2 P2 S2) (hh : A.handled = none) (D : Ap2 z TI TO i1 i2 f1 f2)
    (hz : IsZip s.heap z TI TO .none) (hTI : IsPair s.heap TI (.ref i1) (.ref i2)) (hTO : IsPair s.heap TO a b) (s1 : S1 k s.heap) (s2 : S2 k s.heap) (hend : k = n1 ∨ (k < n1 ∧ k = n2))
    (hQ : ∀ h' tk, (∀ c o, c ≠ z → c ≠ TO → c ≠ i1 → c ≠ i2 → s.heap.get? c = some o → h'.get? c = some o) → Q none { s with heap := h', toks := tk }) : wpAny (model prog w) A (pyNext (.ref z)) Q E s := by
  have hT : s.TypeIs (.ref z) "zip" := ⟨_, hz, rfl⟩
  unfold pyNext
  refine wpAny_bind (wpAny_attempt (wpAny_callSpecial?_slot (name := Str.ofString "__next__") hT F.slot_zip_next
    (wpAny_call_entry F.slot_zip_next hT F.entry_zip_next (zip2_end (D1 _ (by first | exact hh | assumption)) (D2 _ (by first | exact hh | assumption)) D hz hTI hTO s1 s2 hend fun h' tk e hk he => ?_) (F.args_zip_next_1 _))))
  obtain ⟨o, ho, hc⟩ := he
  refine wpAny_bind (wpAny_isInstance (T := "StopIteration") (b := true) ⟨o, ho, hc⟩ isSubtype_stop ?_)
  exact wpAny_pure (hQ _ _ hk)
end
end Zp

set_option Elab.async false
set_option linter.all false
set_option maxRecDepth 100000
set_option maxHeartbeats 8000000
namespace Zp
open PySem L2
/-- the heap behind zip's making -/
abbrev zH (h : Heap) (o1 o2 : Obj) : Heap := (((h.push o1).push o2).push { cls := .type "tuple", data := .seq #[.ref h.objs.size, .ref (h.push o1).objs.size] }).push { cls := .type "tuple", data := .seq #[.none, .none] }
abbrev tupIt (a : Addr) : Obj := { cls := .type "tuple_iterator", data := .fields #[.ref a, .int 0 0] }
abbrev lstIt (a : Addr) : Obj := { cls := .type "list_iterator", data := .fields #[.ref a, .int 0 0] }
abbrev zHz (h : Heap) (o1 o2 : Obj) : Heap := (zH h o1 o2).push { cls := .type "zip", data := .fields #[.none, .bool false, .bool false, .ref ((h.push o1).push o2).objs.size, .ref (((h.push o1).push o2).push { cls := .type "tuple", data := .seq #[.ref h.objs.size, .ref (h.push o1).objs.size] }).objs.size] }
abbrev strIt (x : Str) (t : Tok) : Obj := { cls := .type "str_ascii_iterator", data := .fields #[.str x t, .int 0 0] }
end Zp

set_option Elab.async false
set_option linter.all false
set_option maxRecDepth 100000
set_option maxHeartbeats 8000000
namespace Zp
open PySem L2
/-! ### zip(tuple, list) -/
def Itu (K : PySem.W.Frag) (a b : Addr) : It :=
  ⟨fun i H => ∃ (xs ys : List V) (x y : V), SqT K H a xs ∧ SqL K H b ys ∧ xs[i]? = some x ∧ ys[i]? = some y,
    fun i H v H' => ∃ T x y, v = .ref T ∧ H T = none ∧ H' = upd H T (.tup [x, y]) ∧ (∀ xs, SqT K H a xs → xs[i]? = some x) ∧ ∀ ys, SqL K H b ys → ys[i]? = some y,
    fun i H => ∃ xs ys : List V, SqT K H a xs ∧ SqL K H b ys ∧ i = xs.length ∧ i = ys.length⟩
theorem turn_zu {P : Program} {w : World} {K : PySem.W.Frag} {elts : List Expr} {kk : Nat} {tpos : Pos} {a b z TI TO i1 i2 : Addr} (D : Ap2 z TI TO i1 i2 [i1, a] [i2, b]) (na : a ≠ i1) (nb : b ≠ i2) :
    Turn P w K (.Tuple elts kk tpos) (Itu K a b) [z, TI, TO, i1, i2] z (fun i h => IsZip h z TI TO .none ∧ IsPair h TI (.ref i1) (.ref i2) ∧ (∃ x y, IsPair h TO x y) ∧ h.IsTupleIter i1 a i ∧ h.IsListIter i2 b i) where
  mem := by simp
  obj := fun i h st c hc => by
    obtain ⟨hz, hTI, ⟨x, y, hTO⟩, ⟨o1, e1, _, d1⟩, ⟨o2, e2, _, d2⟩⟩ := st
    have e' : c = z ∨ c = TI ∨ c = TO ∨ c = i1 ∨ c = i2 := by simpa using hc
    rcases e' with q | q | q | q | q
    · rw [q]; exact ⟨_, hz, fun v q => nomatch q⟩
    · rw [q]; exact ⟨_, hTI, fun v q => nomatch q⟩
    · rw [q]; exact ⟨_, hTO, fun v q => nomatch q⟩
    · rw [q]; exact ⟨o1, e1, fun v q => by rw [d1] at q; cases q⟩
    · rw [q]; exact ⟨o2, e2, fun v q => by rw [d2] at q; cases q⟩
  keep := fun i h h' st k => by
    obtain ⟨hz, hTI, ⟨x, y, hTO⟩, h1, h2⟩ := st
    exact ⟨k z (by simp) _ hz, k TI (by simp) _ hTI, ⟨x, y, k TO (by simp) _ hTO⟩, h1.at fun o q => k i1 (by simp) o q, h2.at fun o q => k i2 (by simp) o q⟩
  item := by
    intro X hP hw hK hc i pins s σ H E I hf st hg
    subst hP hw hK
    obtain ⟨hz, hTI, ⟨x0, y0, hTO⟩, h1, h2⟩ := st
    obtain ⟨xs, ys, x, y, hqx, hqy, hx, hy⟩ := hg
    obtain ⟨its, rv, p, _⟩ := I.tuple hqx
    obtain ⟨its2, rv2, p2, _⟩ := I.list hqy
    obtain ⟨u, hu, ru⟩ := rv.get hx
    obtain ⟨u2, hu2, ru2⟩ := rv2.get hy
    have hzl : z < s.heap.objs.size := Heap.lt_size hz
    have l1 : i < its.toArray.size := by
      have := (List.getElem?_eq_some_iff.mp hu).1
      simpa using this
    have l2 : i < its2.toArray.size := by
      have := (List.getElem?_eq_some_iff.mp hu2).1
      simpa using this
    refine next2_item (fun A hh => drawsTup hh i1 a na its.toArray) (fun A hh => Draws.list hh i2 b nb its2.toArray) (I.ok.hd hc) D hz hTI hTO ⟨h1, p⟩ ⟨h2, p2.isList⟩ l1 l2 fun h' tk v v2 hv hv2 z' TO' s1' s2' hT hsz hk => ?_
    have ev : v = u := by
      have : its[i]? = some v := by simpa using hv
      rw [hu] at this; exact (Option.some.inj this).symm
    have ev2 : v2 = u2 := by
      have : its2[i]? = some v2 := by simpa using hv2
      rw [hu2] at this; exact (Option.some.inj this).symm
    subst ev ev2
    refine ⟨_, rfl, wpAny_letOwnedTupleGo_zip (s := { s with heap := h', toks := tk }) z' fun h'' z'' sb => ?_⟩
    have hT2 : h''.get? s.heap.objs.size = some { cls := .type "tuple", data := .seq #[v, v2] } := (sb.2 _ (Nat.ne_of_gt hzl)).trans hT
    have new : ObjOk X.prog X.w (upd H s.heap.objs.size (.tup [x, y])) h'' s.heap.objs.size (.tup [x, y]) :=
      ⟨by show 2 ≤ sizeLine; decide, [v, v2], .cons ru (.cons ru2 .nil), ⟨_, hT2, rfl, _, rfl⟩⟩
    have I1 : Inv X pins σ (upd H s.heap.objs.size (.tup [x, y])) { s with heap := h'', toks := tk } :=
      I.turnedNew (t' := tk) (ch := [z, TI, TO, i1, i2]) (fun c o hb q => (sb.2 c (fun q' => hb (by simp [q']))).trans (hk c o (fun q' => hb (by simp [q'])) (fun q' => hb (by simp [q'])) (fun q' => hb (by simp [q'])) (fun q' => hb (by simp [q'])) q)) hf (Nat.le_refl _) new
    refine ⟨.ref s.heap.objs.size, _, I1, rfl, ⟨_, x, y, rfl, I.hok.fresh (Nat.le_refl _), rfl, fun l hl => by rw [I.tuple_inj hl hqx]; exact hx, fun l hl => by rw [I.list_inj hl hqy]; exact hy⟩, ⟨z'', ?_, ⟨v, v2, ?_⟩, ?_, ?_⟩, fun c hcm => ?_⟩
    · exact (sb.2 _ D.TIz).trans (hk _ _ D.TIz D.TITO D.TIi1 D.TIi2 hTI)
    · exact (sb.2 _ D.TOz).trans TO'
    · exact s1'.1.at fun o q => (sb.2 _ D.i1z).trans q
    · exact s2'.1.at fun o q => (sb.2 _ D.i2z).trans q
    · have hlt : c < s.heap.objs.size := by
        have e' : c = z ∨ c = TI ∨ c = TO ∨ c = i1 ∨ c = i2 := by simpa using hcm
        rcases e' with q | q | q | q | q
        · rw [q]; exact hzl
        · rw [q]; exact Heap.lt_size hTI
        · rw [q]; exact Heap.lt_size hTO
        · rw [q]; obtain ⟨_, e1, _⟩ := h1; exact Heap.lt_size e1
        · rw [q]; obtain ⟨_, e2, _⟩ := h2; exact Heap.lt_size e2
      rw [upd_ne (Nat.ne_of_lt hlt)]
      exact (hf c hcm).1
  done := by
    intro X hP hw hK hc i pins s σ H E I hf st hg
    subst hP hw hK
    obtain ⟨hz, hTI, ⟨x0, y0, hTO⟩, h1, h2⟩ := st
    obtain ⟨xs, ys, hqx, hqy, l1, l2⟩ := hg
    obtain ⟨its, rv, p, _⟩ := I.tuple hqx
    obtain ⟨its2, rv2, p2, _⟩ := I.list hqy
    have e1 := rv.length
    have e2 := rv2.length
    exact next2_end (fun A hh => drawsTup hh i1 a na its.toArray) (fun A hh => Draws.list hh i2 b nb its2.toArray) (I.ok.hd hc) D hz hTI hTO ⟨h1, p⟩ ⟨h2, p2.isList⟩ (.inl (by simp; omega)) fun h' tk hk => ⟨rfl, I.turnedL (t' := tk) (ch := [z, TI, TO, i1, i2]) (fun c o hb q =>
      hk c o (fun q' => hb (by simp [q'])) (fun q' => hb (by simp [q'])) (fun q' => hb (by simp [q'])) (fun q' => hb (by simp [q'])) q) hf⟩
  self := fun A i s Q E st h => wpAny_pyIter_zip st.1 h

end Zp

set_option Elab.async false
set_option linter.all false
set_option maxRecDepth 100000
set_option maxHeartbeats 8000000
namespace Zp
open PySem L2
theorem meets_zu (a b : Addr) (xs ys : Array Value) :
    Meets (Builtin.«zip.__new__» ⟨[.type "zip", .ref a, .ref b], []⟩) (fun _ R s => s.heap.IsTuple a xs ∧ s.heap.IsList b ys ∧ R (.ok (.ret (.ref (zH s.heap (tupIt a) (lstIt b)).objs.size))) { s with heap := zHz s.heap (tupIt a) (lstIt b) }) :=
  .of_wp fun prog w A R s h => by
    obtain ⟨hp, g, d, tk, os⟩ := s; obtain ⟨hl1, hl2, h⟩ := h
    have hsub := sub_zip
    have hL1 : Heap.IsTuple (Shared.heap ⟨hp, g, d, tk, os⟩) a xs := hl1
    have hL2 : Heap.IsList (Shared.heap ⟨hp.push { cls := .type "tuple_iterator", data := .fields #[.ref a, .int 0 0] }, g, d, tk, os⟩) b ys := Heap.IsList.push hl2 _
    wp_walk using wpAny_pyIter_tuple hL1, wpAny_pyIter_list hL2
    exact ⟨_, rfl, h⟩
end Zp

set_option Elab.async false
set_option linter.all false
set_option maxRecDepth 100000
set_option maxHeartbeats 4000000
namespace Zp
open PySem PySem.Spec PyProof.Rows L2 PySem.W
section
variable {prog : Program} {w : World} {A : Around} {E : Value → Shared → Prop} {s : Shared}
theorem call_zu {a b : Addr} {xs ys : Array Value} {Q : Value → Shared → Prop} (h1 : s.heap.IsTuple a xs) (h2 : s.heap.IsList b ys)
    (q : ∀ h', IsZip h' (s.heap.objs.size + 4) (s.heap.objs.size + 2) (s.heap.objs.size + 3) .none → IsPair h' (s.heap.objs.size + 2) (.ref s.heap.objs.size) (.ref (s.heap.objs.size + 1)) →
      IsPair h' (s.heap.objs.size + 3) .none .none → h'.IsTupleIter s.heap.objs.size a 0 → h'.IsListIter (s.heap.objs.size + 1) b 0 →
      (∀ c o, s.heap.get? c = some o → h'.get? c = some o) → Q (.ref (s.heap.objs.size + 4)) { s with heap := h' }) :
    wpAny (model prog w) A (call (.type "zip") [.ref a, .ref b]) Q E s := by
  refine callType_new F.called_zip (by decide) (F.typeCall_zip_2 _ _) (F.newCall_zip_2 _ _) (fun obj => F.args_object_init_3 obj _ _) F.entry_zip_new (meets_zu a b xs ys) ⟨h1, h2, ?_⟩
  have z1 : (s.heap.push (tupIt a)).objs.size = s.heap.objs.size + 1 := Heap.size_push ..
  have z2 : ((s.heap.push (tupIt a)).push (lstIt b)).objs.size = s.heap.objs.size + 2 := by rw [Heap.size_push, z1]
  have z3 : (((s.heap.push (tupIt a)).push (lstIt b)).push { cls := .type "tuple", data := .seq #[.ref s.heap.objs.size, .ref (s.heap.push (tupIt a)).objs.size] }).objs.size = s.heap.objs.size + 3 := by rw [Heap.size_push, z2]
  have z4 : (zH s.heap (tupIt a) (lstIt b)).objs.size = s.heap.objs.size + 4 := by rw [Heap.size_push, z3]
  have g5 : (zHz s.heap (tupIt a) (lstIt b)).get? (zH s.heap (tupIt a) (lstIt b)).objs.size = some _ := Heap.get?_push_size _ rfl
  have g4 : (zHz s.heap (tupIt a) (lstIt b)).get? (((s.heap.push (tupIt a)).push (lstIt b)).push { cls := .type "tuple", data := .seq #[.ref s.heap.objs.size, .ref (s.heap.push (tupIt a)).objs.size] }).objs.size = some _ := Heap.get?_push_of_some _ (Heap.get?_push_size _ rfl)
  have g3 : (zHz s.heap (tupIt a) (lstIt b)).get? ((s.heap.push (tupIt a)).push (lstIt b)).objs.size = some _ := Heap.get?_push_of_some _ (Heap.get?_push_of_some _ (Heap.get?_push_size _ rfl))
  have g2 : (zHz s.heap (tupIt a) (lstIt b)).get? (s.heap.push (tupIt a)).objs.size = some _ := Heap.get?_push_of_some _ (Heap.get?_push_of_some _ (Heap.get?_push_of_some _ (Heap.get?_push_size _ rfl)))
  have g1 : (zHz s.heap (tupIt a) (lstIt b)).get? s.heap.objs.size = some _ := Heap.get?_push_of_some _ (Heap.get?_push_of_some _ (Heap.get?_push_of_some _ (Heap.get?_push_of_some _ (Heap.get?_push_size _ rfl))))
  show _ ∧ _
  rw [z2, z3, z4] at g5
  rw [z1, z2] at g3
  rw [z3] at g4
  rw [z1] at g2
  rw [z4]
  exact ⟨⟨_, g5, rfl⟩, q _ g5 g3 g4 ⟨_, g1, rfl, rfl⟩ ⟨_, g2, rfl, rfl⟩ fun c o x =>
    Heap.get?_push_of_some _ (Heap.get?_push_of_some _ (Heap.get?_push_of_some _ (Heap.get?_push_of_some _ (Heap.get?_push_of_some _ x))))⟩
end
theorem ap2_new (I a b : Nat) (h1 : a < I) (h2 : b < I) : Ap2 (I + 4) (I + 2) (I + 3) I (I + 1) [I, a] [I + 1, b] := by
  constructor <;> first
    | (intro c hc; rcases List.mem_cons.mp hc with q | q
       · rw [q]; exact Nat.ne_of_lt (by omega)
       · rw [List.mem_singleton.mp q]; exact Nat.ne_of_lt (by omega))
    | (intro c hc; rcases List.mem_cons.mp hc with q | q
       · rw [q]; exact Nat.ne_of_gt (by omega)
       · rw [List.mem_singleton.mp q]; exact Nat.ne_of_lt (by omega))
    | exact Nat.ne_of_lt (by omega)
    | exact Nat.ne_of_gt (by omega)
def iZipU (K : PySem.W.Frag) (ta : TA) : TI := fun σ H R => ta σ H fun vs H1 => ∃ a b xs ys, vs = [.ref a, .ref b] ∧ SqT K H1 a xs ∧ SqL K H1 b ys ∧ R (Itu K a b) H1
theorem pi_zipU {X : Cx} {e e2 : Expr} {ta : TA} {p pos tpos : Pos} {elts : List Expr} {kk : Nat} (hg : Gl X "zip") (hm : X.mg "zip" = none) (ha : PA X [e, e2] ta)
    (hs : starEach [e, e2] X.env = (false, eval e X.env) :: starEach [e2] X.env := by rfl) (hpl : (backTo pos (starEach [e2] X.env)).any (·.1) = false := by rfl) :
    PI X (.Tuple elts kk tpos) (.Call (.Name "zip" p) [e, e2] [] pos) (iZipU X.K ta) := by
  intro pins s σ H R I h
  refine Call_ (ld_blt I hg hm boot_zip5 (PyProof.Rows.callWith_type1 (thn (ha pos pins s σ H _ I h) fun us s1 ⟨vs, H1, I1, r1, q1⟩ => ?_) hs hpl))
  obtain ⟨a, b, xs, ys, ex, hqx, hqy, q⟩ := q1
  subst ex
  cases r1 with
  | cons r rr =>
    cases rr with
    | cons r' rr =>
      cases rr
      cases r
      cases r'
      obtain ⟨its, rv, p1, _⟩ := I1.tuple hqx
      obtain ⟨its2, rv2, p2, _⟩ := I1.list hqy
      have la : a < s1.heap.objs.size := by
        obtain ⟨o, e, _⟩ := (show s1.heap.IsTuple a its.toArray from p1)
        exact Heap.lt_size e
      have lb : b < s1.heap.objs.size := p2.lt
      refine call_zu p1 p2.isList fun h' hz hTI hTO h1 h2 hk => wpAny_pyIter_zip hz ?_
      have I2 : Inv X pins σ H1 { s1 with heap := h' } := I1.kept (t' := s1.toks) hk
      refine ⟨s1.heap.objs.size + 4, [s1.heap.objs.size + 4, s1.heap.objs.size + 2, s1.heap.objs.size + 3, s1.heap.objs.size, s1.heap.objs.size + 1], _, _, H1, rfl, I2, turn_zu (ap2_new _ a b la lb) (Nat.ne_of_lt la) (Nat.ne_of_lt (Nat.lt_succ_of_lt lb)), ⟨hz, hTI, ⟨_, _, hTO⟩, h1, h2⟩, fun c hcm => ?_, q⟩
      have e' : c = s1.heap.objs.size + 4 ∨ c = s1.heap.objs.size + 2 ∨ c = s1.heap.objs.size + 3 ∨ c = s1.heap.objs.size ∨ c = s1.heap.objs.size + 1 := by simpa using hcm
      have hle : s1.heap.objs.size ≤ c := by
        rcases e' with z | z | z | z | z
        · rw [z]; exact Nat.le_add_right _ _
        · rw [z]; exact Nat.le_add_right _ _
        · rw [z]; exact Nat.le_add_right _ _
        · rw [z]; exact Nat.le_refl _
        · rw [z]; exact Nat.le_add_right _ _
      exact I1.fpOk hle (I1.hok.fresh hle)
end Zp

set_option Elab.async false
set_option linter.all false
set_option maxRecDepth 100000
set_option maxHeartbeats 8000000
namespace Zp
open PySem PySem.Spec PyProof.Rows L2
/-- a comprehension over zip(tuple, list), both of one length -/
theorem lc_zipU {K : PySem.W.Frag} {a b : Addr} {xs ys : List V} (hxy : xs.length = ys.length) {g : TG} {tt : TT} {te : TE} {vs : List Nat} {σ : L2.St} {H1 : Hp} {D : Addr} {Qd : Hp → Prop} (Pv : Nat → Hp → Prop) (h0 : Pv 0 (upd H1 D (.lst []))) (hl : ∀ i H, i ≤ xs.length → Pv i H → SqT K H a xs ∧ SqL K H b ys)
    (hs : ∀ i x y H T, xs[i]? = some x → ys[i]? = some y → Pv i H → H T = none → g (.ref T) (wipe σ vs) (upd H T (.tup [x, y])) fun σ2 H2 => wipe σ2 vs = wipe σ vs ∧ tt σ2 H2 fun b H3 =>
      if b = true then te σ2 H3 fun y H4 => ∃ acc, H4 D = some (.lst acc) ∧ acc.length < sizeLine ∧ Pv (i + 1) (upd H4 D (.lst (acc ++ [y]))) else Pv (i + 1) H3) (hd : ∀ H, Pv xs.length H → Qd H) :
    ∃ W : Nat → Nat → Hp → Prop, (∃ m, W 0 m (upd H1 D (.lst []))) ∧ ∀ i m H, W i m H →
      ((Itu K a b).stop i H ∧ Qd H) ∨ ((Itu K a b).go i H ∧ ∃ Nx : Hp → Prop, (∀ H', Nx H' → ∃ m', m' < m ∧ W (i + 1) m' H') ∧ ∀ x H', (Itu K a b).yld i H x H' → g x (wipe σ vs) H' fun σ2 H2 => wipe σ2 vs = wipe σ vs ∧ tt σ2 H2 fun b H3 =>
        if b = true then te σ2 H3 fun y H4 => ∃ acc, H4 D = some (.lst acc) ∧ acc.length < sizeLine ∧ Nx (upd H4 D (.lst (acc ++ [y]))) else Nx H3) := by
  refine ⟨fun i m H => m = xs.length - i ∧ i ≤ xs.length ∧ Pv i H, ⟨xs.length, by simp, Nat.zero_le _, h0⟩, ?_⟩
  rintro i m H ⟨rfl, hi, p⟩
  obtain ⟨qa, qb⟩ := hl i H hi p
  by_cases hlt : i < xs.length
  · have hly : i < ys.length := by omega
    refine .inr ⟨⟨xs, ys, xs[i], ys[i], qa, qb, by simp [hlt], by simp [hly]⟩, Pv (i + 1), fun H' p' => ⟨xs.length - (i + 1), by omega, rfl, hlt, p'⟩, fun z H' y => ?_⟩
    obtain ⟨T, x, y, ez, hT, e, hx, hy⟩ := y
    subst e ez
    exact hs i x y H T (hx xs qa) (hy ys qb) p hT
  · have e : i = xs.length := by omega
    subst e
    exact .inl ⟨⟨xs, ys, qa, qb, rfl, hxy⟩, hd H p⟩
end Zp

set_option Elab.async false
set_option maxRecDepth 100000
set_option linter.all false
set_option maxHeartbeats 8000000
namespace U
open PySem L2 TL Rl Tb Zp
/-! ### parts_or_none -/
def spParts (K : PySem.W.Frag) (Pn Pf : Addr) : Sp := fun vs H Q _ => ∃ (ak aw : Addr) (ks ws : List Str), vs = [.ref ak, .ref aw] ∧ SqT K H ak (ks.map V.str) ∧ H aw = some (.lst (ws.map V.str)) ∧ TT H Pn Pf ∧ (∀ w ∈ ws, w.length ≤ sizeLine) ∧ ks.length ≤ 100 ∧
  ∀ v H', K2 Pn Pf H H' → TT H' Pn Pf → ((partsV ks ws = none ∧ v = .non) ∨ ∃ p xs, partsV ks ws = some xs ∧ v = .ref p ∧ H' p = some (.lst xs)) → Q v H'
theorem K2.seqT {K : PySem.W.Frag} {Pn Pf a : Addr} {H H' : Hp} {xs : List V} (t : TT H Pn Pf) (k : K2 Pn Pf H H') (h : SqT K H a xs) : SqT K H' a xs := by
  rcases h with (h | ⟨u, h⟩) | h
  · have := t.nn h (by intro p z; cases z)
    exact .inl (.inl (k _ _ h this.1 this.2))
  · have := t.nn h (by intro p z; cases z)
    exact .inl (.inr ⟨u, k _ _ h this.1 this.2⟩)
  · exact .inr h
theorem partsL_snoc : ∀ {ks ws : List Str} {k w : Str} {i : Nat}, ks[i]? = some k → ws[i]? = some w → partsL (ks.take (i + 1)) (ws.take (i + 1)) = partsL (ks.take i) (ws.take i) ++ [(partV k w).getD .non]
  | k0 :: ks, w0 :: ws, k, w, 0, hk, hw => by
    cases hk; cases hw; rfl
  | k0 :: ks, w0 :: ws, k, w, i + 1, hk, hw => by
    have := partsL_snoc (ks := ks) (ws := ws) (k := k) (w := w) (i := i) hk hw
    show _ :: partsL (ks.take (i + 1)) (ws.take (i + 1)) = _ :: (partsL (ks.take i) (ws.take i)) ++ _
    rw [this]; rfl
  | [], _, _, _, _, hk, _ => by simp at hk
  | _ :: _, [], _, _, _, _, hw => by simp at hw
theorem partsL_len : ∀ {ks ws : List Str}, ws.length = ks.length → (partsL ks ws).length = ks.length
  | [], [], _ => rfl
  | k :: ks, w :: ws, h => by
    show (partsL ks ws).length + 1 = ks.length + 1
    rw [partsL_len (by simpa using h)]
  | [], _ :: _, h => by simp at h
  | _ :: _, [], h => by simp at h
theorem partV_flat {k w : Str} : flatV ((partV k w).getD .non) = true := by
  unfold partV
  split
  · split <;> rfl
  · split
    · split <;> rfl
    · rfl
theorem partV_non {k w : Str} : eqV ((partV k w).getD .non) .non = !(partV k w).isSome := by
  unfold partV
  split
  · split <;> rfl
  · split
    · split <;> rfl
    · rfl
theorem parts_in : ∀ {ks ws : List Str}, ws.length = ks.length → inV .non (partsL ks ws) = !partsOk ks ws
  | [], [], _ => rfl
  | k :: ks, w :: ws, h => by
    have ih := parts_in (ks := ks) (ws := ws) (by simpa using h)
    show (eqV ((partV k w).getD .non) .non || inV .non (partsL ks ws)) = !((partV k w).isSome && partsOk ks ws)
    rw [ih, partV_non]
    cases (partV k w).isSome <;> rfl
  | [], _ :: _, h => by simp at h
  | _ :: _, [], h => by simp at h
theorem partsL_flat : ∀ {ks ws : List Str}, (partsL ks ws).all flatV = true
  | [], _ => by cases ‹List Str› <;> rfl
  | _ :: _, [] => rfl
  | k :: ks, w :: ws => by
    show (flatV ((partV k w).getD .non) && (partsL ks ws).all flatV) = true
    rw [partsL_flat, partV_flat]; rfl
theorem at_map {xs : List Str} {i : Nat} {v : V} (h : (xs.map V.str)[i]? = some v) : ∃ x, xs[i]? = some x ∧ v = .str x := by
  rw [List.getElem?_map] at h
  cases e : xs[i]? with
  | none => rw [e] at h; cases h
  | some a => rw [e] at h; exact ⟨a, rfl, (Option.some.inj h).symm⟩
section
variable {P : Program} {w : World} {K : PySem.W.Frag} {mg : Str → Option Value} {base : Heap}
theorem scPs : FnScope ["kinds", "words", "parts", "kind", "word"] ["kinds", "words"] (defScope sPartsOr) := ⟨rfl, rfl, rfl, by decide +kernel, rfl, by decide +kernel, by decide +kernel⟩
theorem ok_parts {f fP Pn Pf : Addr} {fd fdP : FuncData} (F : Fun K "parts_or_none" "parts_or_none" sPartsOr f fd) (G : Glb mg) (gz : mg "zip" = none)
    (GP : FnOk P w K mg base CX0 3 fP fdP ["kind", "word"] (spPart Pn Pf)) (mgP : mg "part_or_none" = some (.ref fP)) (kpP : PySem.W.keepIn K (.ref fP) = true) (bP : Binds K fdP ["kind", "word"] []) : FnOk P w K mg base CX0 4 f fd ["kinds", "words"] (spParts K Pn Pf) := by
  refine F.ok scPs (fun vs H Q E h => ?_) (fun cdv A0 outer s H vs Q E hr h => ?_)
  · obtain ⟨ak, aw, ks, ws, rfl, _⟩ := h
    rfl
  · obtain ⟨ak, aw, ks, ws, rfl, hk, hw, hT, hz, hn, q⟩ := h
    have z100 : 100 < sizeLine := by rw [sizeLine_eq]; decide
    refine ⟨_, (pss_cut (ps_if (pt_cmpR op_ne (pe_callB call_len_seq (by rfl) G.len PySem.boot_len (pa_cons (pv 1) pa_nil)) (pe_callB call_len_seq (by rfl) G.len PySem.boot_len (pa_cons (pv 0) pa_nil)) (nomark _)) (pss_one (ps_ret pe_non)) pss_nil)
      (pss_cons (ps_setLc (i := 2) (own := [("kind", 3), ("word", 4)]) (g := gTup K 2 (gCons (gName 3) (gCons (gName 4) gNil))) (by rfl) scPs.nd rfl rfl (sw_true rfl rfl rfl (by decide +kernel)) (pi_zipU (by rfl) gz (pa_cons (pv 0) (pa_cons (pv 1) pa_nil))) (blkOk_by (own := [("kind", 3), ("word", 4)]) (N := ["kinds", "words", "parts", "kind", "word"]) (sc := defScope sPartsOr) (by decide +kernel))
        (fun _ _ _ _ _ => pg_tup (by rfl) (pgs_cons (pg_name (i := 3) scPs.nd rfl (Or.inl rfl)) (pgs_cons (pg_name (i := 4) scPs.nd rfl (Or.inl rfl)) pgs_nil))) (fun _ _ _ _ _ => pts_nil) (fun _ _ _ _ _ => pe_call GP hr (by rfl) mgP kpP bP .nil pass0 (pa_cons (pv 3) (pa_cons (pv 4) pa_nil))))
      (pss_one (ps_ret (pe_ifExp (pt_cmpR op_in_seq pe_non (pv 2) (by rfl)) pe_non (pv 2)))))), ?_⟩
    refine ⟨fun σ' H' => σ' = [some (.ref ak), some (.ref aw), none, none, none] ∧ H' = H ∧ ws.length = ks.length, ?_, ?_⟩
    · refine ⟨_, rfl, aw, _, rfl, .inl (SqL.of hw), _, rfl, ak, _, rfl, .inr hk, rfl, _, rfl, ?_⟩
      by_cases hl : ws.length = ks.length
      · refine iteF' ?_ ⟨rfl, rfl, hl⟩
        rw [decide_eq_true (by rw [List.length_map, List.length_map, hl])]; rfl
      · refine iteT' ?_ ?_
        · rw [decide_eq_false (fun z => hl (by injection z with z; rw [List.length_map, List.length_map] at z; omega))]; rfl
        · exact q _ H (fun _ _ e _ _ => e) hT (.inl ⟨if_neg fun z => hl z.1, rfl⟩)
    rintro _ H ⟨rfl, rfl, hl⟩
    have nw := hT.nn hw (by intro p z; cases z)
    refine ⟨_, rfl, _, rfl, ak, aw, _, _, rfl, hk, SqL.of hw, fun D hD => ?_⟩
    refine lc_zipU (K := K) (a := ak) (b := aw) (xs := ks.map V.str) (ys := ws.map V.str) (by rw [List.length_map, List.length_map, hl]) (fun i H2 => K2 Pn Pf H H2 ∧ TT H2 Pn Pf ∧ H2 D = some (.lst (partsL (ks.take i) (ws.take i)))) ⟨K2.of (same_new hD), hT.same (same_new hD), upd_same⟩ ?_ ?_ ?_
    · rintro i H2 _ ⟨k2, t2, _⟩
      exact ⟨K2.seqT hT k2 hk, SqL.of (k2 _ _ hw nw.1 nw.2)⟩
    · rintro i x y H2 T hx hy ⟨k2, t2, gD⟩ hTn
      obtain ⟨kd, hkd, rfl⟩ := at_map hx
      obtain ⟨wd, hwd, rfl⟩ := at_map hy
      have s3 : Same H2 (upd H2 T (.tup [.str kd, .str wd])) := same_new hTn
      have gT : (upd H2 T (.tup [.str kd, .str wd])) T = some (.tup [.str kd, .str wd]) := upd_same
      generalize upd H2 T (.tup [.str kd, .str wd]) = H3 at s3 gT
      refine ⟨T, _, rfl, SqT.of gT, rfl, _, _, rfl, _, _, rfl, rfl, ?_⟩
      refine ⟨rfl, ?_⟩
      dsimp only [tYes]
      refine iteT ⟨_, rfl, _, rfl, kd, wd, rfl, t2.same s3, hz wd (List.mem_of_getElem? hwd), fun H4 k4 t4 => ?_⟩
      have gD3 := s3 _ _ gD
      have nD := (t2.same s3).nn gD3 (by intro p z; cases z)
      have gD4 := k4 _ _ gD3 nD.1 nD.2
      have hil : i < ks.length := (List.getElem?_eq_some_iff.mp hkd).1
      have ll : (partsL (ks.take i) (ws.take i)).length ≤ 100 := by
        rw [partsL_len (by rw [List.length_take, List.length_take, hl]), List.length_take]
        omega
      have nD4 := t4.nn gD4 (by intro p z; cases z)
      refine ⟨_, gD4, by omega, fun b o e n1 n2 => ?_, ⟨LamT.keep t4.n fun b o e z => ?_, LamT.keep t4.f fun b o e z => ?_, t4.ne⟩, ?_⟩
      · rw [upd_ne (ne_of_none e hD)]
        exact (k2.trans ((K2.of s3).trans k4)) b o e n1 n2
      · rw [upd_ne (ne_of e gD4 (by rcases z with ⟨ps, rfl⟩ | ⟨φ, rfl⟩ <;> intro z <;> cases z))]; exact e
      · rw [upd_ne (ne_of e gD4 (by rcases z with ⟨ps, rfl⟩ | ⟨φ, rfl⟩ <;> intro z <;> cases z))]; exact e
      · rw [upd_same, partsL_snoc hkd hwd]
    rintro H2 ⟨k2, t2, gD⟩
    rw [List.length_map, List.take_length, ← hl, List.take_length] at gD
    have ei := parts_in hl
    refine ⟨_, rfl, D, _, rfl, .inl (SqL.of gD), rfl, partsL_flat, _, rfl, ?_⟩
    cases hp : partsOk ks ws with
    | true =>
      rw [hp] at ei
      exact iteF' ei ⟨_, rfl, q _ H2 k2 t2 (.inr ⟨D, _, if_pos ⟨hl, hp⟩, rfl, gD⟩)⟩
    | false =>
      rw [hp] at ei
      exact iteT' ei (q _ H2 k2 t2 (.inl ⟨if_neg fun z => by rw [hp] at z; exact Bool.false_ne_true z.2, rfl⟩))
end
end U

set_option Elab.async false
set_option maxRecDepth 100000
set_option linter.all false
set_option maxHeartbeats 8000000
namespace U
open PySem L2 TL Rl Tb
/-- the module's forms -/
structure FF (K : PySem.W.Frag) (mg : Str → Option Value) : Prop where
  it : ∃ aF D, mg "FORMS" = some (.ref aF) ∧ TabK K aF D ∧ ∀ k, (formOf k = none ∧ valT D k = none) ∨ ∃ ks b, formOf k = some ks ∧ valT D k = some (.ref b) ∧ ∀ H, SqT K H b (ks.map V.str)
def strAt (K : PySem.W.Frag) (x v : Str) : Bool := match PySem.W.nsIn K mainGlobals x with
  | some (some (.str y _)) => y == v
  | _ => false
def intAt (K : PySem.W.Frag) (x : Str) (v : Int) : Bool := match PySem.W.nsIn K mainGlobals x with
  | some (some (.int y _)) => y == v
  | _ => false
theorem strAt_ok {K : PySem.W.Frag} {x v : Str} (h : strAt K x v = true) : ∃ t, PySem.W.nsIn K mainGlobals x = some (some (.str v t)) := by
  unfold strAt at h
  split at h
  · rename_i y t e
    rw [beq_iff_eq] at h
    exact ⟨t, by rw [e, h]⟩
  · cases h
theorem intAt_ok {K : PySem.W.Frag} {x : Str} {v : Int} (h : intAt K x v = true) : ∃ t, PySem.W.nsIn K mainGlobals x = some (some (.int v t)) := by
  unfold intAt at h
  split at h
  · rename_i y t e
    rw [beq_iff_eq] at h
    exact ⟨t, by rw [e, h]⟩
  · cases h
def strV : Value → Option Str
  | .str x _ => some x
  | _ => none
def strsV : List Value → Option (List Str)
  | [] => some []
  | v :: vs => match strV v, strsV vs with
    | some x, some xs => some (x :: xs)
    | _, _ => none
theorem strsV_ok : ∀ {vs : List Value} {xs : List Str}, strsV vs = some xs → Vals (xs.map V.str) vs
  | [], xs, h => by
    have : xs = [] := (Option.some.inj h).symm
    subst this; exact .nil
  | v :: vs, xs, h => by
    have h' : (match strV v, strsV vs with | some x, some xs => some (x :: xs) | _, _ => none) = some xs := h
    cases e1 : strV v with
    | none => rw [e1] at h'; cases h'
    | some x =>
      cases e2 : strsV vs with
      | none => rw [e1, e2] at h'; cases h'
      | some ys =>
        rw [e1, e2] at h'
        have : xs = x :: ys := (Option.some.inj h').symm
        subst this
        refine .cons ?_ (strsV_ok e2)
        cases v <;> first | (cases e1; exact ⟨_, rfl⟩) | cases e1
def tupStrs (K : PySem.W.Frag) (b : Addr) : Option (List Str) := match K.lookup b with
  | some o => match o.cls, o.data with
    | .type T, .seq its _ => if (T == "tuple" && decide (its.size ≤ 100)) = true then strsV its.toList else none
    | _, _ => none
  | none => none
theorem tupStrs_ok {K : PySem.W.Frag} {b : Addr} {ks : List Str} (h : tupStrs K b = some ks) (H : Hp) : SqT K H b (ks.map V.str) := by
  unfold tupStrs at h
  split at h
  · rename_i o e
    split at h
    · rename_i T its n ec ed
      split at h
      · rename_i hh
        rw [Bool.and_eq_true, beq_iff_eq, decide_eq_true_eq] at hh
        obtain ⟨rfl, hz⟩ := hh
        exact .inr ⟨o, its, n, e, ec, ed, by rw [sizeLine_eq]; omega, strsV_ok h⟩
      · cases h
    · cases h
  · cases h
def entV (e : DictEntry) : Option (Str × Addr) := match e.key, e.val with
  | .str x _, .ref b => some (x, b)
  | _, _ => none
def entsV : List DictEntry → Option (List (Str × Addr))
  | [] => some []
  | e :: es => match entV e, entsV es with
    | some x, some xs => some (x :: xs)
    | _, _ => none
theorem entsV_ok : ∀ {es : List DictEntry} {xs : List (Str × Addr)}, entsV es = some xs → PyProof.Rows.KTD.Rows (fun (d : V) v => RelV d v) es (xs.map fun p => (p.1, V.ref p.2))
  | [], xs, h => by
    have : xs = [] := (Option.some.inj h).symm
    subst this; exact .nil
  | e :: es, xs, h => by
    have h' : (match entV e, entsV es with | some x, some xs => some (x :: xs) | _, _ => none) = some xs := h
    cases e1 : entV e with
    | none => rw [e1] at h'; cases h'
    | some x =>
      cases e2 : entsV es with
      | none => rw [e1, e2] at h'; cases h'
      | some ys =>
        rw [e1, e2] at h'
        have : xs = x :: ys := (Option.some.inj h').symm
        subst this
        unfold entV at e1
        split at e1
        · rename_i k t b ek ev
          cases e1
          exact .cons ek (by rw [ev]; rfl) (entsV_ok e2)
        · cases e1
def tabStrs (K : PySem.W.Frag) (a : Addr) : Option (List (Str × Addr)) := match K.lookup a with
  | some ⟨.type T, none, .dict es _, sl⟩ => if (T == "dict" && sl.isEmpty && !(a == sysModules)) = true then entsV es.toList else none
  | _ => none
def formsOk (K : PySem.W.Frag) (a : Addr) : Bool := match tabStrs K a with
  | some l => decide (l.map (fun p => (p.1, tupStrs K p.2)) = formsD.map fun p => (p.1, some p.2))
  | none => false
theorem tab_pair {K : PySem.W.Frag} : ∀ {l : List (Str × Addr)} {D : List (Str × List Str)}, l.map (fun p => (p.1, tupStrs K p.2)) = D.map (fun p => (p.1, some p.2)) →
    ∀ k, (PyProof.Rows.KTD.datumAt k D = none ∧ valT (l.map fun p => (p.1, V.ref p.2)) k = none) ∨ ∃ ks b, PyProof.Rows.KTD.datumAt k D = some ks ∧ valT (l.map fun p => (p.1, V.ref p.2)) k = some (.ref b) ∧ tupStrs K b = some ks
  | [], [], _, _ => .inl ⟨rfl, rfl⟩
  | (x, b) :: l, (y, ks) :: D, h, k => by
    have h1 : (x, tupStrs K b) = (y, some ks) ∧ l.map (fun p => (p.1, tupStrs K p.2)) = D.map (fun p => (p.1, some p.2)) := by simpa using h
    obtain ⟨h0, ht⟩ := h1
    injection h0 with hx hb
    subst hx
    show ((if decide (k = x) = true then some ks else PyProof.Rows.KTD.datumAt k D) = none ∧ (if decide (k = x) = true then some (V.ref b) else valT (l.map fun p => (p.1, V.ref p.2)) k) = none) ∨ ∃ ks' b', (if decide (k = x) = true then some ks else PyProof.Rows.KTD.datumAt k D) = some ks' ∧ (if decide (k = x) = true then some (V.ref b) else valT (l.map fun p => (p.1, V.ref p.2)) k) = some (.ref b') ∧ tupStrs K b' = some ks'
    by_cases hk : k = x
    · rw [if_pos (decide_eq_true hk), if_pos (decide_eq_true hk)]
      exact .inr ⟨ks, b, rfl, rfl, hb⟩
    · rw [if_neg (by rw [decide_eq_false hk]; exact Bool.false_ne_true), if_neg (by rw [decide_eq_false hk]; exact Bool.false_ne_true)]
      exact tab_pair ht k
  | [], _ :: _, h, _ => by simp at h
  | _ :: _, [], h, _ => by simp at h
theorem formsOk_ok {K : PySem.W.Frag} {mg : Str → Option Value} {a : Addr} (hm : mg "FORMS" = some (.ref a)) (h : formsOk K a = true) : FF K mg := by
  unfold formsOk at h
  cases e : tabStrs K a with
  | none => rw [e] at h; cases h
  | some l =>
    rw [e] at h
    have hp := tab_pair (of_decide_eq_true h)
    refine ⟨a, l.map fun p => (p.1, V.ref p.2), hm, ?_, fun k => ?_⟩
    · unfold tabStrs at e
      split at e
      · rename_i T es ep sl el
        split at e
        · rename_i hh
          rw [Bool.and_eq_true, Bool.and_eq_true, beq_iff_eq, Bool.not_eq_true'] at hh
          obtain ⟨⟨rfl, hsl⟩, hs⟩ := hh
          exact ⟨hs, _, es, ep, el, ⟨rfl, rfl, by simpa using hsl⟩, rfl, entsV_ok e⟩
        · cases e
      · cases e
    · rcases hp k with ⟨a1, a2⟩ | ⟨ks, b, a1, a2, a3⟩
      · exact .inl ⟨a1, a2⟩
      · exact .inr ⟨ks, b, a1, a2, fun H => tupStrs_ok a3 H⟩
end U

set_option Elab.async false
set_option maxRecDepth 100000
set_option linter.all false
set_option maxHeartbeats 8000000
namespace U
open PySem L2 TL Rl Tb Zp
/-! ### row_or_none, read_row, row_text -/
theorem form_len {k : Str} {ks : List Str} (h : formOf k = some ks) : ks.length ≤ 100 := by
  have : ∀ (D : List (Str × List Str)), (∀ p ∈ D, p.2.length ≤ 100) → PyProof.Rows.KTD.datumAt k D = some ks → ks.length ≤ 100 := by
    intro D
    induction D with
    | nil => intro _ h; cases h
    | cons p D ih =>
      obtain ⟨x, d⟩ := p
      intro hp h
      have h' : (if decide (k = x) = true then some d else PyProof.Rows.KTD.datumAt k D) = some ks := h
      split at h'
      · rw [← Option.some.inj h']; exact hp (x, d) (List.mem_cons_self ..)
      · exact ih (fun q hq => hp q (List.mem_cons_of_mem _ hq)) h'
  exact this formsD (by decide) h
def spRowOr (Pn Pf : Addr) : Sp := fun vs H Q _ => ∃ t : Str, vs = [.str t] ∧ t.length ≤ 100000 ∧ TT H Pn Pf ∧
  ∀ v H', K2 Pn Pf H H' → TT H' Pn Pf → ((rowV t = none ∧ v = .non) ∨ ∃ p xs, rowV t = some xs ∧ v = .ref p ∧ H' p = some (.tup xs)) → Q v H'
theorem spl_ne : ∀ (l acc : List Nat) (k : Nat), spl [32] k acc l ≠ []
  | [], acc, k => by cases k <;> exact fun z => nomatch z
  | c :: r, acc, 0 => by
    show (if pre [32] (c :: r) = true then acc :: spl [32] ([32].length - 1) [] r else spl [32] 0 (acc ++ [c]) r) ≠ []
    split
    · exact fun z => nomatch z
    · exact spl_ne r _ _
  | c :: r, acc, k + 1 => spl_ne r acc k
theorem spl_small : ∀ (l acc : List Nat) (k : Nat), ∀ p ∈ spl [32] k acc l, p.length ≤ acc.length + l.length
  | [], acc, k, p, hp => by
    rw [spl_nil, List.mem_singleton] at hp
    rw [hp]; exact Nat.le_add_right _ _
  | c :: r, acc, 0, p, hp => by
    have hp : p ∈ (if pre [32] (c :: r) = true then acc :: spl [32] ([32].length - 1) [] r else spl [32] 0 (acc ++ [c]) r) := hp
    rw [List.length_cons]
    split at hp
    · rcases List.mem_cons.mp hp with rfl | hp
      · omega
      · have := spl_small r [] _ p hp
        simp only [List.length_nil] at this
        omega
    · have := spl_small r _ _ p hp
      simp only [List.length_append, List.length_cons, List.length_nil] at this
      omega
  | c :: r, acc, k + 1, p, hp => by
    have := spl_small r acc k p hp
    rw [List.length_cons]; omega
theorem split_map (t : Str) : (Txt.split t " ").map tl = spl [32] 0 [] (tl t) := by
  have h : (Txt.split t " ").map tl = spl (tl " ") 0 [] (tl t) := split_spl t " " (by rw [tl_blank]; exact fun z => nomatch z) (kind_ok (by decide +kernel))
  rwa [tl_blank] at h
theorem split_cons (t : Str) : ∃ w ws, Txt.split t " " = w :: ws := by
  cases e : Txt.split t " " with
  | nil =>
    have := split_map t
    rw [e] at this
    exact absurd this.symm (spl_ne _ _ _)
  | cons w ws => exact ⟨w, ws, rfl⟩
theorem split_small {t p : Str} (h : p ∈ Txt.split t " ") : p.length ≤ t.length := by
  have hm : tl p ∈ (Txt.split t " ").map tl := List.mem_map.mpr ⟨p, h, rfl⟩
  rw [split_map] at hm
  have := spl_small _ _ _ _ hm
  rw [len_tl, len_tl t]
  simpa using this
theorem cut1 {v : V} {vs : List V} : cutV (v :: vs) (some 1) none = vs := by
  have e : HT.sIx (v :: vs).length 0 (some 1) = 1 := by
    rw [show (some (1 : Int)) = some (((1 : Nat) : Int)) from rfl, HT.sIx_nat, List.length_cons]; omega
  unfold cutV
  rw [e]
  show vs.take (vs.length + 1 - 1) = vs
  exact List.take_of_length_le (by omega)
section
variable {P : Program} {w : World} {K : PySem.W.Frag} {mg : Str → Option Value} {base : Heap}
theorem scRo : FnScope ["text", "words", "parts"] ["text"] (defScope sRowOr) := ⟨rfl, rfl, rfl, by decide +kernel, rfl, by decide +kernel, by decide +kernel⟩
theorem ok_rowOr {f fP Pn Pf : Addr} {fd fdP : FuncData} (F : Fun K "row_or_none" "row_or_none" sRowOr f fd) (G : Glb mg) (FO : FF K mg)
    (GP : FnOk P w K mg base CX0 4 fP fdP ["kinds", "words"] (spParts K Pn Pf)) (mgP : mg "parts_or_none" = some (.ref fP)) (kpP : PySem.W.keepIn K (.ref fP) = true) (bP : Binds K fdP ["kinds", "words"] []) : FnOk P w K mg base CX0 5 f fd ["text"] (spRowOr Pn Pf) := by
  refine F.ok scRo (fun vs H Q E h => ?_) (fun cdv A0 outer s H vs Q E hr h => ?_)
  · obtain ⟨t, rfl, _⟩ := h
    rfl
  · obtain ⟨t, rfl, ht, hT, q⟩ := h
    obtain ⟨aF, D, mF, tab, fo⟩ := FO.it
    obtain ⟨wd, ws, es⟩ := split_cons t
    have zz : 200000 < sizeLine := by rw [sizeLine_eq]; decide
    refine ⟨_, (pss_cons (ps_set (i := 1) scRo.nd rfl (Or.inl rfl) (pe_split (pv 0) pe_str))
      (pss_cut (ps_if (pt_cmpR op_notInTab (pe_ix ix_list (pv 1) pe_int (fun _ _ => rfl)) (pe_glob (v := .ref aF) (u := .ref aF) (by rfl) mF rfl) (by rfl)) (pss_one (ps_ret pe_non)) pss_nil)
      (pss_cons (ps_set (i := 2) scRo.nd rfl (Or.inl rfl) (pe_call GP hr (by rfl) mgP kpP bP .nil pass0 (pa_cons (pe_tab (pe_glob (v := .ref aF) (u := .ref aF) (by rfl) mF rfl) (pe_ix ix_list (pv 1) pe_int (fun _ _ => rfl)) (fun _ _ => rfl)) (pa_cons (pe_slice sl_list (pv 1) (po_some pe_int) po_none) pa_nil))))
      (pss_cut (ps_if (pt_cmpR op_isN (pv 2) pe_non (nomark _)) (pss_one (ps_ret pe_non)) pss_nil)
      (pss_one (ps_ret (pe_tup (pa_cons (pe_ix ix_list (pv 1) pe_int (fun _ _ => rfl)) (pa_starL (pv 2) pa_nil))))))))), ?_⟩
    refine ⟨_, rfl, ⟨_, rfl⟩, _, _, rfl, rfl, (by decide +kernel), (by omega), fun l hl => ?_⟩
    rw [es]
    have s1 : Same H (upd H l (.lst ((wd :: ws).map V.str))) := same_new hl
    have g1 : (upd H l (.lst ((wd :: ws).map V.str))) l = some (.lst (.str wd :: ws.map V.str)) := upd_same
    generalize upd H l (.lst ((wd :: ws).map V.str)) = H1 at s1 g1
    have t1 := hT.same s1
    have er : rowV t = wordsV (wd :: ws) := by unfold rowV; rw [es]
    refine ⟨fun σ' H' => σ' = [some (.str t), some (.ref l), none] ∧ H' = H1 ∧ ∃ ks b, formOf wd = some ks ∧ valT D wd = some (.ref b) ∧ ∀ H, SqT K H b (ks.map V.str), ?_, ?_⟩
    · refine ⟨_, rfl, l, _, _, _, rfl, rfl, SqL.of g1, atI_nat (j := 0) rfl, aF, wd, D, rfl, rfl, tab, _, rfl, ?_⟩
      rcases fo wd with ⟨e1, e2⟩ | ⟨ks, b, e1, e2, e3⟩
      · refine iteT' (by rw [e2]; rfl) ?_
        refine q .non H1 (K2.of s1) t1 (.inl ⟨?_, rfl⟩)
        rw [er]
        show (match formOf wd with | none => none | some ks => (partsV ks ws).map (V.str wd :: ·)) = none
        rw [e1]
      · exact iteF' (by rw [e2]; rfl) ⟨rfl, rfl, ks, b, e1, e2, e3⟩
    rintro _ H1 ⟨rfl, rfl, ks, b, e1, e2, e3⟩
    have er2 : rowV t = (partsV ks ws).map (V.str wd :: ·) := by
      rw [er]
      show (match formOf wd with | none => none | some ks => (partsV ks ws).map (V.str wd :: ·)) = _
      rw [e1]
    refine ⟨_, rfl, l, _, _, _, rfl, rfl, SqL.of g1, atI_nat (j := 0) rfl, aF, wd, D, _, rfl, rfl, tab, e2, ?_⟩
    refine ⟨_, rfl, _, rfl, l, _, rfl, SqL.of g1, fun l2 hl2 => ?_⟩
    rw [cut1]
    have s2 := same_new (o := .lst (ws.map V.str)) hl2
    have g2 : (upd H1 l2 (.lst (ws.map V.str))) l2 = some (.lst (ws.map V.str)) := upd_same
    generalize upd H1 l2 (.lst (ws.map V.str)) = H2 at s2 g2
    have t2 := t1.same s2
    have g12 := s2 _ _ g1
    have nl := t2.nn g12 (by intro p z; cases z)
    refine ⟨b, l2, ks, ws, rfl, e3 H2, g2, t2, fun x hx => ?_, form_len e1, fun v H3 k3 t3 hv => ?_⟩
    · have := split_small (t := t) (p := x) (by rw [es]; exact List.mem_cons_of_mem _ hx)
      omega
    have k03 : K2 Pn Pf H H3 := (K2.of (s1.trans s2)).trans k3
    have g13 := k3 _ _ g12 nl.1 nl.2
    refine ⟨fun σ' H' => H' = H3 ∧ ∃ p xs, σ' = [some (.str t), some (.ref l), some (.ref p)] ∧ partsV ks ws = some xs ∧ H3 p = some (.lst xs), ?_, ?_⟩
    · refine ⟨_, rfl, rfl, _, rfl, ?_⟩
      rcases hv with ⟨e, rfl⟩ | ⟨p, xs, e, rfl, gp⟩
      · exact iteT' rfl (q .non H3 k03 t3 (.inl ⟨by rw [er2, e]; rfl, rfl⟩))
      · exact iteF' rfl ⟨rfl, p, xs, rfl, e, gp⟩
    rintro _ H3 ⟨rfl, p, xs, rfl, e, gp⟩
    have hx : xs.length ≤ 100 := by
      unfold partsV at e
      split at e
      · rename_i hh
        rw [← Option.some.inj e, partsL_len hh.1]
        exact form_len e1
      · cases e
    refine ⟨_, rfl, l, _, _, _, rfl, rfl, SqL.of g13, atI_nat (j := 0) rfl, _, rfl, p, xs, rfl, SqL.of gp, (by simp only [List.append_nil, List.length_cons, List.length_append, List.length_nil]; omega), fun tt htt => ?_⟩
    rw [List.append_nil]
    have s4 := same_new (o := .tup (.str wd :: xs)) htt
    exact q (.ref tt) _ (k03.trans (K2.of s4)) (t3.same s4) (.inr ⟨tt, _, by rw [er2, e]; rfl, rfl, upd_same⟩)
end
end U

set_option Elab.async false
set_option maxRecDepth 100000
set_option linter.all false
set_option maxHeartbeats 4000000
namespace U
open PySem L2 TL Rl Tb
/-! ### the law's numbers -/
structure Dw (H H' : Hp) (p : Addr) (d c n : Int) : Prop where
  src : H' p = some (srcO d c n)
  sb : Sb d c n
  k : ∀ b o, H b = some o → b ≠ p → H' b = some o
theorem Dw.draw {H H' : Hp} {p : Addr} {d c n d' n' : Int} (x : Dw H H' p d c n) (s : Sb d' c n') : Dw H (upd H' p (srcO d' c n')) p d' c n' := ⟨upd_same, s, fun b o e hb => by rw [upd_ne hb]; exact x.k b o e hb⟩
theorem Dw.new {H H' : Hp} {p l : Addr} {d c n : Int} {o : HO} (x : Dw H H' p d c n) (h : H' l = none) : Dw H (upd H' l o) p d c n := ⟨by rw [upd_ne (ne_of_none x.src h)]; exact x.src, x.sb, fun b o e hb => by rw [upd_ne (ne_of_none (x.k b o e hb) h)]; exact x.k b o e hb⟩
theorem Dw.trans {H H1 H2 : Hp} {p : Addr} {d c n d' n' : Int} (x : Dw H H1 p d c n) (y : Dw H1 H2 p d' c n') : Dw H H2 p d' c n' := ⟨y.src, y.sb, fun b o e hb => y.k b o (x.k b o e hb) hb⟩
theorem Dw.refl {H : Hp} {p : Addr} {d c n : Int} (h : H p = some (srcO d c n)) (s : Sb d c n) : Dw H H p d c n := ⟨h, s, fun _ _ e _ => e⟩
theorem log_small {m : Int} (h0 : 0 < m) (h : m ≤ 1000000000) : m.natAbs.log2 < 9000 := by
  refine Nat.lt_of_lt_of_le (m := 40) ?_ (by decide)
  rw [Nat.log2_lt (by omega)]
  have e : (2 : Nat) ^ 40 = 1099511627776 := by decide
  rw [e]; omega
def spGreat : Sp := fun vs H Q _ => ∃ (p : Addr) (d c n : Int), vs = [.ref p] ∧ H p = some (srcO d c n) ∧ Sb d c n ∧ n ≤ 90000 ∧ ∀ d' r H', 0 ≤ r → r < 10 ^ 60 → Dw H H' p d' c (n + 8) → Q (.int r) H'
def spNumber : Sp := fun vs H Q _ => ∃ (p : Addr) (d c n : Int), vs = [.ref p] ∧ H p = some (srcO d c n) ∧ Sb d c n ∧ n ≤ 80000 ∧ ∀ d' n' r H', n' ≤ n + 9 → -(10 ^ 60) < r → r < 10 ^ 60 → Dw H H' p d' c n' → Q (.int r) H'
section
variable {P : Program} {w : World} {K : PySem.W.Frag} {mg : Str → Option Value} {base : Heap}
theorem scGr : FnScope ["_law_source_here", "_law_made", "_law_k"] ["_law_source_here"] (defScope sGreat) := ⟨rfl, rfl, rfl, by decide +kernel, rfl, by decide +kernel, by decide +kernel⟩
theorem ok_great {f fD : Addr} {fd fdD : FuncData} (F : Fun K "_law_great" "_law_great" sGreat f fd) (G : Glb mg) (GD : FnOk P w K mg base CX0 1 fD fdD ["_law_source_here", "_law_many"] spDraw) (mgD : mg "_law_draw" = some (.ref fD)) (kpD : PySem.W.keepIn K (.ref fD) = true) (bD : Binds K fdD ["_law_source_here", "_law_many"] []) : FnOk P w K mg base CX0 2 f fd ["_law_source_here"] spGreat := by
  refine F.ok scGr (fun vs H Q E h => ?_) (fun cdv A outer s H vs Q E hr h => ?_)
  · obtain ⟨p, d, c, n, rfl, _⟩ := h
    rfl
  · obtain ⟨p, d, c, n, rfl, hp, sb, hn, q⟩ := h
    have hr1 : Room 1 _ := hr
    refine ⟨_, (pss_cons (ps_set (i := 1) scGr.nd rfl (Or.inl rfl) pe_int)
      (pss_cut (ps_for PassesOwn.never rfl (pi_range1 rfl G.range (pa_cons pe_int pa_nil)) (pg_name (i := 2) scGr.nd rfl (Or.inl rfl)) (pss_one (ps_set (i := 1) scGr.nd rfl (Or.inl rfl) (pe_op op_add (pe_op op_mul (pv 1) (pe_op op_pow pe_int pe_int)) (pe_call GD hr1 (by rfl) mgD kpD bD .nil pass0 (pa_cons (pv 0) (pa_cons (pe_op op_pow pe_int pe_int) pa_nil)))))))
      (pss_one (ps_ret (pe_op op_mod (pv 1) (pe_op op_pow pe_int pe_int)))))), ?_⟩
    refine ⟨fun σ' H' => ∃ (v2 : Option V) (r : Int) (d' : Int), σ' = [some (.ref p), some (.int r), v2] ∧ 0 ≤ r ∧ Dw H H' p d' c (n + 8), ?_, ?_⟩
    · refine ⟨8, rfl, by decide, by decide, for_range (lo := 0) (n := 8) (fun i σ H' => ∃ (v2 : Option V) (r : Int) (d' : Int), σ = [some (.ref p), some (.int r), v2] ∧ 0 ≤ r ∧ Dw H H' p d' c (n + i)) ?_ ?_ ?_⟩
      · exact ⟨none, 0, d, rfl, by decide, by rw [show n + ((0 : Nat) : Int) = n by omega]; exact Dw.refl hp sb⟩
      · rintro i _ H2 hi ⟨v2, r, d', rfl, r0, x⟩
        have pw : (10 : Int) ^ (8 : Int).toNat = 100000000 := by decide +kernel
        refine ⟨_, rfl, _, _, rfl, rfl, ⟨by decide, by decide, by decide⟩, _, _, rfl, rfl, .inr (by rw [pw]; exact ⟨by decide, by decide⟩), _, rfl, _, _, rfl, rfl, ⟨by decide, by decide, by decide⟩, p, d', c, n + i, _, rfl, x.src, x.sb, by omega, (by rw [pw]; decide), log_small (by rw [pw]; decide) (by rw [pw]; decide), fun d2 r2 y1 y2 sb2 => ⟨_, _, rfl, rfl, ?_⟩⟩
        have x2 := x.draw sb2
        have en : n + (i : Int) + 1 = n + ((i + 1 : Nat) : Int) := by omega
        refine ⟨_, _, d2, rfl, ?_, ⟨x2.src.trans (by rw [en]), by rw [← en]; exact sb2, x2.k⟩⟩
        exact Int.add_nonneg (Int.mul_nonneg r0 (by rw [pw]; decide)) y1
      · rintro _ H2 ⟨v2, r, d', rfl, r0, x⟩
        exact ⟨v2, r, d', rfl, r0, x⟩
    rintro _ H2 ⟨v2, r, d', rfl, r0, x⟩
    have pw : (0 : Int) < (10 : Int) ^ (60 : Int).toNat := by decide +kernel
    refine ⟨_, rfl, _, _, rfl, rfl, ⟨by decide, by decide, by decide⟩, _, _, rfl, rfl, pw, q d' _ H2 (Int.emod_nonneg _ (Int.ne_of_gt pw)) (Int.emod_lt_of_pos _ pw) x⟩
theorem scNo : FnScope ["_law_source_here", "_law_way"] ["_law_source_here"] (defScope sNumber) := ⟨rfl, rfl, rfl, by decide +kernel, rfl, by decide +kernel, by decide +kernel⟩
theorem ok_number {f fD fGr : Addr} {fd fdD fdGr : FuncData} (F : Fun K "_law_number" "_law_number" sNumber f fd) (GD : FnOk P w K mg base CX0 1 fD fdD ["_law_source_here", "_law_many"] spDraw) (mgD : mg "_law_draw" = some (.ref fD)) (kpD : PySem.W.keepIn K (.ref fD) = true) (bD : Binds K fdD ["_law_source_here", "_law_many"] [])
    (GGr : FnOk P w K mg base CX0 2 fGr fdGr ["_law_source_here"] spGreat) (mgGr : mg "_law_great" = some (.ref fGr)) (kpGr : PySem.W.keepIn K (.ref fGr) = true) (bGr : Binds K fdGr ["_law_source_here"] []) : FnOk P w K mg base CX0 3 f fd ["_law_source_here"] spNumber := by
  refine F.ok scNo (fun vs H Q E h => ?_) (fun cdv A outer s H vs Q E hr h => ?_)
  · obtain ⟨p, d, c, n, rfl, _⟩ := h
    rfl
  · obtain ⟨p, d, c, n, rfl, hp, sb, hn, q⟩ := h
    have hr2 : Room 2 _ := hr
    have hr1 : Room 1 _ := hr.mono (by decide)
    refine ⟨_, (pss_cons (ps_set (i := 1) scNo.nd rfl (Or.inl rfl) (pe_call GD hr1 (by rfl) mgD kpD bD .nil pass0 (pa_cons (pv 0) (pa_cons pe_int pa_nil))))
      (pss_cut (ps_if (pt_cmpR op_lt (pv 1) pe_int (nomark _)) (pss_one (ps_ret (pe_op op_sub (pe_call GD hr1 (by rfl) mgD kpD bD .nil pass0 (pa_cons (pv 0) (pa_cons pe_int pa_nil))) pe_int))) pss_nil)
      (pss_one (ps_ret (pe_op op_mul (pe_call GGr hr2 (by rfl) mgGr kpGr bGr .nil pass0 (pa_cons (pv 0) pa_nil)) (pe_op op_sub pe_int (pe_op op_mul pe_int (pv 1)))))))), ?_⟩
    refine ⟨_, rfl, p, d, c, n, 6, rfl, hp, sb, by omega, by decide, log_small (by decide) (by decide), fun d1 wy y1 y2 sb1 => ?_⟩
    have x1 := (Dw.refl hp sb).draw sb1
    generalize upd H p (srcO d1 c (n + 1)) = H1 at x1
    refine ⟨fun σ' H' => σ' = [some (.ref p), some (.int wy)] ∧ H' = H1 ∧ 4 ≤ wy, ?_, ?_⟩
    · refine ⟨_, rfl, _, _, rfl, rfl, _, rfl, ?_⟩
      by_cases h4 : wy < 4
      · refine iteT' (decide_eq_true h4) ?_
        refine ⟨_, rfl, p, d1, c, n + 1, 25, rfl, x1.src, x1.sb, by omega, by decide, log_small (by decide) (by decide), fun d2 r2 z1 z2 sb2 => ⟨_, _, rfl, rfl, ?_⟩⟩
        exact q d2 (n + 1 + 1) _ _ (by omega) (by show -(10 ^ 60 : Int) < r2 - 5; omega) (by show r2 - 5 < (10 ^ 60 : Int); omega) (x1.draw sb2)
      · exact iteF' (decide_eq_false h4) ⟨rfl, rfl, by omega⟩
    rintro _ H2 ⟨rfl, rfl, h4⟩
    refine ⟨_, rfl, p, d1, c, n + 1, rfl, x1.src, x1.sb, by omega, fun d2 r H' r0 r1 x2 => ?_⟩
    have hw : wy = 4 ∨ wy = 5 := by
      rcases Int.lt_or_le wy 5 with h5 | h5
      · exact Or.inl (by omega)
      · exact Or.inr (by omega)
    refine ⟨_, rfl, _, _, rfl, rfl, .inl ⟨by decide, by decide⟩, _, _, rfl, rfl, _, _, rfl, rfl, .inr ?_, ?_⟩
    · rcases hw with rfl | rfl <;> exact ⟨by decide, by decide⟩
    · rcases hw with rfl | rfl
      · exact q d2 _ _ H' (by omega) (by show -(10 ^ 60 : Int) < r * (9 - 2 * 4); omega) (by show r * (9 - 2 * 4) < (10 ^ 60 : Int); omega) (x1.trans x2)
      · exact q d2 _ _ H' (by omega) (by show -(10 ^ 60 : Int) < r * (9 - 2 * 5); omega) (by show r * (9 - 2 * 5) < (10 ^ 60 : Int); omega) (x1.trans x2)
end
end U

set_option Elab.async false
set_option maxRecDepth 100000
set_option linter.all false
set_option maxHeartbeats 8000000
namespace Tb
open PySem PySem.Spec PyProof.Rows L2
section
variable {X : Cx}
/-- isinstance(x, c), c a built-in class -/
theorem call_isi : CallR X (.builtin "isinstance") (fun xs H Q => ∃ (x : V) (t : Value) (c : String) (b : Bool), xs = [x, .ty c] ∧ TyOf X.K H x t ∧ PySem.W.kitOne X.K t (.type c) = some b ∧ Q (.bl b) H) := by
  intro pins s σ H xs us Q I r h
  obtain ⟨x, t, c, b, rfl, ty, e, q⟩ := h
  obtain ⟨u, v, rfl, rx, rv⟩ := vals2 r
  cases rv
  exact isinst_ok I rx ty e fun tk => ⟨.bl b, H, I.tok tk, rfl, q⟩
/-- str(x), x a whole number or a text -/
theorem call_strSI : CallR X (.type "str") (fun xs H Q => (∃ i, xs = [.int i] ∧ i.natAbs.log2 < 1920 ∧ Q (.str (toString i)) H) ∨ ∃ t, xs = [.str t] ∧ Q (.str t) H) := by
  intro pins s σ H xs us Q I r h
  rcases h with ⟨i, rfl, hz, q⟩ | ⟨t, rfl, q⟩
  · obtain ⟨u, rfl, k, rfl⟩ := vals1 r
    exact PySem.P.str_of_int hz ⟨.str _, H, I.tok _, ⟨_, rfl⟩, q⟩
  · obtain ⟨u, rfl, k, rfl⟩ := vals1 r
    exact PySem.P.str_of_str ⟨.str t, H, I, ⟨k, rfl⟩, q⟩
end
/-- for c in text -/
theorem for_str {z : Str} {g : TG} {tb : TS} {D : Ends} {σ : L2.St} {H : Hp} (Pv : Nat → L2.St → Hp → Prop) (h0 : Pv 0 σ H)
    (hs : ∀ i c σ H, z.cps.toList[i]? = some c → Pv i σ H → g (.str ⟨#[c]⟩) σ H fun σ2 H2 => tb { D with nx := Pv (i + 1), ct := Pv (i + 1), bk := D.nx } σ2 H2) (hd : ∀ σ H, Pv z.cps.toList.length σ H → D.nx σ H) :
    ∃ W : Nat → Nat → L2.St → Hp → Prop, (∃ m, W 0 m σ H) ∧ ∀ i m σ H, W i m σ H →
      ((Its z).stop i H ∧ D.nx σ H) ∨ ((Its z).go i H ∧ ∃ N : L2.St → Hp → Prop, (∀ σ' H', N σ' H' → ∃ m', m' < m ∧ W (i + 1) m' σ' H') ∧ ∀ x H', (Its z).yld i H x H' → g x σ H' fun σ2 H2 => tb { D with nx := N, ct := N, bk := D.nx } σ2 H2) := by
  refine ⟨fun i m σ H => m = z.cps.size - i ∧ i ≤ z.cps.size ∧ Pv i σ H, ⟨z.cps.size, by simp, Nat.zero_le _, h0⟩, ?_⟩
  rintro i m σ H ⟨rfl, hi, p⟩
  by_cases hlt : i < z.cps.size
  · refine .inr ⟨hlt, Pv (i + 1), fun σ' H' p' => ⟨z.cps.size - (i + 1), by omega, rfl, hlt, p'⟩, fun x H' y => ?_⟩
    obtain ⟨e, c, hc, ex⟩ := y
    subst e ex
    exact hs i c σ _ (by rw [Array.getElem?_toList]; exact hc) p
  · have e : i = z.cps.size := by omega
    subst e
    exact .inl ⟨Nat.le_refl _, hd σ H (by rw [Array.length_toList]; exact p)⟩
end Tb

set_option Elab.async false
set_option maxRecDepth 100000
set_option linter.all false
set_option maxHeartbeats 8000000
namespace U
open PySem L2 TL Rl Tb
/-! ### the law's rows -/
theorem Dw.set {H H' : Hp} {p l : Addr} {d c n : Int} {o : HO} (x : Dw H H' p d c n) (h : H l = none) (ne : l ≠ p) : Dw H (upd H' l o) p d c n := ⟨by rw [upd_ne ne.symm]; exact x.src, x.sb, fun b o e hb => by rw [upd_ne (ne_of_none e h)]; exact x.k b o e hb⟩
theorem Dw.free {H H' : Hp} {p l : Addr} {d c n : Int} (x : Dw H H' p d c n) (h : H' l = none) (ne : l ≠ p) : H l = none := by
  cases e : H l with
  | none => rfl
  | some o => rw [x.k l o e ne] at h; cases h
theorem letter_at {i : Int} (h0 : 0 ≤ i) (h1 : i < 26) : ∃ c, atI letters.cps.toList i = some c ∧ 97 ≤ c ∧ c ≤ 122 := by
  obtain ⟨k, rfl⟩ := Int.eq_ofNat_of_zero_le h0
  have hk : k < 26 := by omega
  have e : letters.cps.toList = (List.range 26).map (97 + ·) := by decide +kernel
  refine ⟨97 + k, atI_nat ?_, by omega, by omega⟩
  rw [e, List.getElem?_map, List.getElem?_range hk]; rfl
theorem joined : ∀ (ys : List Str), (∀ y ∈ ys, ∃ c, y = ⟨#[c]⟩ ∧ 97 ≤ c ∧ c ≤ 122) → (joinL [] (ys.map tl)).length = ys.length ∧ ∀ c ∈ joinL [] (ys.map tl), 97 ≤ c ∧ c ≤ 122
  | [], _ => ⟨rfl, fun _ z => nomatch z⟩
  | [y], h => by
    obtain ⟨c, rfl, hc⟩ := h y (List.mem_singleton.mpr rfl)
    refine ⟨rfl, fun d hd => ?_⟩
    rw [List.mem_singleton.mp (show d ∈ [c] from hd)]; exact hc
  | y :: z :: r, h => by
    obtain ⟨c, rfl, hc⟩ := h y (List.mem_cons_self ..)
    obtain ⟨a, b⟩ := joined (z :: r) fun x hx => h x (List.mem_cons_of_mem _ hx)
    have e : joinL [] ((⟨#[c]⟩ :: z :: r).map tl) = c :: joinL [] ((z :: r).map tl) := rfl
    rw [e]
    refine ⟨by rw [List.length_cons, a]; rfl, fun d hd => ?_⟩
    rcases List.mem_cons.mp hd with rfl | hd
    · exact hc
    · exact b d hd
theorem name_of {ys : List Str} (h1 : 1 ≤ ys.length) (h8 : ys.length ≤ 8) (h : ∀ y ∈ ys, ∃ c, y = ⟨#[c]⟩ ∧ 97 ≤ c ∧ c ≤ 122) : isName (Txt.join "" ys) = true := by
  obtain ⟨a, b⟩ := joined ys h
  have e : tl (Txt.join "" ys) = joinL [] (ys.map tl) := by rw [join_eq, tl_join]; rfl
  rw [isName_iff, len_tl, e, a]
  exact ⟨h1, h8, b⟩
def spName : Sp := fun vs H Q _ => ∃ (p : Addr) (d c n : Int), vs = [.ref p] ∧ H p = some (srcO d c n) ∧ Sb d c n ∧ n ≤ 80000 ∧ ∀ d' n' s H', n' ≤ n + 9 → isName s = true → Dw H H' p d' c n' → Q (.str s) H'
/-- the law's letters of a word's parts -/
def formsL : List (Str × Str) := [("set", "rn"), ("add", "rnnn"), ("cas", "rnnn"), ("swap", "rnnn"), ("take", "rn"), ("if", "rnn"), ("load", "r"), ("wait", "rnnnn"), ("still", "rnnn"), ("wake", "rn"), ("move", "rrnn")]
def lt : Nat → Pt → Prop
  | c, .nm _ => c = 114
  | c, .nu _ => c = 110
def kf : List Str → List Nat → Bool
  | [], [] => true
  | k :: ks, c :: cs => ((c == 114 && k == "room") || (c == 110 && !(k == "room") && !(k == "key") && !(k == "guest"))) && kf ks cs
  | _, _ => false
theorem kf_all : (formsL.all fun p => (match formOf p.1 with | some ks => kf ks (tl p.2) | none => false) && isName p.1 && decide ((tl p.2).length ≤ 5) && p.2.cps.all (· < 128)) = true := by decide +kernel
structure RowOk (w fs : Str) (ps : List Pt) : Prop where
  wd : (w, fs) ∈ formsL
  lt : Paired lt (tl fs) ps
  ok : ∀ p ∈ ps, p.ok
theorem RowOk.form {w fs : Str} (h : (w, fs) ∈ formsL) : isName w = true ∧ (tl fs).length ≤ 5 ∧ fs.cps.all (· < 128) = true ∧ ∃ ks, formOf w = some ks ∧ kf ks (tl fs) = true := by
  have := List.all_eq_true.mp kf_all _ h
  simp only [Bool.and_eq_true, decide_eq_true_eq] at this
  obtain ⟨⟨⟨a, b⟩, c⟩, d⟩ := this
  refine ⟨b, c, d, ?_⟩
  cases e : formOf w with
  | none => rw [e] at a; cases a
  | some ks => rw [e] at a; exact ⟨ks, rfl, a⟩
theorem paired_length {α β : Type} {F : α → β → Prop} : ∀ {xs : List α} {ys : List β}, Paired F xs ys → xs.length = ys.length
  | _, _, .nil => rfl
  | _, _, .cons _ t => congrArg (· + 1) (paired_length t)
theorem RowOk.len {w fs : Str} {ps : List Pt} (r : RowOk w fs ps) : ps.length ≤ 5 := by
  rw [← paired_length r.lt]; exact (RowOk.form r.wd).2.1
theorem RowOk.all {w fs : Str} {ps : List Pt} (r : RowOk w fs ps) : ∀ p ∈ Pt.nm w :: ps, p.ok := fun p hp => by
  rcases List.mem_cons.mp hp with rfl | hp
  · exact (RowOk.form r.wd).1
  · exact r.ok p hp
theorem sum_len : ∀ {ps : List Pt}, (∀ p ∈ ps, p.ok) → ((ps.map Pt.s).map (·.length)).sum ≤ 61 * ps.length
  | [], _ => Nat.le_refl _
  | p :: ps, o => by
    have a := sum_len (ps := ps) fun q hq => o q (List.mem_cons_of_mem _ hq)
    have b := Pt.len (o p (List.mem_cons_self ..))
    simp only [List.map_cons, List.sum_cons, List.length_cons]
    omega
theorem join_small : ∀ {ys : List Str}, (Txt.join " " ys).length ≤ (ys.map (·.length)).sum + ys.length := by
  intro ys
  rw [len_tl, join_eq, tl_join, tl_blank]
  have : ∀ ys : List Str, (joinL [32] (ys.map tl)).length ≤ (ys.map (·.length)).sum + ys.length := by
    intro ys
    induction ys with
    | nil => exact Nat.le_refl _
    | cons y r ih =>
      cases r with
      | nil =>
        show (tl y).length ≤ _
        rw [← len_tl]; simp
      | cons z r =>
        show (tl y ++ ([32] ++ joinL [32] ((z :: r).map tl))).length ≤ _
        rw [List.length_append, List.length_append, ← len_tl]
        simp only [List.map_cons, List.sum_cons, List.length_cons, List.length_nil] at ih ⊢
        omega
  exact this ys
def spForm : Sp := fun vs H Q _ => ∃ w fs : Str, vs = [.str w] ∧ (w, fs) ∈ formsL ∧ ∀ H', Same H H' → Q (.str fs) H'
def spRowL : Sp := fun vs H Q _ => ∃ (p : Addr) (d c n : Int), vs = [.ref p] ∧ H p = some (srcO d c n) ∧ Sb d c n ∧ n ≤ 70000 ∧
  ∀ d' n' a w fs ps H', n' ≤ n + 100 → RowOk w fs ps → Dw H H' p d' c n' → H' a = some (.tup ((Pt.nm w :: ps).map Pt.v)) → Q (.ref a) H'
def spText (K : PySem.W.Frag) : Sp := fun vs H Q _ => ∃ (a : Addr) (ps : List Pt), vs = [.ref a] ∧ SqT K H a (ps.map Pt.v) ∧ (∀ p ∈ ps, p.ok) ∧ ps.length ≤ 8 ∧ ∀ H', Same H H' → Q (.str (Txt.join " " (ps.map Pt.s))) H'
def spWholeN : Sp := fun vs H Q _ => ∃ n : Int, vs = [.int n] ∧ Q (.bl true) H
theorem small_log {n : Int} (h : n.natAbs < 10 ^ 60) : n.natAbs.log2 < 1920 := by
  by_cases h0 : n.natAbs = 0
  · rw [h0]; decide
  · rw [Nat.log2_lt h0]
    refine Nat.lt_of_lt_of_le h ?_
    refine Nat.le_trans ?_ (Nat.pow_le_pow_right (by decide) (show 200 ≤ 1920 by decide))
    decide +kernel
end U

set_option Elab.async false
set_option maxRecDepth 100000
set_option linter.all false
set_option maxHeartbeats 8000000
namespace U
open PySem L2 TL Rl Tb
theorem one_of {c k : Nat} {x : Str} (h : tl x = [k]) : (V.str (⟨#[c]⟩ : Str) = V.str x) ↔ c = k := by
  constructor
  · intro e
    injection e with e
    have := congrArg tl e
    rw [h] at this
    injection this
  · rintro rfl
    exact congrArg V.str (ext_tl (by rw [h]))
theorem tl_r : tl ("r" : Str) = [114] := by decide +kernel
theorem tl_n : tl ("n" : Str) = [110] := by decide +kernel
theorem kf_mem : ∀ {ks : List Str} {cs : List Nat}, kf ks cs = true → ∀ c ∈ cs, c = 114 ∨ c = 110
  | [], [], _, _, hc => nomatch hc
  | k :: ks, c :: cs, h, d, hd => by
    have h : (((c == 114 && k == "room") || (c == 110 && !(k == "room") && !(k == "key") && !(k == "guest"))) && kf ks cs) = true := h
    rw [Bool.and_eq_true] at h
    rcases List.mem_cons.mp hd with rfl | hd
    · have h1 := h.1
      simp only [Bool.or_eq_true, Bool.and_eq_true, beq_iff_eq, Bool.not_eq_true', beq_eq_false_iff_ne] at h1
      rcases h1 with h1 | h1
      · exact .inl h1.1
      · exact .inr h1.1.1.1
    · exact kf_mem h.2 d hd
  | [], _ :: _, h, _, _ => nomatch h
  | _ :: _, [], h, _, _ => nomatch h
theorem paired_add {α β : Type} {R : α → β → Prop} {a : α} {b : β} : ∀ {xs : List α} {ys : List β}, Paired R xs ys → R a b → Paired R (xs ++ [a]) (ys ++ [b])
  | _, _, .nil, h => .cons h .nil
  | _, _, .cons r t, h => .cons r (paired_add t h)
theorem word_at {r : Int} (h0 : 0 ≤ r) (h1 : r < 11) : ∃ w fs, (w, fs) ∈ formsL ∧ atI (formsL.map fun p => V.str p.1) r = some (.str w) := by
  obtain ⟨k, rfl⟩ := Int.eq_ofNat_of_zero_le h0
  have hk : k < formsL.length := by show k < 11; omega
  refine ⟨(formsL[k]).1, (formsL[k]).2, List.getElem_mem hk, atI_nat ?_⟩
  rw [List.getElem?_map, List.getElem?_eq_getElem hk]; rfl
theorem Dw.sm {H H1 H2 : Hp} {p : Addr} {d c n : Int} (x : Dw H H1 p d c n) (s : Same H1 H2) : Dw H H2 p d c n := ⟨s _ _ x.src, x.sb, fun b o e hb => s _ _ (x.k b o e hb)⟩
end U

set_option Elab.async false
set_option maxRecDepth 100000
set_option linter.all false
namespace U
open PySem L2 TL Rl Tb
theorem sameNew {H : Hp} {a : Addr} {o : HO} (h : H a = none) : Same H (upd H a o) := fun b u e => by rw [upd_ne (ne_of_none e h)]; exact e
theorem SqT.same {K : PySem.W.Frag} {H H' : Hp} {a : Addr} {xs : List V} (s : Same H H') (h : SqT K H a xs) : SqT K H' a xs := by
  rcases h with (h | ⟨u, h⟩) | h
  · exact .inl (.inl (s _ _ h))
  · exact .inl (.inr ⟨u, s _ _ h⟩)
  · exact .inr h
end U

set_option Elab.async false
set_option maxRecDepth 100000
set_option linter.all false
set_option maxHeartbeats 8000000
namespace Tb
open PySem PySem.Spec PyProof.Rows L2
/-! ### displayed lists and dicts of written texts, over variables: the elaborator sees no long term -/
abbrev kE (x : Str) (j : Nat) (p : Pos) : Expr := .Constant (.str x) j p
section
variable {X : Cx}
def tStrs (xs : List Str) : TE := fun _ H Q => xs.length ≤ sizeLine ∧ ∀ l, H l = none → Q (.ref l) (upd H l (.lst (xs.map V.str)))
theorem pa_strs : ∀ ps : List (Str × Nat × Pos), PA X (ps.map fun p => kE p.1 p.2.1 p.2.2) (fun _ H Q => Q (ps.map fun p => V.str p.1) H)
  | [] => pa_nil
  | p :: ps => by
    have h := pa_cons (X := X) (pe_str (x := p.1) (j := p.2.1) (pos := p.2.2)) (pa_strs ps)
    exact h
theorem pe_strs (ps : List (Str × Nat × Pos)) {pos : Pos} : PE X (.List (ps.map fun p => kE p.1 p.2.1 p.2.2) pos) (tStrs (ps.map (·.1))) := by
  intro pins s σ H Q I h
  refine pe_lst (pa_strs ps) pins s σ H Q I ⟨by have := h.1; rw [List.length_map] at this ⊢; exact this, fun l hl => ?_⟩
  have := h.2 l hl
  rw [List.map_map] at this
  exact this
theorem pe_strs11 {x1 x2 x3 x4 x5 x6 x7 x8 x9 x10 x11 : Str} {j1 j2 j3 j4 j5 j6 j7 j8 j9 j10 j11 : Nat} {p1 p2 p3 p4 p5 p6 p7 p8 p9 p10 p11 pos : Pos} :
    PE X (.List [kE x1 j1 p1, kE x2 j2 p2, kE x3 j3 p3, kE x4 j4 p4, kE x5 j5 p5, kE x6 j6 p6, kE x7 j7 p7, kE x8 j8 p8, kE x9 j9 p9, kE x10 j10 p10, kE x11 j11 p11] pos) (tStrs [x1, x2, x3, x4, x5, x6, x7, x8, x9, x10, x11]) := by
  have g := fun ps => @pe_strs X ps
  revert g
  generalize @L2.PE = vPE
  intro g
  exact g [(x1, j1, p1), (x2, j2, p2), (x3, j3, p3), (x4, j4, p4), (x5, j5, p5), (x6, j6, p6), (x7, j7, p7), (x8, j8, p8), (x9, j9, p9), (x10, j10, p10), (x11, j11, p11)]
/-- a displayed dict of texts by texts -/
def tDispS (kvs : List (Str × Str)) : TE := fun _ H Q => ∀ p, H p = none → Q (.ref p) (upd H p (.dK (mergeK [] (kvs.map fun kv => ((Sum.inr kv.1 : Key), V.str kv.2)))))
abbrev DE : Type := Str × Nat × Pos × Str × Nat × Pos
theorem pps_strs {pos : Pos} : ∀ ps : List DE, PPs X pos (ps.map fun p => some (kE p.1 p.2.1 p.2.2.1)) (ps.map fun p => kE p.2.2.2.1 p.2.2.2.2.1 p.2.2.2.2.2) (ps.map fun p => (tC (.str p.1), tC (.str p.2.2.2.1)))
  | [] => pps_nil
  | p :: ps => by
    have h := pps_cons (X := X) (pos := pos) (pe_str (x := p.1) (j := p.2.1) (pos := p.2.2.1)) (pe_str (x := p.2.2.2.1) (j := p.2.2.2.2.1) (pos := p.2.2.2.2.2)) (pps_strs (pos := pos) ps)
    exact h
theorem tPairs_strs : ∀ (ps : List DE) {σ : L2.St} {H : Hp} {Q : List (V × V) → Hp → Prop}, Q (ps.map fun p => (V.str p.1, V.str p.2.2.2.1)) H → tPairs (ps.map fun p => (tC (.str p.1), tC (.str p.2.2.2.1))) σ H Q
  | [], _, _, _, q => q
  | p :: ps, σ, H, Q, q => by
    show tPairs (ps.map fun p => (tC (.str p.1), tC (.str p.2.2.2.1))) σ H fun xs H3 => Q ((V.str p.1, V.str p.2.2.2.1) :: xs) H3
    exact tPairs_strs ps q
theorem pe_dispS (ps : List DE) {pos : Pos} (h0 : ps ≠ []) (h15 : ps.length ≤ 15) : PE X (.Dict (ps.map fun p => some (kE p.1 p.2.1 p.2.2.1)) (ps.map fun p => kE p.2.2.2.1 p.2.2.2.2.1 p.2.2.2.2.2) pos) (tDispS (ps.map fun p => (p.1, p.2.2.2.1))) := by
  intro pins s σ H Q I h
  refine pe_disp (pps_strs ps) (by rw [List.all_map]; exact List.all_eq_true.mpr fun _ _ => rfl) (by rw [List.length_map, List.length_map]) (fun z => h0 (List.map_eq_nil_iff.mp z)) (by rw [List.length_map]; exact h15) pins s σ H Q I fun p hp => ?_
  refine tPairs_strs ps ⟨upd_same, ps.map fun p => ((Sum.inr p.1 : Key), V.str p.2.2.2.1), ?_, by rw [List.length_map]; exact h15, ?_⟩
  · rw [List.map_map]; rfl
  · rw [upd_upd]
    have := h p hp
    rw [List.map_map] at this
    exact this
theorem pe_dispS7 {x1 x2 x3 x4 x5 x6 x7 y1 y2 y3 y4 y5 y6 y7 : Str} {j1 j2 j3 j4 j5 j6 j7 i1 i2 i3 i4 i5 i6 i7 : Nat} {p1 p2 p3 p4 p5 p6 p7 q1 q2 q3 q4 q5 q6 q7 pos : Pos} :
    PE X (.Dict [some (kE x1 j1 p1), some (kE x2 j2 p2), some (kE x3 j3 p3), some (kE x4 j4 p4), some (kE x5 j5 p5), some (kE x6 j6 p6), some (kE x7 j7 p7)] [kE y1 i1 q1, kE y2 i2 q2, kE y3 i3 q3, kE y4 i4 q4, kE y5 i5 q5, kE y6 i6 q6, kE y7 i7 q7] pos)
      (tDispS [(x1, y1), (x2, y2), (x3, y3), (x4, y4), (x5, y5), (x6, y6), (x7, y7)]) := by
  have g := fun ps => @pe_dispS X ps
  revert g
  generalize @L2.PE = vPE
  intro g
  exact g [(x1, j1, p1, y1, i1, q1), (x2, j2, p2, y2, i2, q2), (x3, j3, p3, y3, i3, q3), (x4, j4, p4, y4, i4, q4), (x5, j5, p5, y5, i5, q5), (x6, j6, p6, y6, i6, q6), (x7, j7, p7, y7, i7, q7)] (fun z => nomatch z) (by show 7 ≤ 15; decide)
theorem pe_dispS4 {x1 x2 x3 x4 y1 y2 y3 y4 : Str} {j1 j2 j3 j4 i1 i2 i3 i4 : Nat} {p1 p2 p3 p4 q1 q2 q3 q4 pos : Pos} :
    PE X (.Dict [some (kE x1 j1 p1), some (kE x2 j2 p2), some (kE x3 j3 p3), some (kE x4 j4 p4)] [kE y1 i1 q1, kE y2 i2 q2, kE y3 i3 q3, kE y4 i4 q4] pos) (tDispS [(x1, y1), (x2, y2), (x3, y3), (x4, y4)]) := by
  have g := fun ps => @pe_dispS X ps
  revert g
  generalize @L2.PE = vPE
  intro g
  exact g [(x1, j1, p1, y1, i1, q1), (x2, j2, p2, y2, i2, q2), (x3, j3, p3, y3, i3, q3), (x4, j4, p4, y4, i4, q4)] (fun z => nomatch z) (by show 4 ≤ 15; decide)
end
end Tb

set_option Elab.async false
set_option maxRecDepth 100000
set_option linter.all false
set_option maxHeartbeats 8000000
namespace Tb
open PySem PySem.Spec PyProof.Rows L2
/-- a comprehension over a text -/
theorem lc_str {z : Str} {g : TG} {tt : TT} {te : TE} {vs : List Nat} {σ : L2.St} {H1 : Hp} {D : Addr} {Qd : Hp → Prop} (Pv : Nat → Hp → Prop) (h0 : Pv 0 (upd H1 D (.lst [])))
    (hs : ∀ i c H, z.cps.toList[i]? = some c → Pv i H → g (.str ⟨#[c]⟩) (wipe σ vs) H fun σ2 H2 => wipe σ2 vs = wipe σ vs ∧ tt σ2 H2 fun b H3 =>
      if b = true then te σ2 H3 fun y H4 => ∃ acc, H4 D = some (.lst acc) ∧ acc.length < sizeLine ∧ Pv (i + 1) (upd H4 D (.lst (acc ++ [y]))) else Pv (i + 1) H3) (hd : ∀ H, Pv z.cps.toList.length H → Qd H) :
    ∃ W : Nat → Nat → Hp → Prop, (∃ m, W 0 m (upd H1 D (.lst []))) ∧ ∀ i m H, W i m H →
      ((Its z).stop i H ∧ Qd H) ∨ ((Its z).go i H ∧ ∃ Nx : Hp → Prop, (∀ H', Nx H' → ∃ m', m' < m ∧ W (i + 1) m' H') ∧ ∀ x H', (Its z).yld i H x H' → g x (wipe σ vs) H' fun σ2 H2 => wipe σ2 vs = wipe σ vs ∧ tt σ2 H2 fun b H3 =>
        if b = true then te σ2 H3 fun y H4 => ∃ acc, H4 D = some (.lst acc) ∧ acc.length < sizeLine ∧ Nx (upd H4 D (.lst (acc ++ [y]))) else Nx H3) := by
  refine ⟨fun i m H => m = z.cps.size - i ∧ i ≤ z.cps.size ∧ Pv i H, ⟨z.cps.size, by simp, Nat.zero_le _, h0⟩, ?_⟩
  rintro i m H ⟨rfl, hi, p⟩
  by_cases hlt : i < z.cps.size
  · refine .inr ⟨hlt, Pv (i + 1), fun H' p' => ⟨z.cps.size - (i + 1), by omega, rfl, hlt, p'⟩, fun x H' y => ?_⟩
    obtain ⟨e, c, hc, ex⟩ := y
    subst e ex
    exact hs i c _ (by rw [Array.getElem?_toList]; exact hc) p
  · have e : i = z.cps.size := by omega
    subst e
    exact .inl ⟨Nat.le_refl _, hd H (by rw [Array.length_toList]; exact p)⟩
section
variable {X : Cx}
/-- text * n -/
theorem op_repS : OpR X (binaryOp .Mult) (fun x y H Q => ∃ i n, x = .str i ∧ y = .int n ∧ MulOk i n ∧ Q (.str (Txt.mul i n)) H) := by
  intro pins s σ H x y v u Q I rx ry h
  obtain ⟨i, n, rfl, rfl, hz, q⟩ := h
  obtain ⟨t, rfl⟩ := rx
  obtain ⟨t', rfl⟩ := ry
  exact SB.mul hz fun t' tk => ⟨.str (Txt.mul i n), H, I.tok _, ⟨_, rfl⟩, q⟩
/-- xs.count(y), flat things -/
theorem mt_lcount : MtR X "list.count" (fun x xs H Q => ∃ (a : Addr) (ys : List V) (y : V), x = V.ref a ∧ xs = [y] ∧ SqL X.K H a ys ∧ flatV y = true ∧ ys.all flatV = true ∧ Q (.int ((ys.countP fun z => eqV z y : Nat) : Int)) H) := by
  intro pins s σ H x xs v us Q I rx rxs h
  obtain ⟨a, ys, y, rfl, rfl, hs, fy, fys, q⟩ := h
  cases rx
  cases rxs with
  | cons ry rt =>
    rename_i uy ut
    cases rt
    obtain ⟨its, rv, ⟨⟨cls, dd, data, sl⟩, n, ho, hc, hdn, hd⟩, hlen⟩ := I.list hs
    simp only at hc hd
    subst hc hd
    have key : ∀ {ys : List V} {its : List Value}, Vals ys its → ys.all flatV = true → its.countP (eqU y) = ys.countP fun z => eqV z y := by
      intro ys its r
      induction r with
      | nil => intro _; rfl
      | @cons z u zs us r1 _ ih =>
        intro f
        rw [List.all_cons, Bool.and_eq_true] at f
        rw [List.countP_cons, List.countP_cons, ih f.2, eqU_of r1 f.1]
    refine call_meets PySem.F.slot_list_count ⟨_, ho, rfl⟩ PySem.F.entry_list_count (PySem.F.args_list_count_2 _ _)
      (SeqAt.list_countAt a its.toArray n dd sl uy (eqU y)) ⟨ho, fun u' hu' => mem_eqAt ry fy rv fys u' (by simpa using hu'), ?_⟩
    rw [show its.toArray.toList = its from rfl, key rv fys]
    exact ⟨.int _, H, I.tok _, ⟨_, rfl⟩, q⟩
/-- displayed lists of texts -/
theorem pe_strs7 {x1 x2 x3 x4 x5 x6 x7 : Str} {j1 j2 j3 j4 j5 j6 j7 : Nat} {p1 p2 p3 p4 p5 p6 p7 pos : Pos} :
    PE X (.List [kE x1 j1 p1, kE x2 j2 p2, kE x3 j3 p3, kE x4 j4 p4, kE x5 j5 p5, kE x6 j6 p6, kE x7 j7 p7] pos) (tStrs [x1, x2, x3, x4, x5, x6, x7]) := by
  have g := fun ps => @pe_strs X ps
  revert g
  generalize @L2.PE = vPE
  intro g
  exact g [(x1, j1, p1), (x2, j2, p2), (x3, j3, p3), (x4, j4, p4), (x5, j5, p5), (x6, j6, p6), (x7, j7, p7)]
theorem pe_strs10 {x1 x2 x3 x4 x5 x6 x7 x8 x9 x10 : Str} {j1 j2 j3 j4 j5 j6 j7 j8 j9 j10 : Nat} {p1 p2 p3 p4 p5 p6 p7 p8 p9 p10 pos : Pos} :
    PE X (.List [kE x1 j1 p1, kE x2 j2 p2, kE x3 j3 p3, kE x4 j4 p4, kE x5 j5 p5, kE x6 j6 p6, kE x7 j7 p7, kE x8 j8 p8, kE x9 j9 p9, kE x10 j10 p10] pos) (tStrs [x1, x2, x3, x4, x5, x6, x7, x8, x9, x10]) := by
  have g := fun ps => @pe_strs X ps
  revert g
  generalize @L2.PE = vPE
  intro g
  exact g [(x1, j1, p1), (x2, j2, p2), (x3, j3, p3), (x4, j4, p4), (x5, j5, p5), (x6, j6, p6), (x7, j7, p7), (x8, j8, p8), (x9, j9, p9), (x10, j10, p10)]
theorem pe_strs15 {x1 x2 x3 x4 x5 x6 x7 x8 x9 x10 x11 x12 x13 x14 x15 : Str} {j1 j2 j3 j4 j5 j6 j7 j8 j9 j10 j11 j12 j13 j14 j15 : Nat} {p1 p2 p3 p4 p5 p6 p7 p8 p9 p10 p11 p12 p13 p14 p15 pos : Pos} :
    PE X (.List [kE x1 j1 p1, kE x2 j2 p2, kE x3 j3 p3, kE x4 j4 p4, kE x5 j5 p5, kE x6 j6 p6, kE x7 j7 p7, kE x8 j8 p8, kE x9 j9 p9, kE x10 j10 p10, kE x11 j11 p11, kE x12 j12 p12, kE x13 j13 p13, kE x14 j14 p14, kE x15 j15 p15] pos) (tStrs [x1, x2, x3, x4, x5, x6, x7, x8, x9, x10, x11, x12, x13, x14, x15]) := by
  have g := fun ps => @pe_strs X ps
  revert g
  generalize @L2.PE = vPE
  intro g
  exact g [(x1, j1, p1), (x2, j2, p2), (x3, j3, p3), (x4, j4, p4), (x5, j5, p5), (x6, j6, p6), (x7, j7, p7), (x8, j8, p8), (x9, j9, p9), (x10, j10, p10), (x11, j11, p11), (x12, j12, p12), (x13, j13, p13), (x14, j14, p14), (x15, j15, p15)]
end
end Tb

set_option Elab.async false
set_option maxRecDepth 100000
set_option linter.all false
set_option maxHeartbeats 8000000
namespace U
open PySem L2 TL Rl Tb Zp
theorem at_in {α : Type} {l : List α} {r : Int} (h0 : 0 ≤ r) (h1 : r < (l.length : Int)) : ∃ (j : Nat) (c : α), r = ((j : Nat) : Int) ∧ j < l.length ∧ l[j]? = some c ∧ atI l r = some c := by
  obtain ⟨k, rfl⟩ := Int.eq_ofNat_of_zero_le h0
  have hk : k < l.length := by omega
  exact ⟨k, l[k], rfl, hk, List.getElem?_eq_getElem hk, atI_nat (List.getElem?_eq_getElem hk)⟩
theorem ixN_in {n j : Nat} (h : j < n) : ixN n (j : Int) = some j := by
  unfold ixN
  rw [if_pos (by omega), if_pos (by omega)]; simp
def signs : Str := " !#&()*+,-./0123456789:;<=>?@ABCDEFGHIJKLMNOPQRSTUVWXYZ[]^_abcdefghijklmnopqrstuvwxyz{|}~\"'`$\\\n"
theorem signs_len : signs.length = 95 := by decide +kernel
def odd15 : List Str := ["-0", "007", "-01", "+1", "1_0", "abcdefghi", "aB", "", "-", "1.0", "1e3", "--1", "a1", "0x1", "None"]
def oddB : List Str := [("1" : Str) ++ Txt.mul "0" 60, Txt.mul "9" 60, ("-" : Str) ++ Txt.mul "9" 60, ("-1" : Str) ++ Txt.mul "0" 60, "0", "zzzzzzzz", "if", "move"]
theorem odd_small : ((odd15 ++ oddB).all fun s => decide (s.length ≤ 62)) = true := by decide +kernel
theorem mul60 (x : Str) (h : x.length = 1) : MulOk x 60 := by
  refine ⟨by decide, fun _ _ => ?_, fun _ _ => ?_⟩
  · rw [h]; decide
  · rw [h]; decide
theorem mul9 : (Txt.mul "9" 60 : Str).length ≤ 60 := by decide +kernel
theorem mul0 : (Txt.mul "0" 60 : Str).length ≤ 60 := by decide +kernel
@[irreducible] def tO15 : TE := tStrs odd15
theorem pe_o15 {X : Cx} {e : Expr} (h : PE X e (tStrs ["-0", "007", "-01", "+1", "1_0", "abcdefghi", "aB", "", "-", "1.0", "1e3", "--1", "a1", "0x1", "None"])) : PE X e tO15 := by unfold tO15; exact h
theorem tO15_ok {σ : L2.St} {H : Hp} {Q : VK} (q : ∀ l, H l = none → Q (.ref l) (upd H l (.lst (odd15.map V.str)))) : tO15 σ H Q := by
  unfold tO15
  exact ⟨by show 15 ≤ sizeLine; rw [sizeLine_eq]; decide, fun l hl => q l hl⟩
def spSign : Sp := fun vs H Q _ => ∃ (p : Addr) (d c n : Int), vs = [.ref p] ∧ H p = some (srcO d c n) ∧ Sb d c n ∧ n ≤ 90000 ∧ ∀ d' s H', s.length = 1 → Dw H H' p d' c (n + 1) → Q (.str s) H'
def spOdd : Sp := fun vs H Q _ => ∃ (p : Addr) (d c n : Int), vs = [.ref p] ∧ H p = some (srcO d c n) ∧ Sb d c n ∧ n ≤ 90000 ∧ ∀ d' s H', s.length ≤ 62 → Dw H H' p d' c (n + 1) → Q (.str s) H'
section
variable {P : Program} {w : World} {K : PySem.W.Frag} {mg : Str → Option Value} {base : Heap}
theorem scSi : FnScope ["_law_source_here", "_law_signs"] ["_law_source_here"] (defScope sSign) := ⟨rfl, rfl, rfl, by decide +kernel, rfl, by decide +kernel, by decide +kernel⟩
theorem ok_sign {f fD : Addr} {fd fdD : FuncData} (F : Fun K "_law_sign" "_law_sign" sSign f fd) (G : Glb mg) (GD : FnOk P w K mg base CX0 1 fD fdD ["_law_source_here", "_law_many"] spDraw) (mgD : mg "_law_draw" = some (.ref fD)) (kpD : PySem.W.keepIn K (.ref fD) = true) (bD : Binds K fdD ["_law_source_here", "_law_many"] []) : FnOk P w K mg base CX0 2 f fd ["_law_source_here"] spSign := by
  refine F.ok scSi (fun vs H Q E h => ?_) (fun cdv A outer s H vs Q E hr h => ?_)
  · obtain ⟨p, d, c, n, rfl, _⟩ := h
    rfl
  · obtain ⟨p, d, c, n, rfl, hp, sb, hn, q⟩ := h
    have hr1 : Room 1 _ := hr
    have zz : 200 < sizeLine := by rw [sizeLine_eq]; decide
    have hl : signs.length ≤ sizeLine := by rw [signs_len]; omega
    have hl2 := signs_len
    have pa_cons := @pa_cons
    have pa_nil := @pa_nil
    have pe_call := @pe_call
    have pe_callB := @pe_callB
    have pe_ix := @pe_ix
    have pe_str := @pe_str
    have ps_ret := @ps_ret
    have ps_set := @ps_set
    have pss_cons := @pss_cons
    have pss_one := @pss_one
    have pv := @pv
    revert pa_cons pa_nil pe_call pe_callB pe_ix pe_str ps_ret ps_set pss_cons pss_one pv
    generalize @L2.PS = vPS
    generalize @L2.PSs = vPSs
    generalize @L2.PE = vPE
    generalize @L2.PT = vPT
    generalize @L2.PW = vPW
    generalize @L2.PC = vPC
    generalize @L2.PA = vPA
    generalize @L2.PG = vPG
    generalize @L2.PI = vPI
    generalize @L2.PO = vPO
    generalize @L2.PTs = vPTs
    generalize @L2.PPs = vPPs
    generalize @L2.PGs = vPGs
    generalize @L2.PK = vPK
    intro pa_cons pa_nil pe_call pe_callB pe_ix pe_str ps_ret ps_set pss_cons pss_one pv
    refine ⟨_, (pss_cons (ps_set (i := 1) scSi.nd rfl (Or.inl rfl) pe_str)
      (pss_one (ps_ret (pe_ix ix_str (pv 1) (pe_call GD hr1 (by rfl) mgD kpD bD .nil pass0 (pa_cons (pv 0) (pa_cons (pe_callB call_len_str (by rfl) G.len PySem.boot_len (pa_cons (pv 1) pa_nil)) pa_nil))) (fun _ _ => rfl))))), ?_⟩
    refine ⟨_, rfl, _, rfl, _, rfl, signs, rfl, hl, p, d, c, n, ((signs.length : Nat) : Int), rfl, hp, sb, by omega, by omega, log_small (by omega) (by omega), fun d1 r y0 y1 sb1 => ?_⟩
    have x1 := (Dw.refl hp sb).draw sb1
    obtain ⟨j, ch, _, _, _, hat⟩ := at_in (l := signs.cps.toList) y0 (by rw [show signs.cps.toList.length = signs.length from Array.length_toList]; exact y1)
    exact ⟨signs, _, ch, rfl, rfl, hl, hat, q d1 _ _ rfl x1⟩
theorem scOd : FnScope ["_law_source_here", "_law_odd"] ["_law_source_here"] (defScope sOdd) := ⟨rfl, rfl, rfl, by decide +kernel, rfl, by decide +kernel, by decide +kernel⟩
theorem ok_odd {f fD : Addr} {fd fdD : FuncData} (F : Fun K "_law_odd_word" "_law_odd_word" sOdd f fd) (G : Glb mg) (GD : FnOk P w K mg base CX0 1 fD fdD ["_law_source_here", "_law_many"] spDraw) (mgD : mg "_law_draw" = some (.ref fD)) (kpD : PySem.W.keepIn K (.ref fD) = true) (bD : Binds K fdD ["_law_source_here", "_law_many"] []) : FnOk P w K mg base CX0 2 f fd ["_law_source_here"] spOdd := by
  refine F.ok scOd (fun vs H Q E h => ?_) (fun cdv A outer s H vs Q E hr h => ?_)
  · obtain ⟨p, d, c, n, rfl, _⟩ := h
    rfl
  · obtain ⟨p, d, c, n, rfl, hp, sb, hn, q⟩ := h
    have hr1 : Room 1 _ := hr
    have zz : 200 < sizeLine := by rw [sizeLine_eq]; decide
    have l9 := mul9
    have l0 := mul0
    have e1 : ("1" : Str).length = 1 := by decide +kernel
    have em : ("-" : Str).length = 1 := by decide +kernel
    have em1 : ("-1" : Str).length = 2 := by decide +kernel
    have pa_cons := @pa_cons
    have pa_nil := @pa_nil
    have pe_call := @pe_call
    have pe_callB := @pe_callB
    have pe_int := @pe_int
    have pe_ix := @pe_ix
    have pe_lst := @pe_lst
    have pe_o15 := @pe_o15
    have pe_op := @pe_op
    have pe_str := @pe_str
    have pe_strs15 := @pe_strs15
    have ps_ret := @ps_ret
    have ps_set := @ps_set
    have pss_cons := @pss_cons
    have pss_one := @pss_one
    have pv := @pv
    revert pa_cons pa_nil pe_call pe_callB pe_int pe_ix pe_lst pe_o15 pe_op pe_str pe_strs15 ps_ret ps_set pss_cons pss_one pv
    generalize @L2.PS = vPS
    generalize @L2.PSs = vPSs
    generalize @L2.PE = vPE
    generalize @L2.PT = vPT
    generalize @L2.PW = vPW
    generalize @L2.PC = vPC
    generalize @L2.PA = vPA
    generalize @L2.PG = vPG
    generalize @L2.PI = vPI
    generalize @L2.PO = vPO
    generalize @L2.PTs = vPTs
    generalize @L2.PPs = vPPs
    generalize @L2.PGs = vPGs
    generalize @L2.PK = vPK
    intro pa_cons pa_nil pe_call pe_callB pe_int pe_ix pe_lst pe_o15 pe_op pe_str pe_strs15 ps_ret ps_set pss_cons pss_one pv
    refine ⟨_, (pss_cons (ps_set (i := 1) scOd.nd rfl (Or.inl rfl) (pe_o15 pe_strs15))
      (pss_cons (ps_set (i := 1) scOd.nd rfl (Or.inl rfl) (pe_op op_cat (pv 1) (pe_lst (pa_cons (pe_op op_add_str pe_str (pe_op op_repS pe_str pe_int)) (pa_cons (pe_op op_repS pe_str pe_int) (pa_cons (pe_op op_add_str pe_str (pe_op op_repS pe_str pe_int)) (pa_cons (pe_op op_add_str pe_str (pe_op op_repS pe_str pe_int)) (pa_cons pe_str (pa_cons pe_str (pa_cons pe_str (pa_cons pe_str pa_nil)))))))))))
      (pss_one (ps_ret (pe_ix ix_list (pv 1) (pe_call GD hr1 (by rfl) mgD kpD bD .nil pass0 (pa_cons (pv 0) (pa_cons (pe_callB call_len_seq (by rfl) G.len PySem.boot_len (pa_cons (pv 1) pa_nil)) pa_nil))) (fun _ _ => rfl)))))), ?_⟩
    refine tO15_ok fun l hl => ?_
    have x0 := (Dw.refl hp sb).new (o := .lst (odd15.map V.str)) hl
    have g0 : (upd H l (.lst (odd15.map V.str))) l = some (.lst (odd15.map V.str)) := upd_same
    have nl : l ≠ p := (ne_of_none hp hl).symm
    generalize upd H l (.lst (odd15.map V.str)) = H1 at x0 g0
    refine ⟨_, rfl, _, _, rfl, rfl, mul60 _ (by decide +kernel), _, _, rfl, rfl, (by rw [e1]; omega), _, _, rfl, rfl, mul60 _ (by decide +kernel), _, _, rfl, rfl, mul60 _ (by decide +kernel), _, _, rfl, rfl, (by rw [em]; omega), _, _, rfl, rfl, mul60 _ (by decide +kernel), _, _, rfl, rfl, (by rw [em1]; omega), (by show 8 ≤ sizeLine; omega), fun l2 hl2 => ?_⟩
    rw [show ([.str (("1" : Str) ++ Txt.mul "0" 60), .str (Txt.mul "9" 60), .str (("-" : Str) ++ Txt.mul "9" 60), .str (("-1" : Str) ++ Txt.mul "0" 60), .str "0", .str "zzzzzzzz", .str "if", .str "move"] : List V) = oddB.map V.str from rfl]
    have x1 := x0.new (o := .lst (oddB.map V.str)) hl2
    have g1 : (upd H1 l2 (.lst (oddB.map V.str))) l = some (.lst (odd15.map V.str)) := by rw [upd_ne (ne_of_none g0 hl2)]; exact g0
    have g2 : (upd H1 l2 (.lst (oddB.map V.str))) l2 = some (.lst (oddB.map V.str)) := upd_same
    refine ⟨l, l2, odd15.map V.str, oddB.map V.str, rfl, rfl, g1, g2, (by show 15 + 8 ≤ sizeLine; omega), fun m hm => ?_⟩
    generalize upd H1 l2 (.lst (oddB.map V.str)) = H2 at x1 g1 g2 hm
    rw [← List.map_append]
    have x2 := x1.new (o := .lst ((odd15 ++ oddB).map V.str)) hm
    have g3 : (upd H2 m (.lst ((odd15 ++ oddB).map V.str))) m = some (.lst ((odd15 ++ oddB).map V.str)) := upd_same
    have nm : m ≠ p := (ne_of_none x1.src hm).symm
    generalize upd H2 m (.lst ((odd15 ++ oddB).map V.str)) = H3 at x2 g3
    refine ⟨_, rfl, _, rfl, _, rfl, m, _, rfl, .inl (SqL.of g3), p, d, c, n, _, rfl, x2.src, x2.sb, by omega, (by show (0 : Int) < ((23 : Nat) : Int); decide), (by show ((23 : Nat) : Int).natAbs.log2 < 9000; exact log_small (by decide) (by decide)), fun d1 r y0 y1 sb1 => ?_⟩
    have x3 := x2.draw sb1
    obtain ⟨j, v, _, _, hj, hat⟩ := at_in (l := (odd15 ++ oddB).map V.str) y0 y1
    obtain ⟨s, hs, rfl⟩ := at_map hj
    have hz := of_decide_eq_true (List.all_eq_true.mp odd_small s (List.mem_of_getElem? hs))
    exact ⟨m, _, _, _, rfl, rfl, SqL.of (by rw [upd_ne nm]; exact g3), hat, q d1 s _ hz x3⟩
end
end U

set_option Elab.async false
set_option maxRecDepth 100000
set_option linter.all false
set_option maxHeartbeats 8000000
namespace U
open PySem L2 TL Rl Tb Zp
def cutG {α : Type} (xs : List α) (lo hi : Option Int) : List α := (xs.drop (HT.sIx xs.length 0 lo)).take (HT.sIx xs.length xs.length hi - HT.sIx xs.length 0 lo)
theorem cutV_map (ys : List Str) (lo hi : Option Int) : cutV (ys.map V.str) lo hi = (cutG ys lo hi).map V.str := by
  unfold cutV cutG
  rw [List.length_map, List.map_take, List.map_drop]
theorem cutG_mem {α : Type} {xs : List α} {lo hi : Option Int} {x : α} (h : x ∈ cutG xs lo hi) : x ∈ xs := List.mem_of_mem_drop (List.mem_of_mem_take h)
theorem cutG_len {α : Type} (xs : List α) (lo hi : Option Int) : (cutG xs lo hi).length ≤ xs.length := by
  unfold cutG
  rw [List.length_take, List.length_drop]; omega
theorem cutS_len (z : Str) (lo hi : Option Int) : (cutS z lo hi).length ≤ z.length := by
  rw [len_tl, len_tl z]
  unfold cutS
  rw [tl_mk, List.length_take, List.length_drop]
  show _ ≤ (tl z).length
  have : z.cps.toList.length = (tl z).length := rfl
  omega
/-- a list of short words -/
def Ws (n : Nat) (ys : List Str) : Prop := ys.length ≤ n ∧ ∀ y ∈ ys, y.length ≤ 62
theorem Ws.cut {n : Nat} {ys : List Str} (h : Ws n ys) (lo hi : Option Int) : Ws n (cutG ys lo hi) := ⟨Nat.le_trans (cutG_len _ _ _) h.1, fun y hy => h.2 y (cutG_mem hy)⟩
theorem Ws.app {n m : Nat} {xs ys : List Str} (h : Ws n xs) (h' : Ws m ys) : Ws (n + m) (xs ++ ys) := ⟨by rw [List.length_append]; exact Nat.add_le_add h.1 h'.1, fun y hy => (List.mem_append.mp hy).elim (h.2 y) (h'.2 y)⟩
theorem Ws.one {y : Str} (h : y.length ≤ 62) : Ws 1 [y] := ⟨Nat.le_refl _, fun z hz => by rw [List.mem_singleton.mp hz]; exact h⟩
theorem Ws.sum : ∀ {ys : List Str}, (∀ y ∈ ys, y.length ≤ 62) → (ys.map (·.length)).sum ≤ 62 * ys.length
  | [], _ => Nat.le_refl _
  | y :: ys, h => by
    have a := Ws.sum (ys := ys) fun z hz => h z (List.mem_cons_of_mem _ hz)
    have b := h y (List.mem_cons_self ..)
    simp only [List.map_cons, List.sum_cons, List.length_cons]
    omega
theorem Ws.fits {ys : List Str} (h : Ws 20 ys) : (ys.map (·.length)).sum + ys.length * (" " : Str).length ≤ 16777216 ∧ (Txt.join " " ys).length ≤ 2000 := by
  have a := Ws.sum h.2
  have b := join_small (ys := ys)
  have c := h.1
  rw [show (" " : Str).length = 1 from by decide +kernel]
  omega
theorem Ws.up {n m : Nat} {ys : List Str} (h : Ws n ys) (e : n ≤ m) : Ws m ys := ⟨Nat.le_trans h.1 e, h.2⟩
def spSpoil : Sp := fun vs H Q _ => ∃ (p : Addr) (d c n : Int) (t : Str) (ys : List Str), vs = [.ref p, .str t] ∧ H p = some (srcO d c n) ∧ Sb d c n ∧ n ≤ 70000 ∧ t.length ≤ 1000 ∧ Txt.split t " " = ys ∧ 0 < ys.length ∧ Ws 8 ys ∧
  ∀ d' n' t' H', n' ≤ n + 10 → t'.length ≤ 5000 → Dw H H' p d' c n' → Q (.str t') H'
section
variable {P : Program} {w : World} {K : PySem.W.Frag} {mg : Str → Option Value} {base : Heap}
theorem scSp : FnScope ["_law_source_here", "_law_text_here", "_law_way", "_law_at", "_law_sign_here", "_law_words_here", "_law_one", "_law_other", "_law_odd"] ["_law_source_here", "_law_text_here"] (defScope sSpoil) := ⟨rfl, rfl, rfl, by decide +kernel, rfl, by decide +kernel, by decide +kernel⟩
theorem ok_spoil {f fD fSi fOd : Addr} {fd fdD fdSi fdOd : FuncData} (F : Fun K "_law_spoilt" "_law_spoilt" sSpoil f fd) (G : Glb mg) (GD : FnOk P w K mg base CX0 1 fD fdD ["_law_source_here", "_law_many"] spDraw) (mgD : mg "_law_draw" = some (.ref fD)) (kpD : PySem.W.keepIn K (.ref fD) = true) (bD : Binds K fdD ["_law_source_here", "_law_many"] [])
    (GSi : FnOk P w K mg base CX0 2 fSi fdSi ["_law_source_here"] spSign) (mgSi : mg "_law_sign" = some (.ref fSi)) (kpSi : PySem.W.keepIn K (.ref fSi) = true) (bSi : Binds K fdSi ["_law_source_here"] [])
    (GOd : FnOk P w K mg base CX0 2 fOd fdOd ["_law_source_here"] spOdd) (mgOd : mg "_law_odd_word" = some (.ref fOd)) (kpOd : PySem.W.keepIn K (.ref fOd) = true) (bOd : Binds K fdOd ["_law_source_here"] []) :
    FnOk P w K mg base CX0 3 f fd ["_law_source_here", "_law_text_here"] spSpoil := by
  refine F.ok scSp (fun vs H Q E h => ?_) (fun cdv A outer s H vs Q E hr h => ?_)
  · obtain ⟨p, d, c, n, t, ys, rfl, _⟩ := h
    rfl
  · obtain ⟨p, d, c, n, t, ys, rfl, hp, sb, hn, ht, es, h0, hw, q⟩ := h
    have hr2 : Room 2 _ := hr
    have hr1 : Room 1 _ := hr.mono (by decide)
    have zz : 200000 < sizeLine := by rw [sizeLine_eq]; decide
    have h8 := hw.1
    have cS := fun lo hi => cutS_len t lo hi
    have pa_cons := @pa_cons
    have pa_nil := @pa_nil
    have pe_call := @pe_call
    have pe_callB := @pe_callB
    have pe_int := @pe_int
    have pe_ix := @pe_ix
    have pe_join := @pe_join
    have pe_lst := @pe_lst
    have pe_op := @pe_op
    have pe_slice := @pe_slice
    have pe_split := @pe_split
    have pe_str := @pe_str
    have pe_tup := @pe_tup
    have pg_sub := @pg_sub
    have pg_tup := @pg_tup
    have pgs_cons := @pgs_cons
    have pgs_nil := @pgs_nil
    have po_none := @po_none
    have po_some := @po_some
    have ps_asg := @ps_asg
    have ps_if := @ps_if
    have ps_ret := @ps_ret
    have ps_set := @ps_set
    have pss_cons := @pss_cons
    have pss_nil := @pss_nil
    have pss_one := @pss_one
    have pt_cmpR := @pt_cmpR
    have pv := @pv
    revert pa_cons pa_nil pe_call pe_callB pe_int pe_ix pe_join pe_lst pe_op pe_slice pe_split pe_str pe_tup pg_sub pg_tup pgs_cons pgs_nil po_none po_some ps_asg ps_if ps_ret ps_set pss_cons pss_nil pss_one pt_cmpR pv
    generalize @L2.PS = vPS
    generalize @L2.PSs = vPSs
    generalize @L2.PE = vPE
    generalize @L2.PT = vPT
    generalize @L2.PW = vPW
    generalize @L2.PC = vPC
    generalize @L2.PA = vPA
    generalize @L2.PG = vPG
    generalize @L2.PI = vPI
    generalize @L2.PO = vPO
    generalize @L2.PTs = vPTs
    generalize @L2.PPs = vPPs
    generalize @L2.PGs = vPGs
    generalize @L2.PK = vPK
    intro pa_cons pa_nil pe_call pe_callB pe_int pe_ix pe_join pe_lst pe_op pe_slice pe_split pe_str pe_tup pg_sub pg_tup pgs_cons pgs_nil po_none po_some ps_asg ps_if ps_ret ps_set pss_cons pss_nil pss_one pt_cmpR pv
    refine ⟨_, (pss_cons (ps_set (i := 2) scSp.nd rfl (Or.inl rfl) (pe_call GD hr1 (by rfl) mgD kpD bD .nil pass0 (pa_cons (pv 0) (pa_cons pe_int pa_nil))))
      (pss_cons (ps_set (i := 3) scSp.nd rfl (Or.inl rfl) (pe_call GD hr1 (by rfl) mgD kpD bD .nil pass0 (pa_cons (pv 0) (pa_cons (pe_op op_add (pe_callB call_len_str (by rfl) G.len PySem.boot_len (pa_cons (pv 1) pa_nil)) pe_int) pa_nil))))
      (pss_cons (ps_set (i := 4) scSp.nd rfl (Or.inl rfl) (pe_call GSi hr2 (by rfl) mgSi kpSi bSi .nil pass0 (pa_cons (pv 0) pa_nil)))
      (pss_cons (ps_set (i := 5) scSp.nd rfl (Or.inl rfl) (pe_split (pv 1) pe_str))
      (pss_cons (ps_set (i := 6) scSp.nd rfl (Or.inl rfl) (pe_call GD hr1 (by rfl) mgD kpD bD .nil pass0 (pa_cons (pv 0) (pa_cons (pe_callB call_len_seq (by rfl) G.len PySem.boot_len (pa_cons (pv 5) pa_nil)) pa_nil))))
      (pss_cons (ps_set (i := 7) scSp.nd rfl (Or.inl rfl) (pe_call GD hr1 (by rfl) mgD kpD bD .nil pass0 (pa_cons (pv 0) (pa_cons (pe_callB call_len_seq (by rfl) G.len PySem.boot_len (pa_cons (pv 5) pa_nil)) pa_nil))))
      (pss_cons (ps_set (i := 8) scSp.nd rfl (Or.inl rfl) (pe_call GOd hr2 (by rfl) mgOd kpOd bOd .nil pass0 (pa_cons (pv 0) pa_nil)))
      (pss_cons (ps_if (pt_cmpR op_lt (pv 2) pe_int (nomark _)) (pss_one (ps_ret (pv 1))) pss_nil)
      (pss_cons (ps_if (pt_cmpR op_lt (pv 2) pe_int (nomark _)) (pss_one (ps_ret (pe_op op_add_str (pe_op op_add_str (pe_slice sl_str (pv 1) po_none (po_some (pv 3))) (pv 4)) (pe_slice sl_str (pv 1) (po_some (pv 3)) po_none)))) pss_nil)
      (pss_cons (ps_if (pt_cmpR op_eq (pv 2) pe_int (nomark _)) (pss_one (ps_ret (pe_op op_add_str (pe_slice sl_str (pv 1) po_none (po_some (pv 3))) (pe_slice sl_str (pv 1) (po_some (pe_op op_add (pv 3) pe_int)) po_none)))) pss_nil)
      (pss_cons (ps_if (pt_cmpR op_lt (pv 2) pe_int (nomark _)) (pss_one (ps_ret (pe_op op_add_str (pe_op op_add_str (pe_slice sl_str (pv 1) po_none (po_some (pv 3))) (pv 4)) (pe_slice sl_str (pv 1) (po_some (pe_op op_add (pv 3) pe_int)) po_none)))) pss_nil)
      (pss_cons (ps_if (pt_cmpR op_eq (pv 2) pe_int (nomark _)) (pss_one (ps_ret (pe_join pe_str (pe_op op_cat (pe_slice sl_list (pv 5) po_none (po_some (pv 6))) (pe_slice sl_list (pv 5) (po_some (pe_op op_add (pv 6) pe_int)) po_none))))) pss_nil)
      (pss_cons (ps_if (pt_cmpR op_eq (pv 2) pe_int (nomark _)) (pss_one (ps_ret (pe_join pe_str (pe_op op_cat (pe_op op_cat (pe_slice sl_list (pv 5) po_none (po_some (pv 6))) (pe_lst (pa_cons (pe_ix ix_list (pv 5) (pv 7) (fun _ _ => rfl)) pa_nil))) (pe_slice sl_list (pv 5) (po_some (pv 6)) po_none))))) pss_nil)
      (pss_cons (ps_if (pt_cmpR op_eq (pv 2) pe_int (nomark _)) (pss_cons (ps_asg (pe_tup (pa_cons (pe_ix ix_list (pv 5) (pv 7) (fun _ _ => rfl)) (pa_cons (pe_ix ix_list (pv 5) (pv 6) (fun _ _ => rfl)) pa_nil))) (pg_tup rfl (pgs_cons (pg_sub (pv 5) (pv 6) set_list) (pgs_cons (pg_sub (pv 5) (pv 7) set_list) pgs_nil)))) (pss_one (ps_ret (pe_join pe_str (pv 5))))) pss_nil)
      (pss_one (ps_ret (pe_join pe_str (pe_op op_cat (pe_op op_cat (pe_slice sl_list (pv 5) po_none (po_some (pv 6))) (pe_lst (pa_cons (pv 8) pa_nil))) (pe_slice sl_list (pv 5) (po_some (pe_op op_add (pv 6) pe_int)) po_none))))))))))))))))))), ?_⟩
    refine ⟨_, rfl, p, d, c, n, 12, rfl, hp, sb, by omega, by decide, log_small (by decide) (by decide), fun d1 way w0 w1 sb1 => ?_⟩
    have x1 := (Dw.refl hp sb).draw sb1
    generalize upd H p (srcO d1 c (n + 1)) = H1 at x1
    refine ⟨_, rfl, _, rfl, t, rfl, by omega, _, _, rfl, rfl, p, d1, c, n + 1, _, rfl, x1.src, x1.sb, by omega, by omega, log_small (by omega) (by omega), fun d2 at_ a0 a1 sb2 => ?_⟩
    have x2 := x1.draw sb2
    generalize upd H1 p (srcO d2 c (n + 1 + 1)) = H2 at x2
    refine ⟨_, rfl, p, d2, c, n + 1 + 1, rfl, x2.src, x2.sb, by omega, fun d3 sg H3 hsg y3 => ?_⟩
    have x3 := x2.trans y3
    refine ⟨_, rfl, ⟨_, rfl⟩, _, _, rfl, rfl, (by decide +kernel), (by omega), fun l hl => ?_⟩
    rw [es]
    have x4 := x3.new (o := .lst (ys.map V.str)) hl
    have gl4 : (upd H3 l (.lst (ys.map V.str))) l = some (.lst (ys.map V.str)) := upd_same
    have nl : l ≠ p := (ne_of_none x3.src hl).symm
    have l0 : H l = none := x3.free hl nl
    generalize upd H3 l (.lst (ys.map V.str)) = H4 at x4 gl4
    have elen : ((ys.map V.str).length : Int) = (ys.length : Int) := by rw [List.length_map]
    refine ⟨_, rfl, _, rfl, l, _, rfl, .inl (SqL.of gl4), p, d3, c, n + 1 + 1 + 1, _, rfl, x4.src, x4.sb, by omega, (by rw [elen]; omega), (by rw [elen]; exact log_small (by omega) (by omega)), fun d5 one o0 o1 sb5 => ?_⟩
    have x5 := x4.draw sb5
    have gl5 : (upd H4 p (srcO d5 c (n + 1 + 1 + 1 + 1))) l = some (.lst (ys.map V.str)) := by rw [upd_ne nl]; exact gl4
    generalize upd H4 p (srcO d5 c (n + 1 + 1 + 1 + 1)) = H5 at x5 gl5
    refine ⟨_, rfl, _, rfl, l, _, rfl, .inl (SqL.of gl5), p, d5, c, n + 1 + 1 + 1 + 1, _, rfl, x5.src, x5.sb, by omega, (by rw [elen]; omega), (by rw [elen]; exact log_small (by omega) (by omega)), fun d6 oth t0 t1 sb6 => ?_⟩
    have x6 := x5.draw sb6
    have gl6 : (upd H5 p (srcO d6 c (n + 1 + 1 + 1 + 1 + 1))) l = some (.lst (ys.map V.str)) := by rw [upd_ne nl]; exact gl5
    generalize upd H5 p (srcO d6 c (n + 1 + 1 + 1 + 1 + 1)) = H6 at x6 gl6
    refine ⟨_, rfl, p, d6, c, n + 1 + 1 + 1 + 1 + 1, rfl, x6.src, x6.sb, by omega, fun d7 od H7 hod y7 => ?_⟩
    have x7 := x6.trans y7
    have gl := y7.k _ _ gl6 nl
    have qq : ∀ t' H', t'.length ≤ 5000 → Dw H H' p d7 c (n + 1 + 1 + 1 + 1 + 1 + 1) → Q (.str t') H' := fun t' H' => q d7 _ t' H' (by omega)
    clear q x1 x2 y3 x3 x4 x5 x6 y7 gl4 gl5 gl6
    obtain ⟨jo, vo, eo, hjo, hvo, hato⟩ := at_in (l := ys.map V.str) o0 o1
    obtain ⟨jt, vt, et, hjt, hvt, hatt⟩ := at_in (l := ys.map V.str) t0 t1
    obtain ⟨yo, hyo, rfl⟩ := at_map hvo
    obtain ⟨yt, hyt, rfl⟩ := at_map hvt
    rw [List.length_map] at hjo hjt
    have wyo := hw.2 yo (List.mem_of_getElem? hyo)
    have wyt := hw.2 yt (List.mem_of_getElem? hyt)
    have fin : ∀ {a : Addr} {zs : List Str} {H' : Hp}, Dw H H' p d7 c (n + 1 + 1 + 1 + 1 + 1 + 1) → H' a = some (.lst (zs.map V.str)) → Ws 20 zs → (zs.map (·.length)).sum + zs.length * (" " : Str).length ≤ 16777216 ∧ Q (.str (Txt.join " " zs)) H' := fun x _ wz => ⟨wz.fits.1, qq _ _ (by have := wz.fits.2; omega) x⟩
    refine ⟨_, rfl, _, _, rfl, rfl, _, rfl, ite2 (fun _ => ?_) (fun _ => ?_)⟩
    · exact ⟨_, rfl, qq t H7 (by omega) x7⟩
    refine ⟨_, rfl, _, _, rfl, rfl, _, rfl, ite2 (fun _ => ?_) (fun _ => ?_)⟩
    · refine ⟨_, rfl, _, rfl, _, rfl, t, rfl, by omega, _, rfl, _, _, rfl, rfl, ?_, _, rfl, _, rfl, _, rfl, t, rfl, by omega, _, _, rfl, rfl, ?_, qq _ H7 ?_ x7⟩
      · have := cS none (some at_); omega
      · have a := cS none (some at_); have b := cS (some at_) none; rw [len_tl, tl_append, List.length_append, ← len_tl, ← len_tl]; omega
      · have a := cS none (some at_); have b := cS (some at_) none; rw [len_tl, tl_append, List.length_append, tl_append, List.length_append, ← len_tl, ← len_tl, ← len_tl]; omega
    refine ⟨_, rfl, rfl, _, rfl, ite2 (fun _ => ?_) (fun _ => ?_)⟩
    · refine ⟨_, rfl, _, rfl, _, rfl, t, rfl, by omega, _, rfl, _, rfl, _, _, rfl, rfl, _, rfl, t, rfl, by omega, _, _, rfl, rfl, ?_, qq _ H7 ?_ x7⟩
      · have a := cS none (some at_); have b := cS (some (at_ + 1)) none; omega
      · have a := cS none (some at_); have b := cS (some (at_ + 1)) none; rw [len_tl, tl_append, List.length_append, ← len_tl, ← len_tl]; omega
    refine ⟨_, rfl, _, _, rfl, rfl, _, rfl, ite2 (fun _ => ?_) (fun _ => ?_)⟩
    · refine ⟨_, rfl, _, rfl, _, rfl, t, rfl, by omega, _, rfl, _, _, rfl, rfl, ?_, _, rfl, _, rfl, _, _, rfl, rfl, _, rfl, t, rfl, by omega, _, _, rfl, rfl, ?_, qq _ H7 ?_ x7⟩
      · have := cS none (some at_); omega
      · have a := cS none (some at_); have b := cS (some (at_ + 1)) none; rw [len_tl, tl_append, List.length_append, ← len_tl, ← len_tl]; omega
      · have a := cS none (some at_); have b := cS (some (at_ + 1)) none; rw [len_tl, tl_append, List.length_append, tl_append, List.length_append, ← len_tl, ← len_tl, ← len_tl]; omega
    refine ⟨_, rfl, rfl, _, rfl, ite2 (fun _ => ?_) (fun _ => ?_)⟩
    · refine ⟨⟨_, rfl⟩, _, rfl, _, rfl, _, rfl, l, _, rfl, SqL.of gl, fun a ha => ?_⟩
      rw [cutV_map]
      have xa := x7.new (o := .lst ((cutG ys none (some one)).map V.str)) ha
      have ga : (upd H7 a (.lst ((cutG ys none (some one)).map V.str))) a = some (.lst ((cutG ys none (some one)).map V.str)) := upd_same
      have gla : (upd H7 a (.lst ((cutG ys none (some one)).map V.str))) l = some (.lst (ys.map V.str)) := by rw [upd_ne (ne_of_none gl ha)]; exact gl
      generalize upd H7 a (.lst ((cutG ys none (some one)).map V.str)) = Ha at xa ga gla
      refine ⟨_, rfl, _, rfl, _, _, rfl, rfl, _, rfl, l, _, rfl, SqL.of gla, fun b hb => ?_⟩
      rw [cutV_map]
      have xb := xa.new (o := .lst ((cutG ys (some (one + 1)) none).map V.str)) hb
      have gb : (upd Ha b (.lst ((cutG ys (some (one + 1)) none).map V.str))) b = some (.lst ((cutG ys (some (one + 1)) none).map V.str)) := upd_same
      have gab : (upd Ha b (.lst ((cutG ys (some (one + 1)) none).map V.str))) a = some (.lst ((cutG ys none (some one)).map V.str)) := by rw [upd_ne (ne_of_none ga hb)]; exact ga
      generalize upd Ha b (.lst ((cutG ys (some (one + 1)) none).map V.str)) = Hb at xb gb gab
      have wa := (hw.cut none (some one)).app (hw.cut (some (one + 1)) none)
      have wl := wa.1
      refine ⟨a, b, _, _, rfl, rfl, gab, gb, (by rw [List.length_map, List.length_map, ← List.length_append]; omega), fun m hm => ?_⟩
      rw [← List.map_append]
      exact ⟨_, m, _, rfl, rfl, .inl (SqL.of upd_same), fin (xb.new hm) upd_same (wa.up (by decide))⟩
    refine ⟨_, rfl, rfl, _, rfl, ite2 (fun _ => ?_) (fun _ => ?_)⟩
    · refine ⟨⟨_, rfl⟩, _, rfl, _, rfl, _, rfl, l, _, rfl, SqL.of gl, fun a ha => ?_⟩
      rw [cutV_map]
      have xa := x7.new (o := .lst ((cutG ys none (some one)).map V.str)) ha
      have ga : (upd H7 a (.lst ((cutG ys none (some one)).map V.str))) a = some (.lst ((cutG ys none (some one)).map V.str)) := upd_same
      have gla : (upd H7 a (.lst ((cutG ys none (some one)).map V.str))) l = some (.lst (ys.map V.str)) := by rw [upd_ne (ne_of_none gl ha)]; exact gl
      generalize upd H7 a (.lst ((cutG ys none (some one)).map V.str)) = Ha at xa ga gla
      refine ⟨_, rfl, _, rfl, l, _, _, _, rfl, rfl, SqL.of gla, hatt, (by show 1 ≤ sizeLine; omega), fun e he => ?_⟩
      have xe := xa.new (o := .lst [.str yt]) he
      have ge : (upd Ha e (.lst [.str yt])) e = some (.lst ([yt].map V.str)) := upd_same
      have gae : (upd Ha e (.lst [.str yt])) a = some (.lst ((cutG ys none (some one)).map V.str)) := by rw [upd_ne (ne_of_none ga he)]; exact ga
      have gle : (upd Ha e (.lst [.str yt])) l = some (.lst (ys.map V.str)) := by rw [upd_ne (ne_of_none gla he)]; exact gla
      have w1 := (hw.cut none (some one)).app (Ws.one wyt)
      have wl1 := w1.1
      refine ⟨a, e, _, _, rfl, rfl, gae, ge, (by rw [List.length_map, List.length_map, ← List.length_append]; omega), fun m hm => ?_⟩
      generalize upd Ha e (.lst [.str yt]) = He at xe ge gae gle hm
      rw [← List.map_append]
      have xm := xe.new (o := .lst ((cutG ys none (some one) ++ [yt]).map V.str)) hm
      have gm : (upd He m (.lst ((cutG ys none (some one) ++ [yt]).map V.str))) m = some (.lst ((cutG ys none (some one) ++ [yt]).map V.str)) := upd_same
      have glm : (upd He m (.lst ((cutG ys none (some one) ++ [yt]).map V.str))) l = some (.lst (ys.map V.str)) := by rw [upd_ne (ne_of_none gle hm)]; exact gle
      generalize upd He m (.lst ((cutG ys none (some one) ++ [yt]).map V.str)) = Hm at xm gm glm
      refine ⟨_, rfl, _, rfl, _, rfl, l, _, rfl, SqL.of glm, fun b hb => ?_⟩
      rw [cutV_map]
      have xb := xm.new (o := .lst ((cutG ys (some one) none).map V.str)) hb
      have gb : (upd Hm b (.lst ((cutG ys (some one) none).map V.str))) b = some (.lst ((cutG ys (some one) none).map V.str)) := upd_same
      have gmb : (upd Hm b (.lst ((cutG ys (some one) none).map V.str))) m = some (.lst ((cutG ys none (some one) ++ [yt]).map V.str)) := by rw [upd_ne (ne_of_none gm hb)]; exact gm
      generalize upd Hm b (.lst ((cutG ys (some one) none).map V.str)) = Hb at xb gb gmb
      have wa := w1.app (hw.cut (some one) none)
      have wl := wa.1
      refine ⟨m, b, _, _, rfl, rfl, gmb, gb, (by rw [List.length_map, List.length_map, ← List.length_append]; omega), fun m2 hm2 => ?_⟩
      rw [← List.map_append]
      exact ⟨_, m2, _, rfl, rfl, .inl (SqL.of upd_same), fin (xb.new hm2) upd_same (wa.up (by decide))⟩
    refine ⟨_, rfl, rfl, _, rfl, ite2 (fun _ => ?_) (fun _ => ?_)⟩
    · refine ⟨_, rfl, _, rfl, l, _, _, _, rfl, rfl, SqL.of gl, hatt, _, rfl, _, rfl, l, _, _, _, rfl, rfl, SqL.of gl, hato, (by show 2 ≤ sizeLine; omega), fun tt htt => ?_⟩
      have xt := x7.new (o := .tup [.str yt, .str yo]) htt
      have gt : (upd H7 tt (.tup [.str yt, .str yo])) tt = some (.tup [.str yt, .str yo]) := upd_same
      have glt : (upd H7 tt (.tup [.str yt, .str yo])) l = some (.lst (ys.map V.str)) := by rw [upd_ne (ne_of_none gl htt)]; exact gl
      generalize upd H7 tt (.tup [.str yt, .str yo]) = Ht at xt gt glt
      refine ⟨tt, _, rfl, SqT.of gt, rfl, ?_⟩
      refine ⟨_, _, rfl, _, rfl, _, rfl, l, _, _, jo, rfl, (congrArg V.int eo), glt, (by rw [List.length_map]; exact ixN_in hjo), ?_⟩
      have e1 : (ys.map V.str).set jo (.str yt) = (ys.set jo yt).map V.str := by rw [List.map_set]
      rw [e1]
      have x8 := xt.set (o := .lst ((ys.set jo yt).map V.str)) l0 nl
      have g8 : (upd Ht l (.lst ((ys.set jo yt).map V.str))) l = some (.lst ((ys.set jo yt).map V.str)) := upd_same
      generalize upd Ht l (.lst ((ys.set jo yt).map V.str)) = H8 at x8 g8
      refine ⟨_, _, rfl, _, rfl, _, rfl, l, _, _, jt, rfl, (congrArg V.int et), g8, (by rw [List.length_map, List.length_set]; exact ixN_in hjt), ?_⟩
      have e2 : ((ys.set jo yt).map V.str).set jt (.str yo) = ((ys.set jo yt).set jt yo).map V.str := by simp only [List.map_set]
      rw [e2]
      have x9 := x8.set (o := .lst (((ys.set jo yt).set jt yo).map V.str)) l0 nl
      have g9 : (upd H8 l (.lst (((ys.set jo yt).set jt yo).map V.str))) l = some (.lst (((ys.set jo yt).set jt yo).map V.str)) := upd_same
      have w9 : Ws 8 ((ys.set jo yt).set jt yo) := ⟨by rw [List.length_set, List.length_set]; exact h8, fun y hy => by
        rcases List.mem_or_eq_of_mem_set hy with hy | rfl
        · rcases List.mem_or_eq_of_mem_set hy with hy | rfl
          · exact hw.2 y hy
          · exact wyt
        · exact wyo⟩
      refine ⟨rfl, ?_⟩
      exact ⟨⟨_, rfl⟩, _, rfl, _, l, _, rfl, rfl, .inl (SqL.of g9), fin x9 g9 (w9.up (by decide))⟩
    · refine ⟨⟨_, rfl⟩, _, rfl, _, rfl, _, rfl, l, _, rfl, SqL.of gl, fun a ha => ?_⟩
      rw [cutV_map]
      have xa := x7.new (o := .lst ((cutG ys none (some one)).map V.str)) ha
      have ga : (upd H7 a (.lst ((cutG ys none (some one)).map V.str))) a = some (.lst ((cutG ys none (some one)).map V.str)) := upd_same
      have gla : (upd H7 a (.lst ((cutG ys none (some one)).map V.str))) l = some (.lst (ys.map V.str)) := by rw [upd_ne (ne_of_none gl ha)]; exact gl
      generalize upd H7 a (.lst ((cutG ys none (some one)).map V.str)) = Ha at xa ga gla
      refine ⟨_, rfl, (by show 1 ≤ sizeLine; omega), fun e he => ?_⟩
      have xe := xa.new (o := .lst [.str od]) he
      have ge : (upd Ha e (.lst [.str od])) e = some (.lst ([od].map V.str)) := upd_same
      have gae : (upd Ha e (.lst [.str od])) a = some (.lst ((cutG ys none (some one)).map V.str)) := by rw [upd_ne (ne_of_none ga he)]; exact ga
      have gle : (upd Ha e (.lst [.str od])) l = some (.lst (ys.map V.str)) := by rw [upd_ne (ne_of_none gla he)]; exact gla
      have w1 := (hw.cut none (some one)).app (Ws.one hod)
      have wl1 := w1.1
      refine ⟨a, e, _, _, rfl, rfl, gae, ge, (by rw [List.length_map, List.length_map, ← List.length_append]; omega), fun m hm => ?_⟩
      generalize upd Ha e (.lst [.str od]) = He at xe ge gae gle hm
      rw [← List.map_append]
      have xm := xe.new (o := .lst ((cutG ys none (some one) ++ [od]).map V.str)) hm
      have gm : (upd He m (.lst ((cutG ys none (some one) ++ [od]).map V.str))) m = some (.lst ((cutG ys none (some one) ++ [od]).map V.str)) := upd_same
      have glm : (upd He m (.lst ((cutG ys none (some one) ++ [od]).map V.str))) l = some (.lst (ys.map V.str)) := by rw [upd_ne (ne_of_none gle hm)]; exact gle
      generalize upd He m (.lst ((cutG ys none (some one) ++ [od]).map V.str)) = Hm at xm gm glm
      refine ⟨_, rfl, _, rfl, _, _, rfl, rfl, _, rfl, l, _, rfl, SqL.of glm, fun b hb => ?_⟩
      rw [cutV_map]
      have xb := xm.new (o := .lst ((cutG ys (some (one + 1)) none).map V.str)) hb
      have gb : (upd Hm b (.lst ((cutG ys (some (one + 1)) none).map V.str))) b = some (.lst ((cutG ys (some (one + 1)) none).map V.str)) := upd_same
      have gmb : (upd Hm b (.lst ((cutG ys (some (one + 1)) none).map V.str))) m = some (.lst ((cutG ys none (some one) ++ [od]).map V.str)) := by rw [upd_ne (ne_of_none gm hb)]; exact gm
      generalize upd Hm b (.lst ((cutG ys (some (one + 1)) none).map V.str)) = Hb at xb gb gmb
      have wa := w1.app (hw.cut (some (one + 1)) none)
      have wl := wa.1
      refine ⟨m, b, _, _, rfl, rfl, gmb, gb, (by rw [List.length_map, List.length_map, ← List.length_append]; omega), fun m2 hm2 => ?_⟩
      rw [← List.map_append]
      exact ⟨_, m2, _, rfl, rfl, .inl (SqL.of upd_same), fin (xb.new hm2) upd_same (wa.up (by decide))⟩
end
end U

set_option Elab.async false
set_option maxRecDepth 100000
set_option linter.all false
set_option maxHeartbeats 8000000
namespace U
open PySem L2 TL Rl Tb Zp
/-! ### splitting by hand -/
theorem inj_tl : ∀ {xs ys : List Str}, xs.map tl = ys.map tl → xs = ys
  | [], [], _ => rfl
  | x :: xs, y :: ys, h => by
    rw [List.map_cons, List.map_cons] at h
    injection h with h1 h2
    rw [ext_tl h1, inj_tl h2]
  | [], _ :: _, h => nomatch h
  | _ :: _, [], h => nomatch h
theorem spl_step {c : Nat} {r acc : List Nat} : spl [32] 0 acc (c :: r) = if c = 32 then acc :: spl [32] 0 [] r else spl [32] 0 (acc ++ [c]) r := by
  show (if pre [32] (c :: r) = true then acc :: spl [32] ([32].length - 1) [] r else spl [32] 0 (acc ++ [c]) r) = _
  by_cases h : c = 32
  · subst h
    have hp : pre [32] (32 :: r) = true := pre_self [32] r
    rw [hp]
    rfl
  · have hp : pre [32] (c :: r) = false := pre_of_head [] r h
    rw [hp, if_neg h]
    rfl
def spWords : Sp := fun vs H Q _ => ∃ t : Str, vs = [.str t] ∧ t.length ≤ 100000 ∧ ∀ l H', H l = none → Same H H' → H' l = some (.lst ((Txt.split t " ").map V.str)) → Q (.ref l) H'
/-- what the hand-made split has at a turn -/
def Sofar (t : Str) (i : Nat) (ws : List Str) : Prop := ∃ us la, ws = us ++ [la] ∧ spl [32] 0 [] (tl t) = us.map tl ++ spl [32] 0 (tl la) ((tl t).drop i) ∧ us.length ≤ i ∧ la.length ≤ i
theorem Sofar.sep {t : Str} {i : Nat} {ws : List Str} (h : Sofar t i ws) (hc : (tl t)[i]? = some 32) : Sofar t (i + 1) (ws ++ [("" : Str)]) := by
  obtain ⟨us, la, rfl, e, l1, l2⟩ := h
  refine ⟨us ++ [la], ("" : Str), rfl, ?_, by rw [List.length_append]; exact Nat.succ_le_succ l1, Nat.zero_le _⟩
  have hi := (List.getElem?_eq_some_iff.mp hc).1
  have hg := (List.getElem?_eq_some_iff.mp hc).2
  rw [e, List.drop_eq_getElem_cons hi, hg, spl_step, if_pos rfl, List.map_append, List.append_assoc]
  rfl
theorem Sofar.sign {t : Str} {i c : Nat} {ws : List Str} (h : Sofar t i ws) (hc : (tl t)[i]? = some c) (hn : c ≠ 32) :
    ∃ us la, ws = us ++ [la] ∧ la.length ≤ i ∧ Sofar t (i + 1) ((us ++ [la]).set us.length (la ++ ⟨#[c]⟩)) := by
  obtain ⟨us, la, rfl, e, l1, l2⟩ := h
  refine ⟨us, la, rfl, l2, us, la ++ ⟨#[c]⟩, by simp, ?_, Nat.le_succ_of_le l1, ?_⟩
  · have hi := (List.getElem?_eq_some_iff.mp hc).1
    have hg := (List.getElem?_eq_some_iff.mp hc).2
    rw [e, List.drop_eq_getElem_cons hi, hg, spl_step, if_neg hn, tl_append]
    try rfl
  · rw [len_tl, tl_append, List.length_append, ← len_tl]
    exact Nat.succ_le_succ l2
theorem Sofar.all {t : Str} {ws : List Str} (h : Sofar t (tl t).length ws) : ws = Txt.split t " " := by
  obtain ⟨us, la, rfl, e, _, _⟩ := h
  refine inj_tl ?_
  rw [split_map, e, List.drop_length, spl_nil, List.map_append]
  rfl
theorem Sofar.start (t : Str) : Sofar t 0 [""] := ⟨[], "", rfl, rfl, Nat.le_refl _, Nat.zero_le _⟩
theorem Sofar.len {t : Str} {i : Nat} {ws : List Str} (h : Sofar t i ws) : ws.length ≤ i + 1 := by
  obtain ⟨us, la, rfl, _, l1, _⟩ := h
  rw [List.length_append]; exact Nat.succ_le_succ l1
theorem ixN_last {n : Nat} : ixN (n + 1) (-1) = some n := by
  unfold ixN
  rw [if_neg (by decide), if_pos (by omega)]
  congr 1
  omega
section
variable {P : Program} {w : World} {K : PySem.W.Frag} {mg : Str → Option Value} {base : Heap}
theorem scWo : FnScope ["_law_text_here", "_law_words_here", "_law_sign_here"] ["_law_text_here"] (defScope sWords) := ⟨rfl, rfl, rfl, by decide +kernel, rfl, by decide +kernel, by decide +kernel⟩
theorem ok_words {f : Addr} {fd : FuncData} (F : Fun K "_law_words" "_law_words" sWords f fd) : FnOk P w K mg base CX0 1 f fd ["_law_text_here"] spWords := by
  refine F.ok scWo (fun vs H Q E h => ?_) (fun cdv A outer s H vs Q E hr h => ?_)
  · obtain ⟨t, rfl, _⟩ := h
    rfl
  · obtain ⟨t, rfl, ht, q⟩ := h
    have zz : 200000 < sizeLine := by rw [sizeLine_eq]; decide
    refine ⟨_, (pss_cons (ps_set (i := 1) scWo.nd rfl (Or.inl rfl) (pe_lst (pa_cons pe_str pa_nil)))
      (pss_cut (ps_for PassesOwn.never rfl (pi_str (pv 0)) (pg_name (i := 2) scWo.nd rfl (Or.inl rfl))
        (pss_one (ps_if (pt_cmpR op_eq (pv 2) pe_str (nomark _)) (pss_one (ps_expr (pe_bm PySem.F.plainAttrs_list PySem.F.slot_list_append PySem.F.type_list_append mt_append (pv 1) (pa_cons pe_str pa_nil))))
          (pss_one (ps_asg (pe_op op_add_str (pe_ix ix_list (pv 1) (pe_un un_neg pe_int) (fun _ _ => rfl)) (pv 2)) (pg_sub (pv 1) (pe_un un_neg pe_int) set_list))))))
      (pss_one (ps_ret (pv 1))))), ?_⟩
    refine ⟨by show 1 ≤ sizeLine; omega, fun l hl => ?_⟩
    have g1 : (upd H l (.lst [.str ""])) l = some (.lst (([""] : List Str).map V.str)) := upd_same
    have s1 := sameNew (o := .lst [.str ""]) hl
    generalize upd H l (.lst [.str ""]) = H1 at g1 s1
    let J : Nat → L2.St → Hp → Prop := fun i σ' H' => ∃ v2 ws, σ' = [some (.str t), some (.ref l), v2] ∧ Same H H' ∧ H' l = some (.lst (ws.map V.str)) ∧ Sofar t i ws
    refine ⟨J (tl t).length, ⟨_, rfl, t, rfl, for_str (z := t) J ⟨none, [""], rfl, s1, g1, Sofar.start t⟩ ?_ fun _ _ j => j⟩, ?_⟩
    · rintro i c _ H2 hc ⟨v2, ws, rfl, sm, gl, so⟩
      have hi : i < t.length := by rw [len_tl]; exact (List.getElem?_eq_some_iff.mp hc).1
      have lw := so.len
      have keep : ∀ o, Same H (upd H2 l o) := fun o b u e => by rw [upd_ne (ne_of_none e hl)]; exact sm _ _ e
      refine ⟨_, rfl, rfl, _, rfl, ?_⟩
      by_cases h : c = 32
      · subst h
        refine iteT' (decide_eq_true ((one_of tl_blank).mpr rfl)) ?_
        refine ⟨_, rfl, .inl ⟨rfl, _, SqL.of gl⟩, l, _, _, rfl, rfl, gl, (by rw [List.length_map]; omega), ?_⟩
        refine ⟨_, ws ++ [("" : Str)], rfl, keep _, ?_, so.sep hc⟩
        rw [upd_same, List.map_append]; rfl
      · refine iteF' (decide_eq_false fun z => h ((one_of tl_blank).mp z)) ?_
        obtain ⟨us, la, rfl, ll, so'⟩ := so.sign hc h
        have gl' : H2 l = some (.lst (us.map V.str ++ [.str la])) := by rw [gl, List.map_append]; rfl
        refine ⟨_, rfl, _, rfl, l, _, _, _, rfl, rfl, SqL.of gl', atI_last _ _, _, rfl, _, _, rfl, rfl, (by show la.length + 1 ≤ sizeLine; omega), ?_⟩
        refine ⟨_, rfl, _, rfl, l, _, _, us.length, rfl, rfl, gl', (by rw [List.length_append, List.length_map]; exact ixN_last), ?_⟩
        refine ⟨_, _, rfl, keep _, ?_, so'⟩
        rw [upd_same]
        congr 2
        rw [List.set_append_right _ _ (by rw [List.length_map]; exact Nat.le_refl _), List.set_append_right _ _ (Nat.le_refl _), List.map_append, List.length_map, Nat.sub_self]
        rfl
    · rintro _ H2 ⟨v2, ws, rfl, sm, gl, so⟩
      rw [so.all] at gl
      exact ⟨_, rfl, q l H2 hl sm gl⟩
end
end U

set_option Elab.async false
set_option maxRecDepth 100000
set_option linter.all false
set_option maxHeartbeats 8000000
namespace U
open PySem L2 TL Rl Tb Zp
/-! ### the law's own reading of names and numbers -/
theorem lt_one {a b : Nat} : (([a] : List Nat) < [b]) ↔ a < b := by
  constructor
  · intro h
    cases h with
    | rel h => exact h
    | cons h => cases h
  · exact fun h => .rel h
def inAZ (lo hi c : Nat) : Bool := decide (lo ≤ c) && decide (c ≤ hi)
theorem le_ch {a b : Nat} : (!decide (([b] : List Nat) < [a])) = decide (a ≤ b) := by
  by_cases h : b < a
  · rw [decide_eq_true (lt_one.mpr h), decide_eq_false (by omega)]; rfl
  · rw [decide_eq_false (fun z => h (lt_one.mp z)), decide_eq_true (by omega)]; rfl
theorem allIn_az (t : Str) : allIn t letters = (tl t).all (inAZ 97 122) := by
  rw [Bool.eq_iff_iff, allIn_letters, List.all_eq_true]
  refine forall_congr' fun c => forall_congr' fun _ => ?_
  unfold inAZ
  rw [Bool.and_eq_true, decide_eq_true_eq, decide_eq_true_eq]
theorem allIn_09 (t : Str) : allIn t figs = (tl t).all (inAZ 48 57) := by
  rw [Bool.eq_iff_iff, allIn_iff, tl_figs, List.all_eq_true]
  refine forall_congr' fun c => forall_congr' fun _ => ?_
  unfold inAZ
  rw [Bool.and_eq_true, decide_eq_true_eq, decide_eq_true_eq]
  simp only [List.mem_cons, List.not_mem_nil, or_false]
  omega
theorem all_map {l : List Nat} {f : Nat → Bool} : (l.map f).all id = l.all f := by
  rw [List.all_map]; rfl
def spRdName : Sp := fun vs H Q _ => ∃ t : Str, vs = [.str t] ∧ t.length ≤ 100000 ∧ ∀ H', Same H H' → Q (if isName t = true then .str t else .non) H'
def spRdNum : Sp := fun vs H Q _ => ∃ t : Str, vs = [.str t] ∧ t.length ≤ 100000 ∧ ∀ H', Same H H' → Q (if isNum t = true then .int ((PySem.intText? t).getD 0) else .non) H'
theorem tl_a : tl ("a" : Str) = [97] := by decide +kernel
theorem tl_z : tl ("z" : Str) = [122] := by decide +kernel
theorem tl_9 : tl ("9" : Str) = [57] := by decide +kernel
theorem strip_rp (t : Str) : (if (tl t).take 1 = [45] then cutS t (some 1) none else t) = rp t := by
  refine ext_tl ?_
  rw [tl_rp]
  cases e : tl t with
  | nil =>
    rw [if_neg (by simp)]
    exact e
  | cons c cs =>
    have ec : tl (cutS t (some 1) none) = cs := by
      have hl : t.length = cs.length + 1 := by rw [len_tl, e]; rfl
      have h0 : HT.sIx t.length 0 (some 1) = 1 := by
        rw [show (some (1 : Int)) = some (((1 : Nat) : Int)) from rfl, HT.sIx_nat, hl]; omega
      unfold cutS
      rw [tl_mk, h0]
      show ((tl t).drop 1).take (t.length - 1) = cs
      rw [e, hl]
      exact List.take_of_length_le (by simp)
    by_cases h : c = 45
    · subst h
      rw [if_pos (show List.take 1 (45 :: cs) = [45] from rfl), ec]
      show cs = (if (45 : Nat) = 45 then cs else 45 :: cs)
      exact (if_pos rfl).symm
    · rw [if_neg (fun z => h (by injection z)), e]
      exact (if_neg h).symm
section
variable {P : Program} {w : World} {K : PySem.W.Frag} {mg : Str → Option Value} {base : Heap}
theorem scRn : FnScope ["_law_word", "_law_sign_here"] ["_law_word"] (defScope sRdName) := ⟨rfl, rfl, rfl, by decide +kernel, rfl, by decide +kernel, by decide +kernel⟩
theorem ok_rdName {f : Addr} {fd : FuncData} (F : Fun K "_law_read_name" "_law_read_name" sRdName f fd) (G : Glb mg) : FnOk P w K mg base CX0 1 f fd ["_law_word"] spRdName := by
  refine F.ok scRn (fun vs H Q E h => ?_) (fun cdv A outer s H vs Q E hr h => ?_)
  · obtain ⟨t, rfl, _⟩ := h
    rfl
  · obtain ⟨t, rfl, ht, q⟩ := h
    have zz : 200000 < sizeLine := by rw [sizeLine_eq]; decide
    refine ⟨_, (pss_cut (ps_if (PW.pt (pw_or (pt_not (pt_chain op_le op_le pe_int (pe_callB call_len_str (by rfl) G.len PySem.boot_len (pa_cons (pv 0) pa_nil)) pe_int))
        (pw_or1 (pt_not (pt_val (pe_callB (cr_all rfl) (by rfl) G.all (by decide +kernel) (pa_cons (pe_lc (own := [("_law_sign_here", 1)]) (g := gName 1) (by rfl) scRn.nd (pi_str (pv 0)) (blkOk_by (own := [("_law_sign_here", 1)]) (N := ["_law_word", "_law_sign_here"]) (sc := defScope sRdName) (by decide +kernel)) (fun _ _ _ _ _ => pg_name (i := 1) scRn.nd rfl (Or.inl rfl)) (fun _ _ _ _ _ => pts_nil) (fun _ _ _ _ _ => pe_chain op_le_str op_le_str pe_str (pv 1) pe_str)) pa_nil))))))) (pss_one (ps_ret pe_non)) pss_nil)
      (pss_one (ps_ret (pv 0)))), ?_⟩
    refine ⟨fun σ' H' => σ' = [some (.str t), none] ∧ Same H H' ∧ isName t = true, ?_, ?_⟩
    · have e1 : (decide ((1 : Int) ≤ (t.length : Int))) = decide (1 ≤ t.length) := by rw [decide_eq_decide]; omega
      have e8 : (decide ((t.length : Int) ≤ (8 : Int))) = decide (t.length ≤ 8) := by rw [decide_eq_decide]; omega
      refine ⟨_, rfl, t, rfl, by omega, _, _, rfl, rfl, _, rfl, ?_⟩
      cases h1 : decide (1 ≤ t.length) with
      | false =>
        have q0 := q H (Same.refl _)
        rw [if_neg (by unfold isName; rw [h1]; exact Bool.false_ne_true)] at q0
        exact iteF' (e1.trans h1) ⟨_, rfl, iteT (iteT q0)⟩
      | true =>
        refine iteT' (e1.trans h1) ?_
        refine ⟨_, _, rfl, rfl, _, rfl, ?_⟩
        cases h8 : decide (t.length ≤ 8) with
        | false =>
          have q0 := q H (Same.refl _)
          rw [if_neg (by unfold isName; rw [h1, h8]; exact Bool.false_ne_true)] at q0
          exact iteT' (by rw [e8, h8]; rfl) (iteT q0)
        | true =>
          refine iteF' (by rw [e8, h8]; rfl) ?_
          refine ⟨_, rfl, t, rfl, fun D hD => ?_⟩
          refine lc_str (fun i H2 => Same H H2 ∧ H2 D = some (.lst ((((tl t).take i).map (inAZ 97 122)).map V.bl))) ⟨sameNew hD, upd_same⟩ ?_ ?_
          · rintro i c H2 hc ⟨sm, gD⟩
            refine ⟨rfl, ?_⟩
            dsimp only [tYes]
            have hi : i < t.length := by rw [len_tl]; exact (List.getElem?_eq_some_iff.mp hc).1
            have fin : ∃ acc, H2 D = some (.lst acc) ∧ acc.length < sizeLine ∧ Same H (upd H2 D (.lst (acc ++ [.bl (inAZ 97 122 c)]))) ∧ (upd H2 D (.lst (acc ++ [.bl (inAZ 97 122 c)]))) D = some (.lst ((((tl t).take (i + 1)).map (inAZ 97 122)).map V.bl)) := by
              refine ⟨_, gD, ?_, fun b o e => ?_, ?_⟩
              · rw [List.length_map, List.length_map, List.length_take]; omega
              · rw [upd_ne (ne_of_none e hD)]; exact sm _ _ e
              · have hc' : (tl t)[i]? = some c := hc
                rw [upd_same, List.take_succ, hc', List.map_append, List.map_append]; rfl
            refine iteT ⟨_, rfl, _, _, rfl, rfl, _, rfl, ?_⟩
            have ea : (!decide ((⟨#[c]⟩ : Str).cps.toList < ("a" : Str).cps.toList)) = decide (97 ≤ c) := by
              rw [show ("a" : Str).cps.toList = [97] from tl_a]; exact le_ch
            have ez : (!decide (("z" : Str).cps.toList < (⟨#[c]⟩ : Str).cps.toList)) = decide (c ≤ 122) := by
              rw [show ("z" : Str).cps.toList = [122] from tl_z]; exact le_ch
            cases ha : decide (97 ≤ c) with
            | false =>
              refine iteF' (ea.trans ha) ?_
              rw [show inAZ 97 122 c = false by unfold inAZ; rw [ha]; rfl] at fin
              exact fin
            | true =>
              refine iteT' (ea.trans ha) ?_
              refine ⟨_, _, rfl, rfl, ?_⟩
              rw [ez]
              rw [show inAZ 97 122 c = decide (c ≤ 122) by unfold inAZ; rw [ha]; rfl] at fin
              exact fin
          · rintro H2 ⟨sm, gD⟩
            have gD' : H2 D = some (.lst (((tl t).map (inAZ 97 122)).map V.bl)) := by
              rw [gD]; rw [show t.cps.toList.length = (tl t).length from rfl, List.take_length]
            refine ⟨D, _, rfl, SqL.of gD', _, rfl, ?_⟩
            have en : isName t = ((tl t).map (inAZ 97 122)).all id := by
              unfold isName; rw [h1, h8, allIn_az, all_map]; rfl
            have q0 := q H2 sm
            rw [en] at q0 ⊢
            cases hb : ((tl t).map (inAZ 97 122)).all id with
            | false =>
              rw [hb] at q0
              exact iteT q0
            | true => exact iteF ⟨rfl, sm, rfl⟩
    rintro _ H2 ⟨rfl, sm, hn⟩
    have q0 := q H2 sm
    rw [if_pos hn] at q0
    exact ⟨_, rfl, q0⟩
theorem scRm : FnScope ["_law_word", "_law_figures", "_law_sign_here"] ["_law_word"] (defScope sRdNum) := ⟨rfl, rfl, rfl, by decide +kernel, rfl, by decide +kernel, by decide +kernel⟩
theorem ok_rdNum {f : Addr} {fd : FuncData} (F : Fun K "_law_read_number" "_law_read_number" sRdNum f fd) (G : Glb mg) : FnOk P w K mg base CX0 1 f fd ["_law_word"] spRdNum := by
  refine F.ok scRm (fun vs H Q E h => ?_) (fun cdv A outer s H vs Q E hr h => ?_)
  · obtain ⟨t, rfl, _⟩ := h
    rfl
  · obtain ⟨t, rfl, ht, q⟩ := h
    have zz : 200000 < sizeLine := by rw [sizeLine_eq]; decide
    have hrl : (rp t).length ≤ 100000 := Nat.le_trans (rp_len t) ht
    refine ⟨_, (pss_cons (ps_set (i := 1) scRm.nd rfl (Or.inl rfl) (pv 0))
      (pss_cut (ps_if (PW.pt (pw_and (pt_cmpR op_gt (pe_callB call_len_str (by rfl) G.len PySem.boot_len (pa_cons (pv 0) pa_nil)) pe_int (nomark _)) (pw_and1 (pt_cmpR op_eq (pe_ix ix_str (pv 0) pe_int (fun _ _ => rfl)) pe_str (nomark _))))) (pss_one (ps_set (i := 1) scRm.nd rfl (Or.inl rfl) (pe_slice sl_str (pv 0) (po_some pe_int) po_none))) pss_nil)
      (pss_cut (ps_if (PW.pt (pw_or (pt_not (pt_chain op_le op_le pe_int (pe_callB call_len_str (by rfl) G.len PySem.boot_len (pa_cons (pv 1) pa_nil)) pe_int))
        (pw_or1 (pt_not (pt_val (pe_callB (cr_all rfl) (by rfl) G.all (by decide +kernel) (pa_cons (pe_lc (own := [("_law_sign_here", 2)]) (g := gName 2) (by rfl) scRm.nd (pi_str (pv 1)) (blkOk_by (own := [("_law_sign_here", 2)]) (N := ["_law_word", "_law_figures", "_law_sign_here"]) (sc := defScope sRdNum) (by decide +kernel)) (fun _ _ _ _ _ => pg_name (i := 2) scRm.nd rfl (Or.inl rfl)) (fun _ _ _ _ _ => pts_nil) (fun _ _ _ _ _ => pe_chain op_le_str op_le_str pe_str (pv 2) pe_str)) pa_nil))))))) (pss_one (ps_ret pe_non)) pss_nil)
      (pss_cut (ps_if (PW.pt (pw_and (pt_cmpR op_eq (pe_ix ix_str (pv 1) pe_int (fun _ _ => rfl)) pe_str (nomark _)) (pw_and1 (pt_cmpR op_ne (pv 0) pe_str (nomark _))))) (pss_one (ps_ret pe_non)) pss_nil)
      (pss_one (ps_ret (pe_callTy call_int_str (by rfl) G.int (by decide +kernel) (pa_cons (pv 0) pa_nil)))))))), ?_⟩
    refine ⟨_, rfl, ?_⟩
    refine ⟨fun σ' H' => σ' = [some (.str t), some (.str (rp t)), none] ∧ H' = H, ?_, ?_⟩
    · refine ⟨_, rfl, t, rfl, by omega, _, _, rfl, rfl, _, rfl, ?_⟩
      have er := strip_rp t
      cases e : tl t with
      | nil =>
        have hl : t.length = 0 := by rw [len_tl, e]; rfl
        rw [e, if_neg (by simp)] at er
        refine iteF' (decide_eq_false (by rw [hl]; decide)) (iteF ?_)
        rw [← er]; exact ⟨rfl, rfl⟩
      | cons c cs =>
        have hl : t.length = cs.length + 1 := by rw [len_tl, e]; rfl
        refine iteT' (decide_eq_true (by rw [hl]; omega)) ?_
        refine ⟨_, rfl, _, _, c, rfl, rfl, by omega, atI_nat (j := 0) (by show (tl t)[0]? = some c; rw [e]; rfl), rfl, _, rfl, ?_⟩
        by_cases h : c = 45
        · subst h
          rw [e, if_pos (show List.take 1 (45 :: cs) = [45] from rfl)] at er
          refine iteT' (decide_eq_true ((one_of tl_minus).mpr rfl)) ?_
          refine ⟨_, rfl, _, rfl, t, rfl, by omega, ?_⟩
          rw [er]; exact ⟨rfl, rfl⟩
        · rw [e, if_neg (fun z => h (by injection z))] at er
          refine iteF' (decide_eq_false fun z => h ((one_of tl_minus).mp z)) ?_
          rw [← er]; exact ⟨rfl, rfl⟩
    rintro _ H ⟨rfl, rfl⟩
    refine ⟨fun σ' H' => σ' = [some (.str t), some (.str (rp t)), none] ∧ Same H H' ∧ 1 ≤ (rp t).length ∧ (decide (1 ≤ (rp t).length) && decide ((rp t).length ≤ 60) && allIn (rp t) figs) = true, ?_, ?_⟩
    · have e1 : (decide ((1 : Int) ≤ ((rp t).length : Int))) = decide (1 ≤ (rp t).length) := by rw [decide_eq_decide]; omega
      have e8 : (decide (((rp t).length : Int) ≤ (60 : Int))) = decide ((rp t).length ≤ 60) := by rw [decide_eq_decide]; omega
      refine ⟨_, rfl, _, rfl, by omega, _, _, rfl, rfl, _, rfl, ?_⟩
      cases h1 : decide (1 ≤ (rp t).length) with
      | false =>
        have q0 := q H (Same.refl _)
        rw [if_neg (by unfold isNum; rw [h1]; exact Bool.false_ne_true)] at q0
        exact iteF' (e1.trans h1) ⟨_, rfl, iteT (iteT q0)⟩
      | true =>
        refine iteT' (e1.trans h1) ?_
        refine ⟨_, _, rfl, rfl, _, rfl, ?_⟩
        cases h8 : decide ((rp t).length ≤ 60) with
        | false =>
          have q0 := q H (Same.refl _)
          rw [if_neg (by unfold isNum; rw [h1, h8]; exact Bool.false_ne_true)] at q0
          exact iteT' (by rw [e8, h8]; rfl) (iteT q0)
        | true =>
          refine iteF' (by rw [e8, h8]; rfl) ?_
          refine ⟨_, rfl, _, rfl, fun D hD => ?_⟩
          refine lc_str (fun i H2 => Same H H2 ∧ H2 D = some (.lst ((((tl (rp t)).take i).map (inAZ 48 57)).map V.bl))) ⟨sameNew hD, upd_same⟩ ?_ ?_
          · rintro i c H2 hc ⟨sm, gD⟩
            refine ⟨rfl, ?_⟩
            dsimp only [tYes]
            have hi : i < (rp t).length := by rw [len_tl]; exact (List.getElem?_eq_some_iff.mp hc).1
            have fin : ∃ acc, H2 D = some (.lst acc) ∧ acc.length < sizeLine ∧ Same H (upd H2 D (.lst (acc ++ [.bl (inAZ 48 57 c)]))) ∧ (upd H2 D (.lst (acc ++ [.bl (inAZ 48 57 c)]))) D = some (.lst ((((tl (rp t)).take (i + 1)).map (inAZ 48 57)).map V.bl)) := by
              refine ⟨_, gD, ?_, fun b o e => ?_, ?_⟩
              · rw [List.length_map, List.length_map, List.length_take]; omega
              · rw [upd_ne (ne_of_none e hD)]; exact sm _ _ e
              · have hc' : (tl (rp t))[i]? = some c := hc
                rw [upd_same, List.take_succ, hc', List.map_append, List.map_append]; rfl
            refine iteT ⟨_, rfl, _, _, rfl, rfl, _, rfl, ?_⟩
            have ea : (!decide ((⟨#[c]⟩ : Str).cps.toList < ("0" : Str).cps.toList)) = decide (48 ≤ c) := by
              rw [show ("0" : Str).cps.toList = [48] from tl_zero]; exact le_ch
            have ez : (!decide (("9" : Str).cps.toList < (⟨#[c]⟩ : Str).cps.toList)) = decide (c ≤ 57) := by
              rw [show ("9" : Str).cps.toList = [57] from tl_9]; exact le_ch
            cases ha : decide (48 ≤ c) with
            | false =>
              refine iteF' (ea.trans ha) ?_
              rw [show inAZ 48 57 c = false by unfold inAZ; rw [ha]; rfl] at fin
              exact fin
            | true =>
              refine iteT' (ea.trans ha) ?_
              refine ⟨_, _, rfl, rfl, ?_⟩
              rw [ez]
              rw [show inAZ 48 57 c = decide (c ≤ 57) by unfold inAZ; rw [ha]; rfl] at fin
              exact fin
          · rintro H2 ⟨sm, gD⟩
            have gD' : H2 D = some (.lst (((tl (rp t)).map (inAZ 48 57)).map V.bl)) := by
              rw [gD]; rw [show (rp t).cps.toList.length = (tl (rp t)).length from rfl, List.take_length]
            refine ⟨D, _, rfl, SqL.of gD', _, rfl, ?_⟩
            have en : allIn (rp t) figs = ((tl (rp t)).map (inAZ 48 57)).all id := by
              rw [allIn_09, all_map]
            have q0 := q H2 sm
            cases hb : ((tl (rp t)).map (inAZ 48 57)).all id with
            | false =>
              rw [if_neg (by unfold isNum; rw [h1, h8, en, hb]; exact Bool.false_ne_true)] at q0
              exact iteT q0
            | true =>
              refine iteF ⟨rfl, sm, of_decide_eq_true h1, ?_⟩
              rw [en, hb]; rfl
    rintro _ H2 ⟨rfl, sm, l1, hall⟩
    have q0 := q H2 sm
    have eq0 : isNum t = (decide (V.str t = V.str "0") || noNought (rp t)) := by unfold isNum; rw [hall, Bool.true_and]
    have hl : 0 < (tl (rp t)).length := by rw [← len_tl]; exact l1
    obtain ⟨cc, hc⟩ : ∃ cc, (tl (rp t))[0]? = some cc := ⟨_, List.getElem?_eq_getElem hl⟩
    have en : noNought (rp t) = !decide (V.str (⟨#[cc]⟩ : Str) = V.str "0") := by unfold noNought; rw [hc]
    refine ⟨fun σ' H' => σ' = [some (.str t), some (.str (rp t)), none] ∧ H' = H2 ∧ isNum t = true, ?_, ?_⟩
    · refine ⟨_, rfl, _, 0, cc, rfl, rfl, by omega, atI_nat (j := 0) hc, rfl, _, rfl, ?_⟩
      cases h0 : decide (V.str (⟨#[cc]⟩ : Str) = V.str "0") with
      | false => exact iteF (iteF ⟨rfl, rfl, by rw [eq0, en, h0]; exact Bool.or_true _⟩)
      | true =>
        refine iteT ⟨_, rfl, rfl, _, rfl, ?_⟩
        cases hz : decide (V.str t = V.str "0") with
        | true => exact iteF ⟨rfl, rfl, by rw [eq0, hz]; rfl⟩
        | false =>
          rw [if_neg (by rw [eq0, en, h0, hz]; exact Bool.false_ne_true)] at q0
          exact iteT q0
    rintro _ _ ⟨rfl, rfl, hn⟩
    obtain ⟨zl, n, hi⟩ := isNum_val hn
    rw [if_pos hn, hi] at q0
    exact ⟨_, rfl, t, n, rfl, hi, by omega, q0⟩
end
end U

set_option Elab.async false
set_option maxRecDepth 100000
set_option linter.all false
set_option maxHeartbeats 8000000
namespace U
open PySem L2 TL Rl Tb
section
variable {P : Program} {w : World} {K : PySem.W.Frag} {mg : Str → Option Value} {base : Heap}
/-- the tables of the law's forms -/
def fmA : List (Key × V) := [(Sum.inr "set", .str "rn"), (Sum.inr "add", .str "rnnn"), (Sum.inr "cas", .str "rnnn"), (Sum.inr "swap", .str "rnnn"), (Sum.inr "take", .str "rn"), (Sum.inr "if", .str "rnn"), (Sum.inr "load", .str "r")]
def fmB : List (Key × V) := [(Sum.inr "wait", .str "rnnnn"), (Sum.inr "still", .str "rnnn"), (Sum.inr "wake", .str "rn"), (Sum.inr "move", .str "rrnn")]
theorem fm_all : ∀ p ∈ formsL, (valV fmA (Sum.inr p.1 : Key)).getD ((valV fmB (Sum.inr p.1 : Key)).getD (.str "")) = .str p.2 := by
  intro p hp
  simp only [formsL, List.mem_cons, List.not_mem_nil, or_false] at hp
  rcases hp with rfl | rfl | rfl | rfl | rfl | rfl | rfl | rfl | rfl | rfl | rfl <;> kernel_rfl
theorem fmA_merge : mergeK [] fmA = fmA := by kernel_rfl
theorem fmB_merge : mergeK [] fmB = fmB := by kernel_rfl
@[irreducible] def tFA : TE := tDispS [("set", "rn"), ("add", "rnnn"), ("cas", "rnnn"), ("swap", "rnnn"), ("take", "rn"), ("if", "rnn"), ("load", "r")]
@[irreducible] def tFB : TE := tDispS [("wait", "rnnnn"), ("still", "rnnn"), ("wake", "rn"), ("move", "rrnn")]
theorem tFA_ok {σ : L2.St} {H : Hp} {Q : VK} (q : ∀ p, H p = none → Q (.ref p) (upd H p (.dK fmA))) : tFA σ H Q := by
  unfold tFA
  intro p hp
  have := q p hp
  rw [← fmA_merge] at this
  exact this
theorem tFB_ok {σ : L2.St} {H : Hp} {Q : VK} (q : ∀ p, H p = none → Q (.ref p) (upd H p (.dK fmB))) : tFB σ H Q := by
  unfold tFB
  intro p hp
  have := q p hp
  rw [← fmB_merge] at this
  exact this
theorem pe_fa {X : Cx} {e : Expr} (h : PE X e (tDispS [("set", "rn"), ("add", "rnnn"), ("cas", "rnnn"), ("swap", "rnnn"), ("take", "rn"), ("if", "rnn"), ("load", "r")])) : PE X e tFA := by unfold tFA; exact h
theorem pe_fb {X : Cx} {e : Expr} (h : PE X e (tDispS [("wait", "rnnnn"), ("still", "rnnn"), ("wake", "rn"), ("move", "rrnn")])) : PE X e tFB := by unfold tFB; exact h
theorem scFm : FnScope ["_law_word", "_law_forms", "_law_more"] ["_law_word"] (defScope sForm) := ⟨rfl, rfl, rfl, by decide +kernel, rfl, by decide +kernel, by decide +kernel⟩
theorem ok_form {f : Addr} {fd : FuncData} (F : Fun K "_law_form" "_law_form" sForm f fd) (G : Glb mg) : FnOk P w K mg base CX0 2 f fd ["_law_word"] spForm := by
  refine F.ok scFm (fun vs H Q E h => ?_) (fun cdv A outer s H vs Q E hr h => ?_)
  · obtain ⟨w, fs, rfl, _⟩ := h
    rfl
  · obtain ⟨w, fs, rfl, hw, q⟩ := h
    have hu := hu_of hr
    have pe_dget2 := @pe_dget2
    have pe_dispS4 := @pe_dispS4
    have pe_dispS7 := @pe_dispS7
    have pe_fa := @pe_fa
    have pe_fb := @pe_fb
    have pe_str := @pe_str
    have ps_ret := @ps_ret
    have ps_set := @ps_set
    have pss_cons := @pss_cons
    have pss_one := @pss_one
    have pv := @pv
    revert pe_dget2 pe_dispS4 pe_dispS7 pe_fa pe_fb pe_str ps_ret ps_set pss_cons pss_one pv
    generalize @L2.PS = vPS
    generalize @L2.PSs = vPSs
    generalize @L2.PE = vPE
    generalize @L2.PT = vPT
    generalize @L2.PW = vPW
    generalize @L2.PA = vPA
    generalize @L2.PG = vPG
    generalize @L2.PI = vPI
    generalize @L2.PO = vPO
    generalize @L2.PTs = vPTs
    generalize @L2.PPs = vPPs
    generalize @L2.PGs = vPGs
    intro pe_dget2 pe_dispS4 pe_dispS7 pe_fa pe_fb pe_str ps_ret ps_set pss_cons pss_one pv
    refine ⟨_, (pss_cons (ps_set (i := 1) scFm.nd rfl (Or.inl rfl) (pe_fa pe_dispS7))
      (pss_cons (ps_set (i := 2) scFm.nd rfl (Or.inl rfl) (pe_fb pe_dispS4))
      (pss_one (ps_ret (pe_dget2 hu (pv 1) (pv 0) (pe_dget2 hu (pv 2) (pv 0) pe_str ⟨by rfl, by rfl, by rfl, by rfl⟩) ⟨by rfl, by rfl, by rfl, by rfl⟩))))), ?_⟩
    refine tFA_ok fun a ha => ?_
    have s1 := sameNew (o := .dK fmA) ha
    have g1 : (upd H a (.dK fmA)) a = some (.dK fmA) := upd_same
    generalize upd H a (.dK fmA) = H1 at s1 g1
    refine tFB_ok fun b hb => ?_
    have s2 := sameNew (o := .dK fmB) hb
    have g2 : (upd H1 b (.dK fmB)) b = some (.dK fmB) := upd_same
    have g12 := s2 _ _ g1
    generalize upd H1 b (.dK fmB) = H2 at s2 g2 g12
    refine ⟨_, rfl, a, rfl, (.inl ⟨_, .inl g12⟩), _, rfl, _, rfl, b, rfl, (.inl ⟨_, .inl g2⟩), _, rfl, _, DGet.k (k := Sum.inr w) g2, _, DGet.k (k := Sum.inr w) g12, ?_⟩
    rw [fm_all _ hw]
    exact q H2 (s1.trans s2)
end
end U

set_option Elab.async false
set_option maxRecDepth 100000
set_option linter.all false
set_option maxHeartbeats 8000000
namespace U
open PySem L2 TL Rl Tb Zp
/-! ### the law's letters of any word -/
abbrev dat {α : Type} (w : Str) (L : List (Str × α)) : Option α := PyProof.Rows.KTD.datumAt w L
theorem dat_cons {α : Type} {w x : Str} {d : α} {L : List (Str × α)} : dat w ((x, d) :: L) = if decide (w = x) = true then some d else dat w L := rfl
def lawForm (w : Str) : Str := (dat w formsL).getD ""
theorem dat_two {α β : Type} : ∀ {D : List (Str × α)} {L : List (Str × β)}, D.map (·.1) = L.map (·.1) → ∀ w, (dat w D = none ∧ dat w L = none) ∨ ∃ a b, dat w D = some a ∧ dat w L = some b ∧ (w, b) ∈ L
  | [], [], _, _ => .inl ⟨rfl, rfl⟩
  | (x, a) :: D, (y, b) :: L, h, w => by
    rw [List.map_cons, List.map_cons] at h
    injection h with h1 h2
    have h1' : x = y := h1
    subst h1'
    rw [dat_cons, dat_cons]
    by_cases e : w = x
    · rw [if_pos (decide_eq_true e), if_pos (decide_eq_true e)]
      exact .inr ⟨a, b, rfl, rfl, by rw [e]; exact List.mem_cons_self ..⟩
    · rw [if_neg (by rw [decide_eq_false e]; exact Bool.false_ne_true), if_neg (by rw [decide_eq_false e]; exact Bool.false_ne_true)]
      rcases dat_two h2 w with h | ⟨a', b', p, q, r⟩
      · exact .inl h
      · exact .inr ⟨a', b', p, q, List.mem_cons_of_mem _ r⟩
  | [], _ :: _, h, _ => nomatch h
  | _ :: _, [], h, _ => nomatch h
theorem forms_keys : formsD.map (·.1) = formsL.map (·.1) := by decide +kernel
theorem forms_full : (formsL.all fun p => !decide (V.str p.2 = V.str "")) = true := by decide +kernel
theorem form_cases (w : Str) : (formOf w = none ∧ lawForm w = "") ∨ ∃ ks, formOf w = some ks ∧ (w, lawForm w) ∈ formsL ∧ kf ks (tl (lawForm w)) = true ∧ (lawForm w).cps.all (· < 128) = true ∧ (tl (lawForm w)).length ≤ 5 ∧ V.str (lawForm w) ≠ V.str "" := by
  rcases dat_two forms_keys w with ⟨a, b⟩ | ⟨ks, fs, a, b, c⟩
  · refine .inl ⟨a, ?_⟩
    unfold lawForm
    rw [b]; rfl
  · have e : lawForm w = fs := by unfold lawForm; rw [b]; rfl
    obtain ⟨_, h5, hasc, ks', hk, hkf⟩ := RowOk.form c
    have : ks' = ks := by
      have a' : formOf w = some ks := a
      rw [hk] at a'; exact Option.some.inj a'
    subst this
    have hf := List.all_eq_true.mp forms_full _ c
    rw [Bool.not_eq_true', decide_eq_false_iff_not] at hf
    rw [e]
    exact .inr ⟨ks', hk, c, hkf, hasc, h5, hf⟩
theorem valV_strs (w : Str) : ∀ L : List (Str × Str), valV (L.map fun p => ((Sum.inr p.1 : Key), V.str p.2)) (Sum.inr w : Key) = (dat w L).map V.str
  | [] => rfl
  | (x, d) :: L => by
    have ih := valV_strs w L
    rw [dat_cons]
    unfold valV at ih ⊢
    rw [List.map_cons, List.find?_cons]
    by_cases e : w = x
    · subst e
      rw [show decide (((Sum.inr w : Key), V.str d).1 = (Sum.inr w : Key)) = true from decide_eq_true rfl, if_pos (decide_eq_true rfl)]
      rfl
    · rw [show decide (((Sum.inr x : Key), V.str d).1 = (Sum.inr w : Key)) = false from decide_eq_false fun z => e (by injection z with z; exact z.symm), if_neg (by rw [decide_eq_false e]; exact Bool.false_ne_true)]
      exact ih
theorem dat_append {α : Type} (w : Str) : ∀ A B : List (Str × α), dat w (A ++ B) = match dat w A with | some a => some a | none => dat w B
  | [], _ => rfl
  | (x, d) :: A, B => by
    rw [List.cons_append, dat_cons, dat_cons]
    by_cases e : w = x
    · rw [if_pos (decide_eq_true e), if_pos (decide_eq_true e)]
    · rw [if_neg (by rw [decide_eq_false e]; exact Bool.false_ne_true), if_neg (by rw [decide_eq_false e]; exact Bool.false_ne_true)]
      exact dat_append w A B
theorem fm_gen (w : Str) : (valV fmA (Sum.inr w : Key)).getD ((valV fmB (Sum.inr w : Key)).getD (.str "")) = .str (lawForm w) := by
  have ea : fmA = (formsL.take 7).map fun p => ((Sum.inr p.1 : Key), V.str p.2) := rfl
  have eb : fmB = (formsL.drop 7).map fun p => ((Sum.inr p.1 : Key), V.str p.2) := rfl
  rw [ea, eb, valV_strs, valV_strs]
  unfold lawForm
  rw [← List.take_append_drop 7 formsL, dat_append]
  rw [List.take_append_drop]
  cases dat w (formsL.take 7) with
  | some a => rfl
  | none => cases dat w (formsL.drop 7) <;> rfl
def spFormG : Sp := fun vs H Q _ => ∃ w : Str, vs = [.str w] ∧ ∀ H', Same H H' → Q (.str (lawForm w)) H'
section
variable {P : Program} {w : World} {K : PySem.W.Frag} {mg : Str → Option Value} {base : Heap}
theorem ok_formG {f : Addr} {fd : FuncData} (F : Fun K "_law_form" "_law_form" sForm f fd) (G : Glb mg) : FnOk P w K mg base CX0 2 f fd ["_law_word"] spFormG := by
  refine F.ok scFm (fun vs H Q E h => ?_) (fun cdv A outer s H vs Q E hr h => ?_)
  · obtain ⟨w, rfl, _⟩ := h
    rfl
  · obtain ⟨w, rfl, q⟩ := h
    have hu := hu_of hr
    have pe_dget2 := @pe_dget2
    have pe_dispS4 := @pe_dispS4
    have pe_dispS7 := @pe_dispS7
    have pe_fa := @pe_fa
    have pe_fb := @pe_fb
    have pe_str := @pe_str
    have ps_ret := @ps_ret
    have ps_set := @ps_set
    have pss_cons := @pss_cons
    have pss_one := @pss_one
    have pv := @pv
    revert pe_dget2 pe_dispS4 pe_dispS7 pe_fa pe_fb pe_str ps_ret ps_set pss_cons pss_one pv
    generalize @L2.PS = vPS
    generalize @L2.PSs = vPSs
    generalize @L2.PE = vPE
    generalize @L2.PT = vPT
    generalize @L2.PW = vPW
    generalize @L2.PC = vPC
    generalize @L2.PA = vPA
    generalize @L2.PG = vPG
    generalize @L2.PI = vPI
    generalize @L2.PO = vPO
    generalize @L2.PTs = vPTs
    generalize @L2.PPs = vPPs
    generalize @L2.PGs = vPGs
    generalize @L2.PK = vPK
    intro pe_dget2 pe_dispS4 pe_dispS7 pe_fa pe_fb pe_str ps_ret ps_set pss_cons pss_one pv
    refine ⟨_, (pss_cons (ps_set (i := 1) scFm.nd rfl (Or.inl rfl) (pe_fa pe_dispS7))
      (pss_cons (ps_set (i := 2) scFm.nd rfl (Or.inl rfl) (pe_fb pe_dispS4))
      (pss_one (ps_ret (pe_dget2 hu (pv 1) (pv 0) (pe_dget2 hu (pv 2) (pv 0) pe_str ⟨by rfl, by rfl, by rfl, by rfl⟩) ⟨by rfl, by rfl, by rfl, by rfl⟩))))), ?_⟩
    refine tFA_ok fun a ha => ?_
    have s1 := sameNew (o := .dK fmA) ha
    have g1 : (upd H a (.dK fmA)) a = some (.dK fmA) := upd_same
    generalize upd H a (.dK fmA) = H1 at s1 g1
    refine tFB_ok fun b hb => ?_
    have s2 := sameNew (o := .dK fmB) hb
    have g2 : (upd H1 b (.dK fmB)) b = some (.dK fmB) := upd_same
    have g12 := s2 _ _ g1
    generalize upd H1 b (.dK fmB) = H2 at s2 g2 g12
    refine ⟨_, rfl, a, rfl, (.inl ⟨_, .inl g12⟩), _, rfl, _, rfl, b, rfl, (.inl ⟨_, .inl g2⟩), _, rfl, _, DGet.k (k := Sum.inr w) g2, _, DGet.k (k := Sum.inr w) g12, ?_⟩
    rw [fm_gen]
    exact q H2 (s1.trans s2)
end
end U

set_option Elab.async false
set_option linter.all false
set_option maxRecDepth 100000
set_option maxHeartbeats 8000000
namespace Zp
open PySem L2
/-! ### zip(text, list) -/
def IsL (K : PySem.W.Frag) (x : Str) (b : Addr) : It :=
  ⟨fun i H => ∃ (ys : List V) (c : Nat) (v : V), SqL K H b ys ∧ x.cps[i]? = some c ∧ ys[i]? = some v,
    fun i H v H' => ∃ T c q, v = .ref T ∧ H T = none ∧ H' = upd H T (.tup [.str ⟨#[c]⟩, q]) ∧ x.cps[i]? = some c ∧ ∀ ys, SqL K H b ys → ys[i]? = some q,
    fun i H => i = x.cps.size ∧ ∃ ys : List V, SqL K H b ys⟩
theorem turn_zsL {P : Program} {w : World} {K : PySem.W.Frag} {elts : List Expr} {kk : Nat} {tpos : Pos} {x : Str} {tk0 : Tok} {b z TI TO i1 i2 : Addr} (D : Ap2 z TI TO i1 i2 [i1] [i2, b]) (nb : b ≠ i2) :
    Turn P w K (.Tuple elts kk tpos) (IsL K x b) [z, TI, TO, i1, i2] z (fun i h => IsZip h z TI TO .none ∧ IsPair h TI (.ref i1) (.ref i2) ∧ (∃ x y, IsPair h TO x y) ∧ h.IsStrIter i1 "str_ascii_iterator" x tk0 i ∧ h.IsListIter i2 b i) where
  mem := by simp
  obj := fun i h st c hc => by
    obtain ⟨hz, hTI, ⟨x, y, hTO⟩, ⟨o1, e1, _, d1⟩, ⟨o2, e2, _, d2⟩⟩ := st
    have e' : c = z ∨ c = TI ∨ c = TO ∨ c = i1 ∨ c = i2 := by simpa using hc
    rcases e' with q | q | q | q | q
    · rw [q]; exact ⟨_, hz, fun v q => nomatch q⟩
    · rw [q]; exact ⟨_, hTI, fun v q => nomatch q⟩
    · rw [q]; exact ⟨_, hTO, fun v q => nomatch q⟩
    · rw [q]; exact ⟨o1, e1, fun v q => by rw [d1] at q; cases q⟩
    · rw [q]; exact ⟨o2, e2, fun v q => by rw [d2] at q; cases q⟩
  keep := fun i h h' st k => by
    obtain ⟨hz, hTI, ⟨x, y, hTO⟩, h1, h2⟩ := st
    exact ⟨k z (by simp) _ hz, k TI (by simp) _ hTI, ⟨x, y, k TO (by simp) _ hTO⟩, (let ⟨o, ho, r⟩ := h1; ⟨o, k i1 (by simp) o ho, r⟩), h2.at fun o q => k i2 (by simp) o q⟩
  item := by
    intro X hP hw hK hc i pins s σ H E I hf st hg
    subst hP hw hK
    obtain ⟨hz, hTI, ⟨x0, y0, hTO⟩, h1, h2⟩ := st
    obtain ⟨ys, c, v, hqy, hxc, hy⟩ := hg
    obtain ⟨its2, rv2, p2, _⟩ := I.list hqy
    obtain ⟨u2, hu2, ru2⟩ := rv2.get hy
    have hzl : z < s.heap.objs.size := Heap.lt_size hz
    have l1 : i < x.cps.size := (Array.getElem?_eq_some_iff.mp hxc).1
    have l2 : i < its2.toArray.size := by
      have := (List.getElem?_eq_some_iff.mp hu2).1
      simpa using this
    refine next2_item (fun A hh => Draws.strAscii hh i1 x tk0) (fun A hh => Draws.list hh i2 b nb its2.toArray) (I.ok.hd hc) D hz hTI hTO h1 ⟨h2, p2.isList⟩ l1 l2 fun h' tk w1 w2 hw1 hw2 z' TO' s1' s2' hT hsz hk => ?_
    obtain ⟨c', tkc, hc', rfl⟩ := hw1
    have ec : c' = c := by rw [hxc] at hc'; exact (Option.some.inj hc').symm
    have ev2 : w2 = u2 := by
      have : its2[i]? = some w2 := by simpa using hw2
      rw [hu2] at this; exact (Option.some.inj this).symm
    subst ec ev2
    refine ⟨_, rfl, wpAny_letOwnedTupleGo_zip (s := { s with heap := h', toks := tk }) z' fun h'' z'' sb => ?_⟩
    have hT2 : h''.get? s.heap.objs.size = some { cls := .type "tuple", data := .seq #[.str ⟨#[c']⟩ tkc, w2] } := (sb.2 _ (Nat.ne_of_gt hzl)).trans hT
    have rs : RelV (.str ⟨#[c']⟩) (.str ⟨#[c']⟩ tkc) := ⟨_, rfl⟩
    have new : ObjOk X.prog X.w (upd H s.heap.objs.size (.tup [.str ⟨#[c']⟩, v])) h'' s.heap.objs.size (.tup [.str ⟨#[c']⟩, v]) :=
      ⟨by show 2 ≤ sizeLine; decide, [.str ⟨#[c']⟩ tkc, w2], .cons rs (.cons ru2 .nil), ⟨_, hT2, rfl, _, rfl⟩⟩
    have I1 : Inv X pins σ (upd H s.heap.objs.size (.tup [.str ⟨#[c']⟩, v])) { s with heap := h'', toks := tk } :=
      I.turnedNew (t' := tk) (ch := [z, TI, TO, i1, i2]) (fun c o hb q => (sb.2 c (fun q' => hb (by simp [q']))).trans (hk c o (fun q' => hb (by simp [q'])) (fun q' => hb (by simp [q'])) (fun q' => hb (by simp [q'])) (fun q' => hb (by simp [q'])) q)) hf (Nat.le_refl _) new
    refine ⟨.ref s.heap.objs.size, _, I1, rfl, ⟨_, c', v, rfl, I.hok.fresh (Nat.le_refl _), rfl, hxc, fun l hl => by rw [I.list_inj hl hqy]; exact hy⟩, ⟨z'', ?_, ⟨.str ⟨#[c']⟩ tkc, w2, ?_⟩, ?_, ?_⟩, fun c hcm => ?_⟩
    · exact (sb.2 _ D.TIz).trans (hk _ _ D.TIz D.TITO D.TIi1 D.TIi2 hTI)
    · exact (sb.2 _ D.TOz).trans TO'
    · obtain ⟨o, ho, r⟩ := s1'
      exact ⟨o, (sb.2 _ D.i1z).trans ho, r⟩
    · exact s2'.1.at fun o q => (sb.2 _ D.i2z).trans q
    · have hlt : c < s.heap.objs.size := by
        have e' : c = z ∨ c = TI ∨ c = TO ∨ c = i1 ∨ c = i2 := by simpa using hcm
        rcases e' with q | q | q | q | q
        · rw [q]; exact hzl
        · rw [q]; exact Heap.lt_size hTI
        · rw [q]; exact Heap.lt_size hTO
        · rw [q]; obtain ⟨_, e1, _⟩ := h1; exact Heap.lt_size e1
        · rw [q]; obtain ⟨_, e2, _⟩ := h2; exact Heap.lt_size e2
      rw [upd_ne (Nat.ne_of_lt hlt)]
      exact (hf c hcm).1
  done := by
    intro X hP hw hK hc i pins s σ H E I hf st hg
    subst hP hw hK
    obtain ⟨hz, hTI, ⟨x0, y0, hTO⟩, h1, h2⟩ := st
    obtain ⟨hi, ys, hqy⟩ := hg
    subst hi
    obtain ⟨its2, rv2, p2, _⟩ := I.list hqy
    exact next2_end (fun A hh => Draws.strAscii hh i1 x tk0) (fun A hh => Draws.list hh i2 b nb its2.toArray) (I.ok.hd hc) D hz hTI hTO h1 ⟨h2, p2.isList⟩ (.inl rfl) fun h' tk hk => ⟨rfl, I.turnedL (t' := tk) (ch := [z, TI, TO, i1, i2]) (fun c o hb q =>
      hk c o (fun q' => hb (by simp [q'])) (fun q' => hb (by simp [q'])) (fun q' => hb (by simp [q'])) (fun q' => hb (by simp [q'])) q) hf⟩
  self := fun A i s Q E st h => wpAny_pyIter_zip st.1 h
end Zp

set_option Elab.async false
set_option linter.all false
set_option maxRecDepth 100000
set_option maxHeartbeats 8000000
namespace Zp
open PySem L2
/-! ### zip(text, tuple) -/
def IsT (K : PySem.W.Frag) (x : Str) (b : Addr) : It :=
  ⟨fun i H => ∃ (ys : List V) (c : Nat) (v : V), SqT K H b ys ∧ x.cps[i]? = some c ∧ ys[i]? = some v,
    fun i H v H' => ∃ T c q, v = .ref T ∧ H T = none ∧ H' = upd H T (.tup [.str ⟨#[c]⟩, q]) ∧ x.cps[i]? = some c ∧ ∀ ys, SqT K H b ys → ys[i]? = some q,
    fun i H => i = x.cps.size ∧ ∃ ys : List V, SqT K H b ys⟩
theorem turn_zsT {P : Program} {w : World} {K : PySem.W.Frag} {elts : List Expr} {kk : Nat} {tpos : Pos} {x : Str} {tk0 : Tok} {b z TI TO i1 i2 : Addr} (D : Ap2 z TI TO i1 i2 [i1] [i2, b]) (nb : b ≠ i2) :
    Turn P w K (.Tuple elts kk tpos) (IsT K x b) [z, TI, TO, i1, i2] z (fun i h => IsZip h z TI TO .none ∧ IsPair h TI (.ref i1) (.ref i2) ∧ (∃ x y, IsPair h TO x y) ∧ h.IsStrIter i1 "str_ascii_iterator" x tk0 i ∧ h.IsTupleIter i2 b i) where
  mem := by simp
  obj := fun i h st c hc => by
    obtain ⟨hz, hTI, ⟨x, y, hTO⟩, ⟨o1, e1, _, d1⟩, ⟨o2, e2, _, d2⟩⟩ := st
    have e' : c = z ∨ c = TI ∨ c = TO ∨ c = i1 ∨ c = i2 := by simpa using hc
    rcases e' with q | q | q | q | q
    · rw [q]; exact ⟨_, hz, fun v q => nomatch q⟩
    · rw [q]; exact ⟨_, hTI, fun v q => nomatch q⟩
    · rw [q]; exact ⟨_, hTO, fun v q => nomatch q⟩
    · rw [q]; exact ⟨o1, e1, fun v q => by rw [d1] at q; cases q⟩
    · rw [q]; exact ⟨o2, e2, fun v q => by rw [d2] at q; cases q⟩
  keep := fun i h h' st k => by
    obtain ⟨hz, hTI, ⟨x, y, hTO⟩, h1, h2⟩ := st
    exact ⟨k z (by simp) _ hz, k TI (by simp) _ hTI, ⟨x, y, k TO (by simp) _ hTO⟩, (let ⟨o, ho, r⟩ := h1; ⟨o, k i1 (by simp) o ho, r⟩), h2.at fun o q => k i2 (by simp) o q⟩
  item := by
    intro X hP hw hK hc i pins s σ H E I hf st hg
    subst hP hw hK
    obtain ⟨hz, hTI, ⟨x0, y0, hTO⟩, h1, h2⟩ := st
    obtain ⟨ys, c, v, hqy, hxc, hy⟩ := hg
    obtain ⟨its2, rv2, p2, _⟩ := I.tuple hqy
    obtain ⟨u2, hu2, ru2⟩ := rv2.get hy
    have hzl : z < s.heap.objs.size := Heap.lt_size hz
    have l1 : i < x.cps.size := (Array.getElem?_eq_some_iff.mp hxc).1
    have l2 : i < its2.toArray.size := by
      have := (List.getElem?_eq_some_iff.mp hu2).1
      simpa using this
    refine next2_item (fun A hh => Draws.strAscii hh i1 x tk0) (fun A hh => drawsTup hh i2 b nb its2.toArray) (I.ok.hd hc) D hz hTI hTO h1 ⟨h2, p2⟩ l1 l2 fun h' tk w1 w2 hw1 hw2 z' TO' s1' s2' hT hsz hk => ?_
    obtain ⟨c', tkc, hc', rfl⟩ := hw1
    have ec : c' = c := by rw [hxc] at hc'; exact (Option.some.inj hc').symm
    have ev2 : w2 = u2 := by
      have : its2[i]? = some w2 := by simpa using hw2
      rw [hu2] at this; exact (Option.some.inj this).symm
    subst ec ev2
    refine ⟨_, rfl, wpAny_letOwnedTupleGo_zip (s := { s with heap := h', toks := tk }) z' fun h'' z'' sb => ?_⟩
    have hT2 : h''.get? s.heap.objs.size = some { cls := .type "tuple", data := .seq #[.str ⟨#[c']⟩ tkc, w2] } := (sb.2 _ (Nat.ne_of_gt hzl)).trans hT
    have rs : RelV (.str ⟨#[c']⟩) (.str ⟨#[c']⟩ tkc) := ⟨_, rfl⟩
    have new : ObjOk X.prog X.w (upd H s.heap.objs.size (.tup [.str ⟨#[c']⟩, v])) h'' s.heap.objs.size (.tup [.str ⟨#[c']⟩, v]) :=
      ⟨by show 2 ≤ sizeLine; decide, [.str ⟨#[c']⟩ tkc, w2], .cons rs (.cons ru2 .nil), ⟨_, hT2, rfl, _, rfl⟩⟩
    have I1 : Inv X pins σ (upd H s.heap.objs.size (.tup [.str ⟨#[c']⟩, v])) { s with heap := h'', toks := tk } :=
      I.turnedNew (t' := tk) (ch := [z, TI, TO, i1, i2]) (fun c o hb q => (sb.2 c (fun q' => hb (by simp [q']))).trans (hk c o (fun q' => hb (by simp [q'])) (fun q' => hb (by simp [q'])) (fun q' => hb (by simp [q'])) (fun q' => hb (by simp [q'])) q)) hf (Nat.le_refl _) new
    refine ⟨.ref s.heap.objs.size, _, I1, rfl, ⟨_, c', v, rfl, I.hok.fresh (Nat.le_refl _), rfl, hxc, fun l hl => by rw [I.tuple_inj hl hqy]; exact hy⟩, ⟨z'', ?_, ⟨.str ⟨#[c']⟩ tkc, w2, ?_⟩, ?_, ?_⟩, fun c hcm => ?_⟩
    · exact (sb.2 _ D.TIz).trans (hk _ _ D.TIz D.TITO D.TIi1 D.TIi2 hTI)
    · exact (sb.2 _ D.TOz).trans TO'
    · obtain ⟨o, ho, r⟩ := s1'
      exact ⟨o, (sb.2 _ D.i1z).trans ho, r⟩
    · exact s2'.1.at fun o q => (sb.2 _ D.i2z).trans q
    · have hlt : c < s.heap.objs.size := by
        have e' : c = z ∨ c = TI ∨ c = TO ∨ c = i1 ∨ c = i2 := by simpa using hcm
        rcases e' with q | q | q | q | q
        · rw [q]; exact hzl
        · rw [q]; exact Heap.lt_size hTI
        · rw [q]; exact Heap.lt_size hTO
        · rw [q]; obtain ⟨_, e1, _⟩ := h1; exact Heap.lt_size e1
        · rw [q]; obtain ⟨_, e2, _⟩ := h2; exact Heap.lt_size e2
      rw [upd_ne (Nat.ne_of_lt hlt)]
      exact (hf c hcm).1
  done := by
    intro X hP hw hK hc i pins s σ H E I hf st hg
    subst hP hw hK
    obtain ⟨hz, hTI, ⟨x0, y0, hTO⟩, h1, h2⟩ := st
    obtain ⟨hi, ys, hqy⟩ := hg
    subst hi
    obtain ⟨its2, rv2, p2, _⟩ := I.tuple hqy
    exact next2_end (fun A hh => Draws.strAscii hh i1 x tk0) (fun A hh => drawsTup hh i2 b nb its2.toArray) (I.ok.hd hc) D hz hTI hTO h1 ⟨h2, p2⟩ (.inl rfl) fun h' tk hk => ⟨rfl, I.turnedL (t' := tk) (ch := [z, TI, TO, i1, i2]) (fun c o hb q =>
      hk c o (fun q' => hb (by simp [q'])) (fun q' => hb (by simp [q'])) (fun q' => hb (by simp [q'])) (fun q' => hb (by simp [q'])) q) hf⟩
  self := fun A i s Q E st h => wpAny_pyIter_zip st.1 h
end Zp

set_option Elab.async false
set_option linter.all false
set_option maxRecDepth 100000
set_option maxHeartbeats 8000000
namespace Zp
open PySem L2
theorem meets_zsL (x : Str) (t : Tok) (ha : x.cps.all (· < 128) = true) (b : Addr) (ys : Array Value) :
    Meets (Builtin.«zip.__new__» ⟨[.type "zip", .str x t, .ref b], []⟩) (fun _ R s => s.heap.IsList b ys ∧ R (.ok (.ret (.ref (zH s.heap (strIt x t) (lstIt b)).objs.size))) { s with heap := zHz s.heap (strIt x t) (lstIt b) }) :=
  .of_wp fun prog w A R s h => by
    obtain ⟨hp, g, d, tk, os⟩ := s; obtain ⟨hl2, h⟩ := h
    have hsub := sub_zip
    have hL2 : Heap.IsList (Shared.heap ⟨hp.push (strIt x t), g, d, tk, os⟩) b ys := Heap.IsList.push hl2 _
    wp_walk using wpAny_pyIter_ascii ha, wpAny_pyIter_list hL2
    exact ⟨_, rfl, h⟩
end Zp

set_option Elab.async false
set_option linter.all false
set_option maxRecDepth 100000
set_option maxHeartbeats 8000000
namespace Zp
open PySem L2
theorem meets_zsT (x : Str) (t : Tok) (ha : x.cps.all (· < 128) = true) (b : Addr) (ys : Array Value) :
    Meets (Builtin.«zip.__new__» ⟨[.type "zip", .str x t, .ref b], []⟩) (fun _ R s => s.heap.IsTuple b ys ∧ R (.ok (.ret (.ref (zH s.heap (strIt x t) (tupIt b)).objs.size))) { s with heap := zHz s.heap (strIt x t) (tupIt b) }) :=
  .of_wp fun prog w A R s h => by
    obtain ⟨hp, g, d, tk, os⟩ := s; obtain ⟨hl2, h⟩ := h
    have hsub := sub_zip
    have hL2 : Heap.IsTuple (Shared.heap ⟨hp.push (strIt x t), g, d, tk, os⟩) b ys := Heap.IsTuple.push hl2 _
    wp_walk using wpAny_pyIter_ascii ha, wpAny_pyIter_tuple hL2
    exact ⟨_, rfl, h⟩
end Zp

set_option Elab.async false
set_option linter.all false
set_option maxRecDepth 100000
set_option maxHeartbeats 8000000
namespace Zp
open PySem PySem.Spec PyProof.Rows L2 PySem.W
theorem ap2_newS (I b : Nat) (h2 : b < I) : Ap2 (I + 4) (I + 2) (I + 3) I (I + 1) [I] [I + 1, b] := by
  constructor <;> first
    | (intro c hc; rw [List.mem_singleton.mp hc]; exact Nat.ne_of_lt (by omega))
    | (intro c hc; rw [List.mem_singleton.mp hc]; exact Nat.ne_of_gt (by omega))
    | (intro c hc; rcases List.mem_cons.mp hc with q | q
       · rw [q]; exact Nat.ne_of_lt (by omega)
       · rw [List.mem_singleton.mp q]; exact Nat.ne_of_lt (by omega))
    | (intro c hc; rcases List.mem_cons.mp hc with q | q
       · rw [q]; exact Nat.ne_of_gt (by omega)
       · rw [List.mem_singleton.mp q]; exact Nat.ne_of_lt (by omega))
    | exact Nat.ne_of_lt (by omega)
    | exact Nat.ne_of_gt (by omega)
section
variable {prog : Program} {w : World} {A : Around} {E : Value → Shared → Prop} {s : Shared}
theorem call_zsL {x : Str} {t : Tok} (ha : x.cps.all (· < 128) = true) {b : Addr} {ys : Array Value} {Q : Value → Shared → Prop} (h2 : s.heap.IsList b ys)
    (q : ∀ h', IsZip h' (s.heap.objs.size + 4) (s.heap.objs.size + 2) (s.heap.objs.size + 3) .none → IsPair h' (s.heap.objs.size + 2) (.ref s.heap.objs.size) (.ref (s.heap.objs.size + 1)) →
      IsPair h' (s.heap.objs.size + 3) .none .none → h'.IsStrIter s.heap.objs.size "str_ascii_iterator" x t 0 → h'.IsListIter (s.heap.objs.size + 1) b 0 →
      (∀ c o, s.heap.get? c = some o → h'.get? c = some o) → Q (.ref (s.heap.objs.size + 4)) { s with heap := h' }) :
    wpAny (model prog w) A (call (.type "zip") [.str x t, .ref b]) Q E s := by
  refine callType_new F.called_zip (by decide) (F.typeCall_zip_2 _ _) (F.newCall_zip_2 _ _) (fun obj => F.args_object_init_3 obj _ _) F.entry_zip_new (meets_zsL x t ha b ys) ⟨h2, ?_⟩
  have z1 : (s.heap.push (strIt x t)).objs.size = s.heap.objs.size + 1 := Heap.size_push ..
  have z2 : ((s.heap.push (strIt x t)).push (lstIt b)).objs.size = s.heap.objs.size + 2 := by rw [Heap.size_push, z1]
  have z3 : (((s.heap.push (strIt x t)).push (lstIt b)).push { cls := .type "tuple", data := .seq #[.ref s.heap.objs.size, .ref (s.heap.push (strIt x t)).objs.size] }).objs.size = s.heap.objs.size + 3 := by rw [Heap.size_push, z2]
  have z4 : (zH s.heap (strIt x t) (lstIt b)).objs.size = s.heap.objs.size + 4 := by rw [Heap.size_push, z3]
  have g5 : (zHz s.heap (strIt x t) (lstIt b)).get? (zH s.heap (strIt x t) (lstIt b)).objs.size = some _ := Heap.get?_push_size _ rfl
  have g4 : (zHz s.heap (strIt x t) (lstIt b)).get? (((s.heap.push (strIt x t)).push (lstIt b)).push { cls := .type "tuple", data := .seq #[.ref s.heap.objs.size, .ref (s.heap.push (strIt x t)).objs.size] }).objs.size = some _ := Heap.get?_push_of_some _ (Heap.get?_push_size _ rfl)
  have g3 : (zHz s.heap (strIt x t) (lstIt b)).get? ((s.heap.push (strIt x t)).push (lstIt b)).objs.size = some _ := Heap.get?_push_of_some _ (Heap.get?_push_of_some _ (Heap.get?_push_size _ rfl))
  have g2 : (zHz s.heap (strIt x t) (lstIt b)).get? (s.heap.push (strIt x t)).objs.size = some _ := Heap.get?_push_of_some _ (Heap.get?_push_of_some _ (Heap.get?_push_of_some _ (Heap.get?_push_size _ rfl)))
  have g1 : (zHz s.heap (strIt x t) (lstIt b)).get? s.heap.objs.size = some _ := Heap.get?_push_of_some _ (Heap.get?_push_of_some _ (Heap.get?_push_of_some _ (Heap.get?_push_of_some _ (Heap.get?_push_size _ rfl))))
  show _ ∧ _
  rw [z2, z3, z4] at g5
  rw [z1, z2] at g3
  rw [z3] at g4
  rw [z1] at g2
  rw [z4]
  exact ⟨⟨_, g5, rfl⟩, q _ g5 g3 g4 ⟨_, g1, rfl, rfl⟩ ⟨_, g2, rfl, rfl⟩ fun c o x =>
    Heap.get?_push_of_some _ (Heap.get?_push_of_some _ (Heap.get?_push_of_some _ (Heap.get?_push_of_some _ (Heap.get?_push_of_some _ x))))⟩
end
def iZipSL (K : PySem.W.Frag) (ta : TA) : TI := fun σ H R => ta σ H fun vs H1 => ∃ x b ys, vs = [.str x, .ref b] ∧ x.cps.all (· < 128) = true ∧ SqL K H1 b ys ∧ R (IsL K x b) H1
theorem pi_zipSL {X : Cx} {e e2 : Expr} {ta : TA} {p pos tpos : Pos} {elts : List Expr} {kk : Nat} (hg : Gl X "zip") (hm : X.mg "zip" = none) (ha : PA X [e, e2] ta)
    (hs : starEach [e, e2] X.env = (false, eval e X.env) :: starEach [e2] X.env := by rfl) (hpl : (backTo pos (starEach [e2] X.env)).any (·.1) = false := by rfl) :
    PI X (.Tuple elts kk tpos) (.Call (.Name "zip" p) [e, e2] [] pos) (iZipSL X.K ta) := by
  intro pins s σ H R I h
  refine Call_ (ld_blt I hg hm boot_zip5 (PyProof.Rows.callWith_type1 (thn (ha pos pins s σ H _ I h) fun us s1 ⟨vs, H1, I1, r1, q1⟩ => ?_) hs hpl))
  obtain ⟨x, b, ys, ex, hasc, hqy, q⟩ := q1
  subst ex
  cases r1 with
  | cons r0 rr =>
    cases rr with
    | cons r' rr =>
      cases rr
      cases r'
      obtain ⟨tx, rfl⟩ := r0
      obtain ⟨its2, rv2, p2, _⟩ := I1.list hqy
      have lb : b < s1.heap.objs.size := p2.lt
      refine call_zsL hasc p2.isList fun h' hz hTI hTO h1 h2 hk => wpAny_pyIter_zip hz ?_
      have I2 : Inv X pins σ H1 { s1 with heap := h' } := I1.kept (t' := s1.toks) hk
      refine ⟨s1.heap.objs.size + 4, [s1.heap.objs.size + 4, s1.heap.objs.size + 2, s1.heap.objs.size + 3, s1.heap.objs.size, s1.heap.objs.size + 1], _, _, H1, rfl, I2, turn_zsL (ap2_newS _ b lb) (Nat.ne_of_lt (Nat.lt_succ_of_lt lb)), ⟨hz, hTI, ⟨_, _, hTO⟩, h1, h2⟩, fun c hcm => ?_, q⟩
      have e' : c = s1.heap.objs.size + 4 ∨ c = s1.heap.objs.size + 2 ∨ c = s1.heap.objs.size + 3 ∨ c = s1.heap.objs.size ∨ c = s1.heap.objs.size + 1 := by simpa using hcm
      have hle : s1.heap.objs.size ≤ c := by
        rcases e' with z | z | z | z | z
        · rw [z]; exact Nat.le_add_right _ _
        · rw [z]; exact Nat.le_add_right _ _
        · rw [z]; exact Nat.le_add_right _ _
        · rw [z]; exact Nat.le_refl _
        · rw [z]; exact Nat.le_add_right _ _
      exact I1.fpOk hle (I1.hok.fresh hle)
/-- for a, b in zip(text, list) -/
theorem for_zipSL {K : PySem.W.Frag} {z : Str} {b : Addr} {ys : List V} (hy : z.cps.size ≤ ys.length) {g : TG} {tb : TS} {D : Ends} {σ : L2.St} {H : Hp} (Pv : Nat → L2.St → Hp → Prop) (h0 : Pv 0 σ H) (hl : ∀ i σ H, i ≤ z.cps.size → Pv i σ H → SqL K H b ys)
    (hs : ∀ i c y σ H T, z.cps[i]? = some c → ys[i]? = some y → Pv i σ H → H T = none → g (.ref T) σ (upd H T (.tup [.str ⟨#[c]⟩, y])) fun σ2 H2 => tb { D with nx := Pv (i + 1), ct := Pv (i + 1), bk := D.nx } σ2 H2) (hd : ∀ σ H, Pv z.cps.size σ H → D.nx σ H) :
    ∃ W : Nat → Nat → L2.St → Hp → Prop, (∃ m, W 0 m σ H) ∧ ∀ i m σ H, W i m σ H →
      ((IsL K z b).stop i H ∧ D.nx σ H) ∨ ((IsL K z b).go i H ∧ ∃ N : L2.St → Hp → Prop, (∀ σ' H', N σ' H' → ∃ m', m' < m ∧ W (i + 1) m' σ' H') ∧ ∀ x H', (IsL K z b).yld i H x H' → g x σ H' fun σ2 H2 => tb { D with nx := N, ct := N, bk := D.nx } σ2 H2) := by
  refine ⟨fun i m σ H => m = z.cps.size - i ∧ i ≤ z.cps.size ∧ Pv i σ H, ⟨z.cps.size, by simp, Nat.zero_le _, h0⟩, ?_⟩
  rintro i m σ H ⟨rfl, hi, p⟩
  have qb := hl i σ H hi p
  by_cases hlt : i < z.cps.size
  · have ly : i < ys.length := by omega
    refine .inr ⟨⟨ys, z.cps[i], ys[i], qb, by simp [hlt], by simp [ly]⟩, Pv (i + 1), fun σ' H' p' => ⟨z.cps.size - (i + 1), by omega, rfl, hlt, p'⟩, fun v H' y => ?_⟩
    obtain ⟨T, c, y, ev, hT, e, hc, hy⟩ := y
    subst e ev
    exact hs i c y σ H T hc (hy ys qb) p hT
  · have e : i = z.cps.size := by omega
    subst e
    exact .inl ⟨⟨rfl, ys, qb⟩, hd σ H p⟩
section
variable {prog : Program} {w : World} {A : Around} {E : Value → Shared → Prop} {s : Shared}
theorem call_zsT {x : Str} {t : Tok} (ha : x.cps.all (· < 128) = true) {b : Addr} {ys : Array Value} {Q : Value → Shared → Prop} (h2 : s.heap.IsTuple b ys)
    (q : ∀ h', IsZip h' (s.heap.objs.size + 4) (s.heap.objs.size + 2) (s.heap.objs.size + 3) .none → IsPair h' (s.heap.objs.size + 2) (.ref s.heap.objs.size) (.ref (s.heap.objs.size + 1)) →
      IsPair h' (s.heap.objs.size + 3) .none .none → h'.IsStrIter s.heap.objs.size "str_ascii_iterator" x t 0 → h'.IsTupleIter (s.heap.objs.size + 1) b 0 →
      (∀ c o, s.heap.get? c = some o → h'.get? c = some o) → Q (.ref (s.heap.objs.size + 4)) { s with heap := h' }) :
    wpAny (model prog w) A (call (.type "zip") [.str x t, .ref b]) Q E s := by
  refine callType_new F.called_zip (by decide) (F.typeCall_zip_2 _ _) (F.newCall_zip_2 _ _) (fun obj => F.args_object_init_3 obj _ _) F.entry_zip_new (meets_zsT x t ha b ys) ⟨h2, ?_⟩
  have z1 : (s.heap.push (strIt x t)).objs.size = s.heap.objs.size + 1 := Heap.size_push ..
  have z2 : ((s.heap.push (strIt x t)).push (tupIt b)).objs.size = s.heap.objs.size + 2 := by rw [Heap.size_push, z1]
  have z3 : (((s.heap.push (strIt x t)).push (tupIt b)).push { cls := .type "tuple", data := .seq #[.ref s.heap.objs.size, .ref (s.heap.push (strIt x t)).objs.size] }).objs.size = s.heap.objs.size + 3 := by rw [Heap.size_push, z2]
  have z4 : (zH s.heap (strIt x t) (tupIt b)).objs.size = s.heap.objs.size + 4 := by rw [Heap.size_push, z3]
  have g5 : (zHz s.heap (strIt x t) (tupIt b)).get? (zH s.heap (strIt x t) (tupIt b)).objs.size = some _ := Heap.get?_push_size _ rfl
  have g4 : (zHz s.heap (strIt x t) (tupIt b)).get? (((s.heap.push (strIt x t)).push (tupIt b)).push { cls := .type "tuple", data := .seq #[.ref s.heap.objs.size, .ref (s.heap.push (strIt x t)).objs.size] }).objs.size = some _ := Heap.get?_push_of_some _ (Heap.get?_push_size _ rfl)
  have g3 : (zHz s.heap (strIt x t) (tupIt b)).get? ((s.heap.push (strIt x t)).push (tupIt b)).objs.size = some _ := Heap.get?_push_of_some _ (Heap.get?_push_of_some _ (Heap.get?_push_size _ rfl))
  have g2 : (zHz s.heap (strIt x t) (tupIt b)).get? (s.heap.push (strIt x t)).objs.size = some _ := Heap.get?_push_of_some _ (Heap.get?_push_of_some _ (Heap.get?_push_of_some _ (Heap.get?_push_size _ rfl)))
  have g1 : (zHz s.heap (strIt x t) (tupIt b)).get? s.heap.objs.size = some _ := Heap.get?_push_of_some _ (Heap.get?_push_of_some _ (Heap.get?_push_of_some _ (Heap.get?_push_of_some _ (Heap.get?_push_size _ rfl))))
  show _ ∧ _
  rw [z2, z3, z4] at g5
  rw [z1, z2] at g3
  rw [z3] at g4
  rw [z1] at g2
  rw [z4]
  exact ⟨⟨_, g5, rfl⟩, q _ g5 g3 g4 ⟨_, g1, rfl, rfl⟩ ⟨_, g2, rfl, rfl⟩ fun c o x =>
    Heap.get?_push_of_some _ (Heap.get?_push_of_some _ (Heap.get?_push_of_some _ (Heap.get?_push_of_some _ (Heap.get?_push_of_some _ x))))⟩
end
def iZipST (K : PySem.W.Frag) (ta : TA) : TI := fun σ H R => ta σ H fun vs H1 => ∃ x b ys, vs = [.str x, .ref b] ∧ x.cps.all (· < 128) = true ∧ SqT K H1 b ys ∧ R (IsT K x b) H1
theorem pi_zipST {X : Cx} {e e2 : Expr} {ta : TA} {p pos tpos : Pos} {elts : List Expr} {kk : Nat} (hg : Gl X "zip") (hm : X.mg "zip" = none) (ha : PA X [e, e2] ta)
    (hs : starEach [e, e2] X.env = (false, eval e X.env) :: starEach [e2] X.env := by rfl) (hpl : (backTo pos (starEach [e2] X.env)).any (·.1) = false := by rfl) :
    PI X (.Tuple elts kk tpos) (.Call (.Name "zip" p) [e, e2] [] pos) (iZipST X.K ta) := by
  intro pins s σ H R I h
  refine Call_ (ld_blt I hg hm boot_zip5 (PyProof.Rows.callWith_type1 (thn (ha pos pins s σ H _ I h) fun us s1 ⟨vs, H1, I1, r1, q1⟩ => ?_) hs hpl))
  obtain ⟨x, b, ys, ex, hasc, hqy, q⟩ := q1
  subst ex
  cases r1 with
  | cons r0 rr =>
    cases rr with
    | cons r' rr =>
      cases rr
      cases r'
      obtain ⟨tx, rfl⟩ := r0
      obtain ⟨its2, rv2, p2, _⟩ := I1.tuple hqy
      have lb : b < s1.heap.objs.size := (by
        obtain ⟨o, e, _⟩ := (show s1.heap.IsTuple b its2.toArray from p2)
        exact Heap.lt_size e)
      refine call_zsT hasc p2 fun h' hz hTI hTO h1 h2 hk => wpAny_pyIter_zip hz ?_
      have I2 : Inv X pins σ H1 { s1 with heap := h' } := I1.kept (t' := s1.toks) hk
      refine ⟨s1.heap.objs.size + 4, [s1.heap.objs.size + 4, s1.heap.objs.size + 2, s1.heap.objs.size + 3, s1.heap.objs.size, s1.heap.objs.size + 1], _, _, H1, rfl, I2, turn_zsT (ap2_newS _ b lb) (Nat.ne_of_lt (Nat.lt_succ_of_lt lb)), ⟨hz, hTI, ⟨_, _, hTO⟩, h1, h2⟩, fun c hcm => ?_, q⟩
      have e' : c = s1.heap.objs.size + 4 ∨ c = s1.heap.objs.size + 2 ∨ c = s1.heap.objs.size + 3 ∨ c = s1.heap.objs.size ∨ c = s1.heap.objs.size + 1 := by simpa using hcm
      have hle : s1.heap.objs.size ≤ c := by
        rcases e' with z | z | z | z | z
        · rw [z]; exact Nat.le_add_right _ _
        · rw [z]; exact Nat.le_add_right _ _
        · rw [z]; exact Nat.le_add_right _ _
        · rw [z]; exact Nat.le_refl _
        · rw [z]; exact Nat.le_add_right _ _
      exact I1.fpOk hle (I1.hok.fresh hle)
/-- for a, b in zip(text, tuple) -/
theorem for_zipST {K : PySem.W.Frag} {z : Str} {b : Addr} {ys : List V} (hy : z.cps.size ≤ ys.length) {g : TG} {tb : TS} {D : Ends} {σ : L2.St} {H : Hp} (Pv : Nat → L2.St → Hp → Prop) (h0 : Pv 0 σ H) (hl : ∀ i σ H, i ≤ z.cps.size → Pv i σ H → SqT K H b ys)
    (hs : ∀ i c y σ H T, z.cps[i]? = some c → ys[i]? = some y → Pv i σ H → H T = none → g (.ref T) σ (upd H T (.tup [.str ⟨#[c]⟩, y])) fun σ2 H2 => tb { D with nx := Pv (i + 1), ct := Pv (i + 1), bk := D.nx } σ2 H2) (hd : ∀ σ H, Pv z.cps.size σ H → D.nx σ H) :
    ∃ W : Nat → Nat → L2.St → Hp → Prop, (∃ m, W 0 m σ H) ∧ ∀ i m σ H, W i m σ H →
      ((IsT K z b).stop i H ∧ D.nx σ H) ∨ ((IsT K z b).go i H ∧ ∃ N : L2.St → Hp → Prop, (∀ σ' H', N σ' H' → ∃ m', m' < m ∧ W (i + 1) m' σ' H') ∧ ∀ x H', (IsT K z b).yld i H x H' → g x σ H' fun σ2 H2 => tb { D with nx := N, ct := N, bk := D.nx } σ2 H2) := by
  refine ⟨fun i m σ H => m = z.cps.size - i ∧ i ≤ z.cps.size ∧ Pv i σ H, ⟨z.cps.size, by simp, Nat.zero_le _, h0⟩, ?_⟩
  rintro i m σ H ⟨rfl, hi, p⟩
  have qb := hl i σ H hi p
  by_cases hlt : i < z.cps.size
  · have ly : i < ys.length := by omega
    refine .inr ⟨⟨ys, z.cps[i], ys[i], qb, by simp [hlt], by simp [ly]⟩, Pv (i + 1), fun σ' H' p' => ⟨z.cps.size - (i + 1), by omega, rfl, hlt, p'⟩, fun v H' y => ?_⟩
    obtain ⟨T, c, y, ev, hT, e, hc, hy⟩ := y
    subst e ev
    exact hs i c y σ H T hc (hy ys qb) p hT
  · have e : i = z.cps.size := by omega
    subst e
    exact .inl ⟨⟨rfl, ys, qb⟩, hd σ H p⟩
end Zp

set_option Elab.async false
set_option maxRecDepth 100000
set_option linter.all false
set_option maxHeartbeats 8000000
namespace U
open PySem L2 TL Rl Tb Zp
/-! ### the law's own reading of a row -/
theorem kf_at : ∀ {ks : List Str} {cs : List Nat}, kf ks cs = true → ∀ {i : Nat} {k : Str} {c : Nat}, ks[i]? = some k → cs[i]? = some c → (c = 114 ∧ k = "room") ∨ (c = 110 ∧ k ≠ "room" ∧ k ≠ "key" ∧ k ≠ "guest")
  | [], [], _, _, _, _, h, _ => by simp at h
  | k0 :: ks, c0 :: cs, h, i, k, c, hk, hc => by
    have h : (((c0 == 114 && k0 == "room") || (c0 == 110 && !(k0 == "room") && !(k0 == "key") && !(k0 == "guest"))) && kf ks cs) = true := h
    rw [Bool.and_eq_true] at h
    cases i with
    | zero =>
      cases hk; cases hc
      have h1 := h.1
      simp only [Bool.or_eq_true, Bool.and_eq_true, beq_iff_eq, Bool.not_eq_true', beq_eq_false_iff_ne] at h1
      rcases h1 with h1 | h1
      · exact .inl h1
      · exact .inr ⟨h1.1.1.1, h1.1.1.2, h1.1.2, h1.2⟩
    | succ i => exact kf_at h.2 (i := i) hk hc
  | [], _ :: _, h, _, _, _, _, _ => nomatch h
  | _ :: _, [], h, _, _, _, _, _ => nomatch h
theorem kf_len : ∀ {ks : List Str} {cs : List Nat}, kf ks cs = true → ks.length = cs.length
  | [], [], _ => rfl
  | k :: ks, c :: cs, h => by
    have h : (((c == 114 && k == "room") || (c == 110 && !(k == "room") && !(k == "key") && !(k == "guest"))) && kf ks cs) = true := h
    rw [Bool.and_eq_true] at h
    rw [List.length_cons, List.length_cons, kf_len h.2]
  | [], _ :: _, h => nomatch h
  | _ :: _, [], h => nomatch h
def rdV (wd : Str) : V := if isName wd = true then .str wd else .non
def rdN (wd : Str) : V := if isNum wd = true then .int ((PySem.intText? wd).getD 0) else .non
theorem part_room (wd : Str) : (partV "room" wd).getD .non = rdV wd ∧ ((partV "room" wd).isSome = true ↔ rdV wd ≠ .non) := by
  unfold partV rdV
  rw [if_pos (.inl rfl)]
  split
  · exact ⟨rfl, fun _ z => (nomatch z), fun _ => rfl⟩
  · exact ⟨rfl, fun z => (nomatch z), fun z => absurd rfl z⟩
theorem part_num {k : Str} (wd : Str) (h1 : k ≠ "room") (h2 : k ≠ "key") (h3 : k ≠ "guest") : (partV k wd).getD .non = rdN wd ∧ ((partV k wd).isSome = true ↔ rdN wd ≠ .non) := by
  unfold partV rdN
  rw [if_neg (fun z => z.elim h1 h2)]
  by_cases hn : isNum wd = true
  · rw [if_pos hn, if_neg (fun z => h3 z.1), if_pos hn]
    exact ⟨rfl, fun _ z => (nomatch z), fun _ => rfl⟩
  · rw [if_neg hn, if_neg hn]
    exact ⟨rfl, fun z => (nomatch z), fun z => absurd rfl z⟩
theorem parts_yes : ∀ {ks ws : List Str}, ws.length = ks.length → (∀ (i : Nat) (k w : Str), ks[i]? = some k → ws[i]? = some w → (partV k w).isSome = true) → partsOk ks ws = true
  | [], [], _, _ => rfl
  | k :: ks, w :: ws, h, hs => by
    show ((partV k w).isSome && partsOk ks ws) = true
    rw [hs 0 k w rfl rfl, parts_yes (by simpa using h) fun i k w a b => hs (i + 1) k w a b]; rfl
  | [], _ :: _, h, _ => by simp at h
  | _ :: _, [], h, _ => by simp at h
theorem parts_no : ∀ {ks ws : List Str} {i : Nat} {k w : Str}, ks[i]? = some k → ws[i]? = some w → (partV k w).isSome = false → partsOk ks ws = false
  | k0 :: ks, w0 :: ws, 0, k, w, hk, hw, h => by
    cases hk; cases hw
    show ((partV k0 w0).isSome && partsOk ks ws) = false
    rw [h]; rfl
  | k0 :: ks, w0 :: ws, i + 1, k, w, hk, hw, h => by
    show ((partV k0 w0).isSome && partsOk ks ws) = false
    rw [parts_no (ks := ks) (ws := ws) (i := i) hk hw h, Bool.and_false]
  | [], _, _, _, _, hk, _, _ => by simp at hk
  | _ :: _, [], _, _, _, _, hw, _ => by simp at hw
def spDue : Sp := fun vs H Q _ => ∃ t : Str, vs = [.str t] ∧ t.length ≤ 100000 ∧ ∀ v H', Same H H' → ((rowV t = none ∧ v = .non) ∨ ∃ p xs, rowV t = some xs ∧ v = .ref p ∧ H' p = some (.tup xs)) → Q v H'
section
variable {P : Program} {w : World} {K : PySem.W.Frag} {mg : Str → Option Value} {base : Heap}
theorem scDu : FnScope ["_law_text_here", "_law_words_here", "_law_form_here", "_law_row_here", "_law_letter", "_law_word", "_law_part"] ["_law_text_here"] (defScope sDue) := ⟨rfl, rfl, rfl, by decide +kernel, rfl, by decide +kernel, by decide +kernel⟩
theorem ok_due {f fW fF fN fM : Addr} {fd fdW fdF fdN fdM : FuncData} (F : Fun K "_law_due" "_law_due" sDue f fd) (G : Glb mg) (gz : mg "zip" = none)
    (GW : FnOk P w K mg base CX0 1 fW fdW ["_law_text_here"] spWords) (mgW : mg "_law_words" = some (.ref fW)) (kpW : PySem.W.keepIn K (.ref fW) = true) (bW : Binds K fdW ["_law_text_here"] [])
    (GF : FnOk P w K mg base CX0 2 fF fdF ["_law_word"] spFormG) (mgF : mg "_law_form" = some (.ref fF)) (kpF : PySem.W.keepIn K (.ref fF) = true) (bF : Binds K fdF ["_law_word"] [])
    (GN : FnOk P w K mg base CX0 1 fN fdN ["_law_word"] spRdName) (mgN : mg "_law_read_name" = some (.ref fN)) (kpN : PySem.W.keepIn K (.ref fN) = true) (bN : Binds K fdN ["_law_word"] [])
    (GM : FnOk P w K mg base CX0 1 fM fdM ["_law_word"] spRdNum) (mgM : mg "_law_read_number" = some (.ref fM)) (kpM : PySem.W.keepIn K (.ref fM) = true) (bM : Binds K fdM ["_law_word"] []) :
    FnOk P w K mg base CX0 3 f fd ["_law_text_here"] spDue := by
  refine F.ok scDu (fun vs H Q E h => ?_) (fun cdv A outer s H vs Q E hr h => ?_)
  · obtain ⟨t, rfl, _⟩ := h
    rfl
  · obtain ⟨t, rfl, ht, q⟩ := h
    have hr2 : Room 2 _ := hr
    have hr1 : Room 1 _ := hr.mono (by decide)
    have zz : 200000 < sizeLine := by rw [sizeLine_eq]; decide
    have PWpt := @PW.pt
    have pa_cons := @pa_cons
    have pa_nil := @pa_nil
    have pe_bm := @pe_bm
    have pe_call := @pe_call
    have pe_callB := @pe_callB
    have pe_callTy := @pe_callTy
    have pe_cmpR := @pe_cmpR
    have pe_int := @pe_int
    have pe_ix := @pe_ix
    have pe_lst := @pe_lst
    have pe_non := @pe_non
    have pe_op := @pe_op
    have pe_slice := @pe_slice
    have pe_str := @pe_str
    have pg_name := @pg_name
    have pg_tup := @pg_tup
    have pgs_cons := @pgs_cons
    have pgs_nil := @pgs_nil
    have pi_zipSL := @pi_zipSL
    have po_none := @po_none
    have po_some := @po_some
    have ps_expr := @ps_expr
    have ps_for := @ps_for
    have ps_if := @ps_if
    have ps_ret := @ps_ret
    have ps_set := @ps_set
    have pss_cons := @pss_cons
    have pss_cut := @pss_cut
    have pss_nil := @pss_nil
    have pss_one := @pss_one
    have pt_cmpR := @pt_cmpR
    have pv := @pv
    have pw_or := @pw_or
    have pw_or1 := @pw_or1
    revert PWpt pa_cons pa_nil pe_bm pe_call pe_callB pe_callTy pe_cmpR pe_int pe_ix pe_lst pe_non pe_op pe_slice pe_str pg_name pg_tup pgs_cons pgs_nil pi_zipSL po_none po_some ps_expr ps_for ps_if ps_ret ps_set pss_cons pss_cut pss_nil pss_one pt_cmpR pv pw_or pw_or1
    generalize @L2.PS = vPS
    generalize @L2.PSs = vPSs
    generalize @L2.PE = vPE
    generalize @L2.PT = vPT
    generalize @L2.PW = vPW
    generalize @L2.PC = vPC
    generalize @L2.PA = vPA
    generalize @L2.PG = vPG
    generalize @L2.PI = vPI
    generalize @L2.PO = vPO
    generalize @L2.PTs = vPTs
    generalize @L2.PPs = vPPs
    generalize @L2.PGs = vPGs
    generalize @L2.PK = vPK
    intro PWpt pa_cons pa_nil pe_bm pe_call pe_callB pe_callTy pe_cmpR pe_int pe_ix pe_lst pe_non pe_op pe_slice pe_str pg_name pg_tup pgs_cons pgs_nil pi_zipSL po_none po_some ps_expr ps_for ps_if ps_ret ps_set pss_cons pss_cut pss_nil pss_one pt_cmpR pv pw_or pw_or1
    refine ⟨_, (pss_cons (ps_set (i := 1) scDu.nd rfl (Or.inl rfl) (pe_call GW hr1 (by rfl) mgW kpW bW .nil pass0 (pa_cons (pv 0) pa_nil)))
      (pss_cons (ps_set (i := 2) scDu.nd rfl (Or.inl rfl) (pe_call GF hr2 (by rfl) mgF kpF bF .nil pass0 (pa_cons (pe_ix ix_list (pv 1) pe_int (fun _ _ => rfl)) pa_nil)))
      (pss_cut (ps_if (PWpt (pw_or (pt_cmpR op_eq (pv 2) pe_str (nomark _)) (pw_or1 (pt_cmpR op_ne (pe_callB call_len_seq (by rfl) G.len PySem.boot_len (pa_cons (pv 1) pa_nil)) (pe_op op_add (pe_callB call_len_str (by rfl) G.len PySem.boot_len (pa_cons (pv 2) pa_nil)) pe_int) (nomark _))))) (pss_one (ps_ret pe_non)) pss_nil)
      (pss_cons (ps_set (i := 3) scDu.nd rfl (Or.inl rfl) (pe_lst (pa_cons (pe_ix ix_list (pv 1) pe_int (fun _ _ => rfl)) pa_nil)))
      (pss_cut (ps_for PassesOwn.never rfl (pi_zipSL (by rfl) gz (pa_cons (pv 2) (pa_cons (pe_slice sl_list (pv 1) (po_some pe_int) po_none) pa_nil)))
        (pg_tup rfl (pgs_cons (pg_name (i := 4) scDu.nd rfl (Or.inl rfl)) (pgs_cons (pg_name (i := 5) scDu.nd rfl (Or.inl rfl)) pgs_nil)))
        (pss_cons (ps_set (i := 6) scDu.nd rfl (Or.inl rfl) (pe_ix ix_list (pe_lst (pa_cons (pe_call GN hr1 (by rfl) mgN kpN bN .nil pass0 (pa_cons (pv 5) pa_nil)) (pa_cons (pe_call GM hr1 (by rfl) mgM kpM bM .nil pass0 (pa_cons (pv 5) pa_nil)) pa_nil))) (pe_callTy call_int1 (by rfl) G.int (by decide +kernel) (pa_cons (pe_cmpR op_eq (pv 4) pe_str (nomark _)) pa_nil)) (fun _ _ => rfl)))
        (pss_cut (ps_if (pt_cmpR op_isN (pv 6) pe_non (nomark _)) (pss_one (ps_ret pe_non)) pss_nil)
        (pss_one (ps_expr (pe_bm PySem.F.plainAttrs_list PySem.F.slot_list_append PySem.F.type_list_append mt_append (pv 3) (pa_cons (pv 6) pa_nil)))))))
      (pss_one (ps_ret (pe_callTy call_tuple_of (by rfl) G.tuple (by decide +kernel) (pa_cons (pv 3) pa_nil))))))))), ?_⟩
    refine ⟨_, rfl, t, rfl, ht, fun l H1 hl s1 g1 => ?_⟩
    obtain ⟨wd, ws, es⟩ := split_cons t
    have er : rowV t = wordsV (wd :: ws) := by unfold rowV; rw [es]
    have small : ∀ x ∈ ws, x.length ≤ 100000 := fun x hx => by
      have := split_small (t := t) (p := x) (by rw [es]; exact List.mem_cons_of_mem _ hx)
      omega
    rw [es] at g1
    refine ⟨_, rfl, l, _, _, _, rfl, rfl, SqL.of g1, atI_nat (j := 0) rfl, wd, rfl, fun H2 s2 => ?_⟩
    have g2 := s2 _ _ g1
    have s02 := s1.trans s2
    refine ⟨fun σ' H' => σ' = [some (.str t), some (.ref l), some (.str (lawForm wd)), none, none, none, none] ∧ H' = H2 ∧ ∃ ks, formOf wd = some ks ∧ kf ks (tl (lawForm wd)) = true ∧ (lawForm wd).cps.all (· < 128) = true ∧ (tl (lawForm wd)).length ≤ 5 ∧ ws.length = ks.length, ?_, ?_⟩
    · refine ⟨_, rfl, rfl, _, rfl, ?_⟩
      rcases form_cases wd with ⟨hn, hf⟩ | ⟨ks, hks, hm, hkf, hasc, h5, hne⟩
      · refine iteT' (decide_eq_true (by rw [hf])) (iteT (q .non H2 s02 (.inl ⟨?_, rfl⟩)))
        rw [er]
        show (match formOf wd with | none => none | some ks => (partsV ks ws).map (V.str wd :: ·)) = none
        rw [hn]
      · refine iteF' (decide_eq_false hne) ?_
        have hfl : (lawForm wd).length ≤ 5 := by rw [len_tl]; exact h5
        have hkl := kf_len hkf
        refine ⟨_, rfl, l, _, rfl, .inl (SqL.of g2), _, rfl, _, rfl, by omega, _, _, rfl, rfl, rfl, _, rfl, ?_⟩
        by_cases hl : ws.length = ks.length
        · refine iteF' ?_ ⟨rfl, rfl, ks, hks, hkf, hasc, h5, hl⟩
          rw [decide_eq_true (by rw [len_tl, ← hkl, List.length_map, List.length_cons, hl]; rfl)]; rfl
        · refine iteT' ?_ (q .non H2 s02 (.inl ⟨?_, rfl⟩))
          · rw [decide_eq_false (fun z => hl (by injection z with z; rw [len_tl, ← hkl, List.length_map, List.length_cons] at z; omega))]; rfl
          · rw [er]
            show (match formOf wd with | none => none | some ks => (partsV ks ws).map (V.str wd :: ·)) = none
            rw [hks]
            show (partsV ks ws).map (V.str wd :: ·) = none
            unfold partsV
            rw [if_neg (fun z => hl z.1)]; rfl
    rintro _ H2 ⟨rfl, rfl, ks, hks, hkf, hasc, h5, hlen⟩
    have hkl := kf_len hkf
    have er2 : rowV t = (partsV ks ws).map (V.str wd :: ·) := by
      rw [er]
      show (match formOf wd with | none => none | some ks => (partsV ks ws).map (V.str wd :: ·)) = _
      rw [hks]
    refine ⟨_, rfl, l, _, _, _, rfl, rfl, SqL.of g2, atI_nat (j := 0) rfl, (by show 1 ≤ sizeLine; omega), fun l3 hl3 => ?_⟩
    have s3 := sameNew (o := .lst [.str wd]) hl3
    have g33 : (upd H2 l3 (.lst [.str wd])) l3 = some (.lst [.str wd]) := upd_same
    have n30 : H l3 = none := by
      cases z : H l3 with
      | none => rfl
      | some o => rw [s02 _ _ z] at hl3; cases hl3
    have g3 := s3 _ _ g2
    have s03 := s02.trans s3
    generalize upd H2 l3 (.lst [.str wd]) = H3 at s3 g33 g3 s03
    let J : Nat → L2.St → Hp → Hp → Prop := fun i σ' H4 H' => ∃ v4 v5 v6, σ' = [some (.str t), some (.ref l), some (.str (lawForm wd)), some (.ref l3), v4, v5, v6] ∧ (∀ b o, H4 b = some o → b ≠ l3 → H' b = some o) ∧ H' l3 = some (.lst (.str wd :: partsL (ks.take i) (ws.take i))) ∧ ∀ j k x, j < i → ks[j]? = some k → ws[j]? = some x → (partV k x).isSome = true
    refine ⟨fun σ' H' => Same H H' ∧ ∃ H4, J ks.length σ' H4 H', ?_, ?_⟩
    · refine ⟨_, rfl, _, rfl, _, rfl, l, _, rfl, SqL.of g3, fun l2 hl2 => ?_⟩
      rw [List.map_cons, cut1]
      have s4 := sameNew (o := .lst (ws.map V.str)) hl2
      have g4 : (upd H3 l2 (.lst (ws.map V.str))) l2 = some (.lst (ws.map V.str)) := upd_same
      have g34 := s4 _ _ g33
      have n23 : l2 ≠ l3 := fun z => by rw [z, g33] at hl2; cases hl2
      have s04 := s03.trans s4
      generalize upd H3 l2 (.lst (ws.map V.str)) = H4 at s4 g4 g34 s04
      have back : ∀ {H' : Hp}, (∀ b o, H4 b = some o → b ≠ l3 → H' b = some o) → Same H H' := fun k b o e => k b o (s04 _ _ e) (ne_of_none e n30)
      refine ⟨_, l2, _, rfl, hasc, SqL.of g4, ?_⟩
      refine for_zipSL (K := K) (z := lawForm wd) (b := l2) (ys := ws.map V.str) (by rw [List.length_map, hlen, hkl]; exact Nat.le_of_eq (Array.length_toList).symm) (fun i σ' H' => J i σ' H4 H') ⟨none, none, none, rfl, fun _ _ e _ => e, (by rw [List.take_zero]; exact g34), fun j _ _ z => absurd z (Nat.not_lt_zero _)⟩ ?_ ?_ ?_
      · rintro i _ H5 _ ⟨v4, v5, v6, rfl, k5, g5, _⟩
        exact SqL.of (k5 _ _ g4 n23)
      · rintro i c y _ H5 T hc hy ⟨v4, v5, v6, rfl, k5, g5, hs5⟩ hT
        obtain ⟨x, hx, rfl⟩ := at_map hy
        have hxl := small x (List.mem_of_getElem? hx)
        have hc' : (tl (lawForm wd))[i]? = some c := by rw [← hc]; exact Array.getElem?_toList
        have hil : i < ks.length := by rw [hkl]; exact (List.getElem?_eq_some_iff.mp hc').1
        obtain ⟨k, hk⟩ : ∃ k, ks[i]? = some k := ⟨_, List.getElem?_eq_getElem hil⟩
        have s6 := sameNew (o := .tup [.str ⟨#[c]⟩, .str x]) hT
        have gT : (upd H5 T (.tup [.str ⟨#[c]⟩, .str x])) T = some (.tup [.str ⟨#[c]⟩, .str x]) := upd_same
        have g6 := s6 _ _ g5
        have k6 : ∀ b o, H4 b = some o → b ≠ l3 → (upd H5 T (.tup [.str ⟨#[c]⟩, .str x])) b = some o := fun b o e n => s6 _ _ (k5 b o e n)
        generalize upd H5 T (.tup [.str ⟨#[c]⟩, .str x]) = H6 at s6 gT g6 k6
        refine ⟨T, _, rfl, SqT.of gT, rfl, _, _, rfl, _, _, rfl, rfl, ?_⟩
        refine ⟨_, rfl, x, rfl, hxl, fun H7 s7 => ⟨_, rfl, x, rfl, hxl, fun H8 s8 => ⟨by show 2 ≤ sizeLine; omega, fun l4 hl4 => ?_⟩⟩⟩
        have fin : ∀ H9, Same H6 H9 → J (i + 1) [some (.str t), some (.ref l), some (.str (lawForm wd)), some (.ref l3), some (.str ⟨#[c]⟩), some (.str x), some ((partV k x).getD .non)] H4 (upd H9 l3 (.lst ((.str wd :: partsL (ks.take i) (ws.take i)) ++ [(partV k x).getD .non]))) ∨ (partV k x).isSome = false := fun H9 s9 => by
          cases hsm : (partV k x).isSome with
          | false => exact .inr rfl
          | true =>
            refine .inl ⟨_, _, _, rfl, fun b o e n => ?_, ?_, fun j k' x' hj hk' hx' => ?_⟩
            · rw [upd_ne n]; exact s9 _ _ (k6 b o e n)
            · rw [upd_same, partsL_snoc hk hx]; rfl
            · rcases Nat.lt_succ_iff_lt_or_eq.mp hj with z | z
              · exact hs5 j k' x' z hk' hx'
              · subst z
                rw [hk] at hk'; rw [hx] at hx'
                cases hk'; cases hx'; exact hsm
        have ll : (partsL (ks.take i) (ws.take i)).length ≤ 100 := by
          rw [partsL_len (by rw [List.length_take, List.length_take, hlen]), List.length_take]
          omega
        have none_row : (partV k x).isSome = false → rowV t = none := fun z => by
          rw [er2]
          unfold partsV
          rw [if_neg (fun y => by rw [parts_no hk hx z] at y; exact Bool.false_ne_true y.2)]; rfl
        have s9 := sameNew (o := .lst [(if isName x = true then V.str x else V.non), (if isNum x = true then V.int ((PySem.intText? x).getD 0) else V.non)]) hl4
        have g9 : (upd H8 l4 (.lst [(if isName x = true then V.str x else V.non), (if isNum x = true then V.int ((PySem.intText? x).getD 0) else V.non)])) l4 = some (.lst [rdV x, rdN x]) := upd_same
        have s69 := (s7.trans s8).trans s9
        generalize upd H8 l4 (.lst [(if isName x = true then V.str x else V.non), (if isNum x = true then V.int ((PySem.intText? x).getD 0) else V.non)]) = H9 at s9 g9 s69
        have g39 := s69 _ _ g6
        have key : ∀ b : Bool, decide (V.str (⟨#[c]⟩ : Str) = V.str "n") = b → (∃ z, atI [rdV x, rdN x] (if b = true then (1 : Int) else 0) = some z ∧ z = (partV k x).getD .non ∧ ((partV k x).isSome = true ↔ z ≠ .non)) := by
          intro b hb
          rcases kf_at hkf hk hc' with ⟨hc1, hk1⟩ | ⟨hc1, h1, h2, h3⟩
          · have : b = false := by rw [← hb]; exact decide_eq_false fun z => by have := (one_of tl_n).mp z; omega
            subst this hk1
            obtain ⟨a1, a2⟩ := part_room x
            exact ⟨rdV x, atI_nat (j := 0) rfl, a1.symm, a2⟩
          · have : b = true := by rw [← hb]; exact decide_eq_true ((one_of tl_n).mpr hc1)
            subst this
            obtain ⟨a1, a2⟩ := part_num x h1 h2 h3
            exact ⟨rdN x, atI_nat (j := 1) rfl, a1.symm, a2⟩
        obtain ⟨z, hz, ez, hzs⟩ := key _ rfl
        refine ⟨_, rfl, rfl, .inr ⟨_, rfl, l4, _, _, z, rfl, rfl, SqL.of g9, hz, ?_⟩⟩
        refine ⟨fun σ' H' => σ' = [some (.str t), some (.ref l), some (.str (lawForm wd)), some (.ref l3), some (.str ⟨#[c]⟩), some (.str x), some ((partV k x).getD .non)] ∧ H' = H9 ∧ (partV k x).isSome = true, ?_, ?_⟩
        · refine ⟨_, rfl, rfl, _, rfl, ?_⟩
          cases hsm : (partV k x).isSome with
          | false =>
            have : z = .non := Classical.byContradiction fun n => by rw [hzs.mpr n] at hsm; cases hsm
            refine iteT' (decide_eq_true this) (q .non H9 (back fun b o e n => s69 _ _ (k6 b o e n)) (.inl ⟨none_row hsm, rfl⟩))
          | true =>
            refine iteF' (decide_eq_false (hzs.mp hsm)) ⟨by rw [ez]; rfl, rfl, rfl⟩
        rintro _ H9 ⟨rfl, rfl, hsm⟩
        refine ⟨_, rfl, .inl ⟨rfl, _, SqL.of g39⟩, _, rfl, l3, _, _, rfl, rfl, g39, (by rw [List.length_cons]; omega), ?_⟩
        rcases fin H9 s69 with h | h
        · exact h
        · rw [hsm] at h; cases h
      · rintro _ H5 ⟨v4, v5, v6, rfl, k5, g5, hs5⟩
        have el : (lawForm wd).cps.size = ks.length := by rw [hkl]; exact (Array.length_toList).symm
        rw [el] at g5 hs5
        exact ⟨back k5, H4, v4, v5, v6, rfl, k5, g5, hs5⟩
    rintro _ H5 ⟨sm, H4, v4, v5, v6, rfl, k5, g5, hs5⟩
    rw [List.take_length, ← hlen, List.take_length] at g5
    have hok : partsOk ks ws = true := parts_yes hlen fun i k x a b => hs5 i k x (List.getElem?_eq_some_iff.mp a).1 a b
    refine ⟨_, rfl, l3, _, rfl, .inl ⟨SqL.of g5, fun tt htt => ?_⟩⟩
    refine q (.ref tt) _ (sm.trans (sameNew htt)) (.inr ⟨tt, _, ?_, rfl, upd_same⟩)
    rw [er2]
    unfold partsV
    rw [if_pos ⟨hlen, hok⟩]; rfl
end
end U

set_option Elab.async false
set_option maxRecDepth 100000
set_option linter.all false
set_option maxHeartbeats 8000000
namespace U
open PySem L2 TL Rl Tb
section
variable {P : Program} {w : World} {K : PySem.W.Frag} {mg : Str → Option Value} {base : Heap}
theorem scWh : FnScope ["_law_found"] ["_law_found"] (defScope sWhole) := ⟨rfl, rfl, rfl, by decide +kernel, rfl, by decide +kernel, by decide +kernel⟩
theorem ok_whole {f : Addr} {fd : FuncData} (F : Fun K "_law_whole" "_law_whole" sWhole f fd) (G : Glb mg) (gb : mg "bool" = none) : FnOk P w K mg base CX0 1 f fd ["_law_found"] spWholeN := by
  refine F.ok scWh (fun vs H Q E h => ?_) (fun cdv A outer s H vs Q E hr h => ?_)
  · obtain ⟨n, rfl, _⟩ := h
    rfl
  · obtain ⟨n, rfl, q⟩ := h
    refine ⟨_, (pss_one (ps_ret (pe_and (pe_callB call_isi (by rfl) G.isi (by decide +kernel) (pa_cons (pv 0) (pa_cons (pe_bltn (v := .ty "int") (u := .type "int") (by rfl) G.int (by decide +kernel) rfl) pa_nil)))
      (pe_one (pe_not (pe_callB call_isi (by rfl) G.isi (by decide +kernel) (pa_cons (pv 0) (pa_cons (pe_bltn (v := .ty "bool") (u := .type "bool") (by rfl) gb (by decide +kernel) rfl) pa_nil)))))))), ?_⟩
    refine ⟨_, rfl, _, _, _, true, rfl, .int n, rfl, _, rfl, iteT ?_⟩
    exact ⟨_, rfl, _, _, _, false, rfl, .int n, rfl, _, rfl, q⟩
end
end U

set_option Elab.async false
set_option maxRecDepth 100000
set_option linter.all false
set_option maxHeartbeats 4000000
namespace Tb
open PySem PySem.Spec PyProof.Rows L2
section
variable {X : Cx}
theorem eqV_self : ∀ {v : V}, flatV v = true → eqV v v = true
  | .non, _ => rfl
  | .bl b, _ => by cases b <;> rfl
  | .int i, _ => beq_self_eq_true i
  | .str x, _ => beq_self_eq_true x
/-- x != y, both None, or both tuples of the same flat things -/
theorem op_neSm (hu : X.A.units < cLine) : OpR X (compareOp .NotEq) (fun x y H Q => ((x = .non ∧ y = .non) ∨ ∃ a b xs, x = .ref a ∧ y = .ref b ∧ H a = some (.tup xs) ∧ H b = some (.tup xs) ∧ xs.all flatV = true) ∧ Q (.bl false) H) := by
  intro pins s σ H x y v u Q I rx ry h
  obtain ⟨h, q⟩ := h
  rcases h with ⟨rfl, rfl⟩ | ⟨a, b, xs, rfl, rfl, ha, hb, hf⟩
  · cases rx
    cases ry
    exact PySem.SeqAt.RcNeAt.none_none _ _ _ _ ⟨.bl false, H, I, rfl, q⟩
  · cases rx
    cases ry
    obtain ⟨_, i1, r1, t1⟩ := (show ObjOk _ _ _ _ _ (.tup xs) from I.hok a _ ha)
    obtain ⟨_, i2, r2, t2⟩ := (show ObjOk _ _ _ _ _ (.tup xs) from I.hok b _ hb)
    have l1 := r1.length
    have l2 := r2.length
    refine PySem.SeqAt.RcNeAt.tuples (e := fun _ => true) t1 t2 hu (fun j h1 h2 => ?_) _ _ _ _ ?_
    · have hj : j < xs.length := by rw [List.size_toArray] at h1; omega
      obtain ⟨u1, e1, q1⟩ := r1.get (List.getElem?_eq_getElem hj)
      obtain ⟨u2, e2, q2⟩ := r2.get (List.getElem?_eq_getElem hj)
      have f := List.all_eq_true.mp hf _ (List.getElem_mem hj)
      have e := eqAt_V (A := X.A.in1) (s := s) q1 q2 f f
      rw [eqV_self f] at e
      have g1 : i1.toArray[j] = u1 := by
        have := List.getElem?_eq_some_iff.mp e1
        obtain ⟨_, this⟩ := this
        simpa using this
      have g2 : i2.toArray[j] = u2 := by
        have := List.getElem?_eq_some_iff.mp e2
        obtain ⟨_, this⟩ := this
        simpa using this
      rw [g1, g2]
      exact e
    · have z : (!((List.range (min i1.toArray.size i2.toArray.size)).all (fun _ => true) && i1.toArray.size == i2.toArray.size)) = false := by
        rw [List.size_toArray, List.size_toArray, ← l1, ← l2]
        simp
      rw [z]
      exact ⟨.bl false, H, I, rfl, q⟩
end
end Tb

set_option Elab.async false
set_option maxRecDepth 100000
set_option linter.all false
set_option maxHeartbeats 8000000
namespace U
open PySem L2 TL Rl Tb Zp
/-! ### what a row that was read holds -/
theorem parts_get : ∀ {ks ws : List Str}, partsOk ks ws = true → ∀ {i : Nat} {v : V}, (partsL ks ws)[i]? = some v → ∃ k w, ks[i]? = some k ∧ ws[i]? = some w ∧ partV k w = some v
  | [], [], _, _, _, h => by simp [partsL] at h
  | k :: ks, w :: ws, ok, i, v, h => by
    have ok : ((partV k w).isSome && partsOk ks ws) = true := ok
    rw [Bool.and_eq_true] at ok
    have h : ((partV k w).getD .non :: partsL ks ws)[i]? = some v := h
    cases i with
    | zero =>
      refine ⟨k, w, rfl, rfl, ?_⟩
      cases e : partV k w with
      | none => rw [e] at ok; cases ok.1
      | some x => rw [e] at h; exact h
    | succ i => exact parts_get ok.2 (i := i) h
  | [], _ :: _, ok, _, _, _ => nomatch ok
  | _ :: _, [], ok, _, _, _ => nomatch ok
/-- the letter of a part -/
def Lt (c : Nat) (v : V) : Prop := (c = 110 ∧ ∃ n, v = .int n) ∨ (c ≠ 110 ∧ ∃ s, v = .str s)
theorem part_lt {k w : Str} {v : V} {c : Nat} (h : partV k w = some v) (hk : (c = 114 ∧ k = "room") ∨ (c = 110 ∧ k ≠ "room" ∧ k ≠ "key" ∧ k ≠ "guest")) : Lt c v := by
  rcases hk with ⟨hc, rfl⟩ | ⟨hc, h1, h2, h3⟩
  · unfold partV at h
    rw [if_pos (.inl rfl)] at h
    split at h
    · cases h; exact .inr ⟨by omega, w, rfl⟩
    · cases h
  · unfold partV at h
    rw [if_neg (fun z => z.elim h1 h2)] at h
    split at h
    · rw [if_neg (fun z => h3 z.1)] at h
      cases h; exact .inl ⟨hc, _, rfl⟩
    · cases h
theorem row_is {t : Str} {xs : List V} (h : rowV t = some xs) : ∃ w ys, xs = .str w :: ys ∧ (lawForm w).cps.all (· < 128) = true ∧ (tl (lawForm w)).length ≤ 5 ∧ ys.length = (tl (lawForm w)).length ∧ ys.all flatV = true ∧ ∀ (i c : Nat) (v : V), (tl (lawForm w))[i]? = some c → ys[i]? = some v → Lt c v := by
  obtain ⟨w, ws, es⟩ := split_cons t
  have er : rowV t = wordsV (w :: ws) := by unfold rowV; rw [es]
  rw [er] at h
  have h : (match formOf w with | none => none | some ks => (partsV ks ws).map (V.str w :: ·)) = some xs := h
  rcases form_cases w with ⟨hn, _⟩ | ⟨ks, hks, _, hkf, hasc, h5, _⟩
  · rw [hn] at h; cases h
  · rw [hks] at h
    have h : (partsV ks ws).map (V.str w :: ·) = some xs := h
    unfold partsV at h
    split at h
    · rename_i hh
      have hx : xs = V.str w :: partsL ks ws := (Option.some.inj h).symm
      refine ⟨w, _, hx, hasc, h5, (partsL_len hh.1).trans (kf_len hkf), partsL_flat, fun i c v hc hv => ?_⟩
      obtain ⟨k, x, hk, _, e⟩ := parts_get hh.2 hv
      exact part_lt e (kf_at hkf hk hc)
    · cases h
def spSame (K : PySem.W.Frag) : Sp := fun vs H Q _ => ∃ (a b : Addr) (t : Str) (xs : List V), vs = [.ref a, .ref b] ∧ rowV t = some xs ∧ H a = some (.tup xs) ∧ H b = some (.tup xs) ∧ ∀ H', Same H H' → Q (.bl true) H'
theorem tl_w : tl ("w" : Str) = [119] := by decide +kernel
section
variable {P : Program} {w : World} {K : PySem.W.Frag} {mg : Str → Option Value} {base : Heap}
theorem scSa : FnScope ["_law_found", "_law_row_here", "_law_letter", "_law_one"] ["_law_found", "_law_row_here"] (defScope sSame) := ⟨rfl, rfl, rfl, by decide +kernel, rfl, by decide +kernel, by decide +kernel⟩
theorem ok_same {f fF fW : Addr} {fd fdF fdW : FuncData} (F : Fun K "_law_same" "_law_same" sSame f fd) (G : Glb mg) (gz : mg "zip" = none)
    (GF : FnOk P w K mg base CX0 2 fF fdF ["_law_word"] spFormG) (mgF : mg "_law_form" = some (.ref fF)) (kpF : PySem.W.keepIn K (.ref fF) = true) (bF : Binds K fdF ["_law_word"] [])
    (GW : FnOk P w K mg base CX0 1 fW fdW ["_law_found"] spWholeN) (mgW : mg "_law_whole" = some (.ref fW)) (kpW : PySem.W.keepIn K (.ref fW) = true) (bW : Binds K fdW ["_law_found"] []) :
    FnOk P w K mg base CX0 3 f fd ["_law_found", "_law_row_here"] (spSame K) := by
  refine F.ok scSa (fun vs H Q E h => ?_) (fun cdv A outer s H vs Q E hr h => ?_)
  · obtain ⟨a, b, t, xs, rfl, _⟩ := h
    rfl
  · obtain ⟨a, b, t, xs, rfl, er, ha, hb, q⟩ := h
    have hu := hu_of hr
    have hr2 : Room 2 _ := hr
    have hr1 : Room 1 _ := hr.mono (by decide)
    obtain ⟨w0, ys, rfl, hasc, h5, hlen, hfl, hlt⟩ := row_is er
    have zz : 200 < sizeLine := by rw [sizeLine_eq]; decide
    have hw1 : ("w" : Str).length = 1 := by decide +kernel
    have ew : tl (("w" : Str) ++ lawForm w0) = 119 :: tl (lawForm w0) := by rw [tl_append, tl_w]; rfl
    have asc2 : (("w" : Str) ++ lawForm w0).cps.all (· < 128) = true := by
      rw [← Array.all_toList, show (("w" : Str) ++ lawForm w0).cps.toList = 119 :: tl (lawForm w0) from ew, List.all_cons]
      rw [← Array.all_toList] at hasc
      rw [Bool.and_eq_true]
      exact ⟨rfl, hasc⟩
    have elen : (("w" : Str) ++ lawForm w0).cps.size = ys.length + 1 := by
      have : (("w" : Str) ++ lawForm w0).cps.toList.length = ys.length + 1 := by
        rw [show (("w" : Str) ++ lawForm w0).cps.toList = 119 :: tl (lawForm w0) from ew, List.length_cons, hlen]
      rw [← this, Array.length_toList]
    have letter : ∀ (i c : Nat) (v : V), (tl (("w" : Str) ++ lawForm w0))[i]? = some c → (V.str w0 :: ys)[i]? = some v → Lt c v := by
      intro i c v hc hv
      rw [ew] at hc
      cases i with
      | zero => cases hc; cases hv; exact .inr ⟨by decide, w0, rfl⟩
      | succ i => exact hlt i c v hc hv
    have PWpt := @PW.pt
    have pa_cons := @pa_cons
    have pa_nil := @pa_nil
    have pe_bl := @pe_bl
    have pe_bltn := @pe_bltn
    have pe_call := @pe_call
    have pe_callB := @pe_callB
    have pe_int := @pe_int
    have pe_ix := @pe_ix
    have pe_op := @pe_op
    have pe_str := @pe_str
    have pg_name := @pg_name
    have pg_tup := @pg_tup
    have pgs_cons := @pgs_cons
    have pgs_nil := @pgs_nil
    have pi_zipST := @pi_zipST
    have ps_for := @ps_for
    have ps_if := @ps_if
    have ps_ret := @ps_ret
    have pss_cut := @pss_cut
    have pss_nil := @pss_nil
    have pss_one := @pss_one
    have pt_cmpR := @pt_cmpR
    have pt_not := @pt_not
    have pt_val := @pt_val
    have pv := @pv
    have pw_and := @pw_and
    have pw_and1 := @pw_and1
    have pw_or := @pw_or
    have pw_or1 := @pw_or1
    revert PWpt pa_cons pa_nil pe_bl pe_bltn pe_call pe_callB pe_int pe_ix pe_op pe_str pg_name pg_tup pgs_cons pgs_nil pi_zipST ps_for ps_if ps_ret pss_cut pss_nil pss_one pt_cmpR pt_not pt_val pv pw_and pw_and1 pw_or pw_or1
    generalize @L2.PS = vPS
    generalize @L2.PSs = vPSs
    generalize @L2.PE = vPE
    generalize @L2.PT = vPT
    generalize @L2.PW = vPW
    generalize @L2.PC = vPC
    generalize @L2.PA = vPA
    generalize @L2.PG = vPG
    generalize @L2.PI = vPI
    generalize @L2.PO = vPO
    generalize @L2.PTs = vPTs
    generalize @L2.PPs = vPPs
    generalize @L2.PGs = vPGs
    generalize @L2.PK = vPK
    intro PWpt pa_cons pa_nil pe_bl pe_bltn pe_call pe_callB pe_int pe_ix pe_op pe_str pg_name pg_tup pgs_cons pgs_nil pi_zipST ps_for ps_if ps_ret pss_cut pss_nil pss_one pt_cmpR pt_not pt_val pv pw_and pw_and1 pw_or pw_or1
    refine ⟨_, (pss_cut (ps_if (PWpt (pw_or (pt_not (pt_val (pe_callB call_isi (by rfl) G.isi (by decide +kernel) (pa_cons (pv 0) (pa_cons (pe_bltn (v := .ty "tuple") (u := .type "tuple") (by rfl) G.tuple (by decide +kernel) rfl) pa_nil))))) (pw_or1 (pt_cmpR (op_neSm (Nat.lt_of_succ_lt hu)) (pv 0) (pv 1) (nomark _))))) (pss_one (ps_ret pe_bl)) pss_nil)
      (pss_cut (ps_for PassesOwn.never rfl (pi_zipST (by rfl) gz (pa_cons (pe_op op_add_str pe_str (pe_call GF hr2 (by rfl) mgF kpF bF .nil pass0 (pa_cons (pe_ix ix_tup (pv 1) pe_int (fun _ _ => rfl)) pa_nil))) (pa_cons (pv 0) pa_nil)))
        (pg_tup rfl (pgs_cons (pg_name (i := 2) scSa.nd rfl (Or.inl rfl)) (pgs_cons (pg_name (i := 3) scSa.nd rfl (Or.inl rfl)) pgs_nil)))
        (pss_one (ps_if (PWpt (pw_or (PWpt (pw_and (pt_cmpR op_eq (pv 2) pe_str (nomark _)) (pw_and1 (pt_not (pt_val (pe_call GW hr1 (by rfl) mgW kpW bW .nil pass0 (pa_cons (pv 3) pa_nil)))))))
          (pw_or1 (PWpt (pw_and (pt_cmpR op_ne (pv 2) pe_str (nomark _)) (pw_and1 (pt_not (pt_val (pe_callB call_isi (by rfl) G.isi (by decide +kernel) (pa_cons (pv 3) (pa_cons (pe_bltn (v := .ty "str") (u := .type "str") (by rfl) G.str (by decide +kernel) rfl) pa_nil))))))))))) (pss_one (ps_ret pe_bl)) pss_nil)))
      (pss_one (ps_ret pe_bl)))), ?_⟩
    refine ⟨fun σ' H' => σ' = [some (.ref a), some (.ref b), none, none] ∧ H' = H, ?_, ?_⟩
    · refine ⟨_, rfl, _, _, _, true, rfl, .tup ha, rfl, _, rfl, iteF ?_⟩
      exact ⟨_, rfl, _, rfl, ⟨.inr ⟨a, b, _, rfl, rfl, ha, hb, by rw [List.all_cons, hfl]; rfl⟩, _, rfl, iteF ⟨rfl, rfl⟩⟩⟩
    rintro _ H ⟨rfl, rfl⟩
    refine ⟨fun σ' H' => Same H H', ?_, ?_⟩
    · refine ⟨_, rfl, b, _, _, _, rfl, rfl, SqT.of hb, atI_nat (j := 0) rfl, w0, rfl, fun H1 s1 => ?_⟩
      refine ⟨_, _, rfl, rfl, (by rw [hw1, len_tl (lawForm w0)]; omega), _, rfl, _, a, _, rfl, asc2, SqT.of (s1 _ _ ha), ?_⟩
      refine for_zipST (K := K) (b := a) (ys := V.str w0 :: ys) (by rw [elen]; exact Nat.le_refl _) (fun i σ' H' => (∃ v2 v3, σ' = [some (.ref a), some (.ref b), v2, v3]) ∧ Same H1 H') ⟨⟨_, _, rfl⟩, Same.refl _⟩ ?_ ?_ ?_
      · rintro i _ H4 _ ⟨⟨v2, v3, rfl⟩, sm⟩
        exact SqT.of (sm _ _ (s1 _ _ ha))
      · rintro i ch y _ H4 T hc hy ⟨⟨v2, v3, rfl⟩, sm⟩ hT
        have hc' : (tl (("w" : Str) ++ lawForm w0))[i]? = some ch := by rw [← hc]; exact Array.getElem?_toList
        have lv := letter i ch y hc' hy
        have s4 := sameNew (o := .tup [.str ⟨#[ch]⟩, y]) hT
        have gT : (upd H4 T (.tup [.str ⟨#[ch]⟩, y])) T = some (.tup [.str ⟨#[ch]⟩, y]) := upd_same
        generalize upd H4 T (.tup [.str ⟨#[ch]⟩, y]) = H5 at s4 gT
        have nx : (∃ u2 u3, [some (V.ref a), some (.ref b), some (.str ⟨#[ch]⟩), some y] = [some (V.ref a), some (.ref b), u2, u3]) ∧ Same H1 H5 := ⟨⟨_, _, rfl⟩, sm.trans s4⟩
        refine ⟨T, _, rfl, SqT.of gT, rfl, _, _, rfl, _, _, rfl, rfl, ?_⟩
        rcases lv with ⟨e, n, rfl⟩ | ⟨e, s, rfl⟩
        · subst e
          refine ⟨_, rfl, rfl, _, rfl, iteT' (decide_eq_true ((one_of tl_n).mpr rfl)) ?_⟩
          refine ⟨_, rfl, n, rfl, _, rfl, iteF ?_⟩
          exact ⟨_, rfl, rfl, _, rfl, iteF' (by rw [decide_eq_true ((one_of tl_n).mpr rfl)]; rfl) (iteF nx)⟩
        · refine ⟨_, rfl, rfl, _, rfl, iteF' (decide_eq_false fun z => e ((one_of tl_n).mp z)) (iteF ?_)⟩
          refine ⟨_, rfl, rfl, _, rfl, iteT' (by rw [decide_eq_false fun z => e ((one_of tl_n).mp z)]; rfl) ?_⟩
          exact ⟨_, rfl, _, _, _, true, rfl, .str s, rfl, _, rfl, iteF nx⟩
      · rintro _ H4 ⟨_, sm⟩
        exact s1.trans sm
    rintro _ H4 sm
    exact q H4 sm
end
end U

set_option Elab.async false
set_option maxRecDepth 100000
set_option linter.all false
/-! Own exceptions with an __init__ of their own, above ValueError: made, raised, their attribute stored and read. -/
namespace Xc
open PySem PySem.Spec
/-- the facts of ValueError itself -/
theorem VE : ExcBaseFacts "ValueError" "ValueError.__new__" "ValueError.__init__" [.type "ValueError", .type "Exception", .type "BaseException", .type "object"] := PySem.F.excBase_ValueError

/-- an own exception class: where its mro leads -/
structure Above (bm : List Value) : Prop where
  ve : bm.contains (.type "ValueError") = true
  be : bm.contains (.type "BaseException") = true
  na : bm.contains (.type "AttributeError") = false
  nn : bm.contains (.type "NameError") = false
  ob : bm.contains (.type "object") = true

section
variable {prog : Program} {w : World} {M : Model} {A : Around} {E : Value → Shared → Prop} {h : Heap} {g : Array GenState} {d : Drawn} {t : Nat} {os : OsState}
variable {nm q : Str} {C N : Addr} {bs bm : List Value} {hx : Bool} {sn : List Str} {sub : List Value} {ab : Bool} {col : Option Bool} {dd : Option Addr} {k0 k1 k2 k3 k5 : Option Value}
theorem has_ref (X : Value) (hb : bm.contains X = true) : (Value.ref C :: bm).contains X = true := by rw [List.contains_cons, hb, Bool.or_true]
theorem has_not (n : String) (hb : bm.contains (.type n) = false) : (Value.ref C :: bm).contains (.type n) = false := by rw [List.contains_cons, hb]; rfl

theorem chk_new (u : Above bm) {rest : List Value} {Q : Unit → Shared → Prop} (cl : h.get? C = some (excClassObj nm q C N bs bm hx sn sub ab col dd k0 k1 k2 k3 k5 "ValueError.__new__"))
    (hq : Q () ⟨h, g, d, t, os⟩) : wpAny M A (checkBuiltinCall "ValueError.__new__" ⟨.ref C :: rest, []⟩) Q E ⟨h, g, d, t, os⟩ := by
  have hc := has_ref (C := C) _ u.ve
  have hstar := VE.noStar
  simp only [checkBuiltinCall, VE.newKind, VE.newSplit, VE.newRow]
  repeat (first | refine wpAny_loadPart_at cl ?_ | (refine wpAny_isSubtype_exc cl ?_; rw [hc]) | refine wpAny_staticBase_exc cl ?_ | refine wpAny_madeBy_exc cl ?_ | simp only [bne_self_eq_false, Bool.false_eq_true, if_false] | wp_step)
  exact hq

/-- the object as BaseException.__new__ lays it -/
abbrev rawExc (C tp : Addr) : Obj := { cls := .ref C, data := .fields #[.ref tp, .none, .none, .none, .bool false, .none] }

theorem run_new (u : Above bm) {R : Result → Shared → Prop} {rest : List Value} (cl : h.get? C = some (excClassObj nm q C N bs bm hx sn sub ab col dd k0 k1 k2 k3 k5 "ValueError.__new__"))
    (hq : R (.ok (.ret (.ref (h.objs.size + 1)))) ⟨(h.push { cls := .type "tuple", data := .seq rest.toArray }).push (rawExc C h.objs.size), g, d, t, os⟩) (few : rest.length ≤ sizeLine) :
    codeAny (model prog w) A (.builtin "ValueError.__new__" ⟨.ref C :: rest, []⟩) R ⟨h, g, d, t, os⟩ := by
  have he := VE.ends
  have c1 := has_ref (C := C) _ u.ve
  have c2 := has_not (C := C) _ u.na
  have c3 := has_not (C := C) _ u.nn
  refine codeAny_builtinAt VE.entry ?_
  unfold Builtin.«BaseException.__new__»
  refine wpAt_bind ?_
  show wpAt _ _ _ (stack >>= _) _ _ _
  refine wpAt_bind (wpAt_stack fun p below => wpAt_of_wpAny ?_)
  wp_walk
  refine wpAt_of_wpAny ?_
  rw [VE.owner]
  repeat (first | with_reducible refine wpAny_madeHere_exc VE.canon cl ?_ | with_reducible refine wpAny_loadPart_at cl ?_ | (with_reducible refine wpAny_isSubtype_exc cl ?_; first | rw [c1] | rw [c2] | rw [c3]) | wp_step)
  show R _ _
  rw [Heap.size_push]
  exact hq

theorem run_type {K : PySem.W.Frag} {fI : Addr} (u : Above bm) {rest : List Value} {Q : Fin → Shared → Prop} (KX : K.In h)
    (cl : h.get? C = some (excClassObj nm q C N bs bm hx sn sub ab col dd k0 k1 k2 k3 k5 "ValueError.__new__"))
    (fi : PySem.W.findIn K (.ref C) "__init__" = some (some (.ref fI))) (ft : PySem.W.typeIn K (.ref fI) = some (.type "function")) (few : rest.length ≤ sizeLine)
    (hq : wpAny (model prog w) A (call (.ref fI) (.ref (h.objs.size + 1) :: rest)) (fun r s' => r = .none ∧ Q (.done (.ret (.ref (h.objs.size + 1)))) s') E
      ⟨(h.push { cls := .type "tuple", data := .seq rest.toArray }).push (rawExc C h.objs.size), g, d, t, os⟩) :
    wpAny (model prog w) A (Builtin.«type.__call__» ⟨.ref C :: rest, []⟩) Q E ⟨h, g, d, t, os⟩ := by
  repeat (first | with_reducible refine wpAny_loadPart_at cl ?_ | with_reducible refine wpAny_madeBy_exc cl ?_ | wp_step)
  refine codeAny_call_builtin_code (Code.quiet_builtin _ VE.quiet) (chk_new u cl ?_)
  refine run_new u cl ?_ few
  show wpAny _ _ _ _ _ _
  have kp : ∀ b o, h.get? b = some o → ((h.push { cls := .type "tuple", data := .seq rest.toArray }).push (rawExc C h.objs.size)).get? b = some o := fun b o e => Heap.get?_push_of_some _ (Heap.get?_push_of_some _ e)
  have cl1 := kp _ _ cl
  have KX1 := KX.keeps kp
  have hg : ((h.push { cls := .type "tuple", data := .seq rest.toArray }).push (rawExc C h.objs.size)).get? (h.objs.size + 1) = some (rawExc C h.objs.size) := by heap_get
  have cc : (Value.ref C :: bm).contains (.ref C) = true := by simp
  unfold isInstance
  repeat (first | with_reducible refine wpAny_loadPart_at hg ?_ | (with_reducible refine wpAny_isSubtype_exc cl1 ?_; rw [cc]) | wp_step)
  show wpAny _ _ (typeLookup (.ref C) _) _ _ _
  refine (PySem.W.looks_findIn (M := model prog w) KX1 fi).at ?_
  refine wpAny_holding (wpAny_bind ?_)
  refine (PySem.W.bind_fn (M := model prog w) KX1 (.ref (h.objs.size + 1)) ft).at ?_
  refine wpAny_bind (wpAny_mono hq (fun r s' hr => ?_) fun _ _ x => x)
  obtain ⟨rfl, hQ⟩ := hr
  wp_walk
  exact hQ
end
end Xc

set_option Elab.async false
set_option maxRecDepth 100000
set_option linter.all false
namespace Xc
open PySem PySem.Spec
/-- an mro that ends as ValueError's does, own classes ahead -/
def endsVE : List Value → Bool
  | .ref _ :: r => endsVE r
  | l => l == [.type "ValueError", .type "Exception", .type "BaseException", .type "object"]
theorem ends_pass (self : Value) : ∀ {l : List Value}, endsVE l = true → refuseLoop self "__setattr__" l = pure ()
  | [], e => by simp [endsVE] at e
  | .ref c :: r, e => by rw [refuseLoop_ref]; exact ends_pass self (l := r) e
  | .type n :: r, e => by
    have q : (Value.type n :: r) = [.type "ValueError", .type "Exception", .type "BaseException", .type "object"] := by simpa [endsVE] using e
    rw [q]; exact PySem.F.store_ValueError.passes self
  | .none :: r, e => by simp [endsVE] at e
  | .bool b :: r, e => by simp [endsVE] at e
  | .int i k :: r, e => by simp [endsVE] at e
  | .str i k :: r, e => by simp [endsVE] at e
  | .bytes i k :: r, e => by simp [endsVE] at e
  | .float i k :: r, e => by simp [endsVE] at e
  | .builtin i :: r, e => by simp [endsVE] at e
  | .ellipsis :: r, e => by simp [endsVE] at e
  | .notImplemented :: r, e => by simp [endsVE] at e

theorem ends_above : ∀ {l : List Value}, endsVE l = true → Above l
  | [], e => by simp [endsVE] at e
  | .ref c :: r, e => by
    have u := ends_above (l := r) e
    exact ⟨has_ref _ u.ve, has_ref _ u.be, has_not _ u.na, has_not _ u.nn, has_ref _ u.ob⟩
  | .type n :: r, e => by
    have q : (Value.type n :: r) = [.type "ValueError", .type "Exception", .type "BaseException", .type "object"] := by simpa [endsVE] using e
    rw [q]; exact ⟨by decide +kernel, by decide +kernel, by decide +kernel, by decide +kernel, by decide +kernel⟩
  | .none :: r, e => by simp [endsVE] at e
  | .bool b :: r, e => by simp [endsVE] at e
  | .int i k :: r, e => by simp [endsVE] at e
  | .str i k :: r, e => by simp [endsVE] at e
  | .bytes i k :: r, e => by simp [endsVE] at e
  | .float i k :: r, e => by simp [endsVE] at e
  | .builtin i :: r, e => by simp [endsVE] at e
  | .ellipsis :: r, e => by simp [endsVE] at e
  | .notImplemented :: r, e => by simp [endsVE] at e

/-- a class of the text under ValueError, itself or above it with an __init__ of the text: a look that k_is finds -/
def xclsIn (K : PySem.W.Frag) (C : Addr) : Bool := match K.lookup C with
  | some ⟨.type "type", _, .cls cd, sl⟩ => (match cd.mro, sl.toList with
    | .ref C' :: bm, [_, _, _, _, some (.builtin n), _] => C' == C && n == "ValueError.__new__" && !cd.hasDel && cd.hasDict && endsVE bm
    | _, _ => false)
  | _ => false
structure XOb (K : PySem.W.Frag) (C : Addr) : Prop where
  ob : ∃ nm q N bs bm sn sub ab col dd k0 k1 k2 k3 k5, K.lookup C = some (excClassObj nm q C N bs bm true sn sub ab col dd k0 k1 k2 k3 k5 "ValueError.__new__") ∧ endsVE bm = true
theorem xob_of {K : PySem.W.Frag} {C : Addr} (e : xclsIn K C = true) : XOb K C := by
  unfold xclsIn at e
  split at e
  · rename_i dd cd sl ho
    split at e
    · rename_i C' bm k0 k1 k2 k3 n k5 hm hs
      simp only [Bool.and_eq_true, beq_iff_eq, Bool.not_eq_true'] at e
      obtain ⟨⟨⟨⟨rfl, rfl⟩, h1⟩, h2⟩, h3⟩ := e
      obtain ⟨nm, bs, mro, ns, qn, hd, sn, sub, ab, col, del⟩ := cd
      dsimp only at hm h1 h2
      subst hm h1 h2
      obtain ⟨l⟩ := sl
      simp only at hs
      subst hs
      exact ⟨nm, qn, ns, bs, bm, sn, sub, ab, col, dd, k0, k1, k2, k3, k5, ho, h3⟩
    · cases e
  · cases e
/-- what is asked of an exception class -/
structure XCls (K : PySem.W.Frag) (C fI : Addr) : Prop where
  ob : XOb K C
  init : PySem.W.findIn K (.ref C) "__init__" = some (some (.ref fI))
  fn : PySem.W.typeIn K (.ref fI) = some (.type "function")
  sa : PySem.W.findIn K (.ref C) "__setattr__" = some (some (.builtin "object.__setattr__"))
  ga : PySem.W.findIn K (.ref C) "__getattribute__" = some (some (.builtin "BaseException.__getattribute__"))
  gh : PySem.W.findIn K (.ref C) "__getattr__" = some none
  kp : PySem.W.keepIn K (.ref C) = true

section
variable {prog : Program} {w : World} {A : Around} {E : Value → Shared → Prop} {s : Shared} {K : PySem.W.Frag} {C fI x tp : Addr} {name : Str} {v : Value}
theorem looks_mro {K : PySem.W.Frag} {h : Heap} {M : Model} (KX : K.In h) (O : XOb K C) : ∃ bm, PySem.W.Looks M h (mroOf (.ref C)) (.ref C :: bm) ∧ endsVE bm = true ∧ ∀ b, PySem.W.Looks M h (isSubtype (.ref C) b) ((Value.ref C :: bm).contains b) := by
  obtain ⟨nm, q, N, bs, bm, sn, sub, ab, col, dd, k0, k1, k2, k3, k5, lk, ev⟩ := O.ob
  have hc : PySem.W.clsIn K C = some { name := nm, bases := bs, mro := Value.ref C :: bm, ns := N, qualname := q, hasDict := true, slotNames := sn, subclasses := sub, abstract := ab, collection := col } := by
    unfold PySem.W.clsIn; rw [lk]
  refine ⟨bm, (PySem.W.looks_clsIn KX hc).andThen .now, ev, fun b => PySem.W.looks_mroIn KX ?_⟩
  unfold PySem.W.mroIn
  rw [hc, Option.bind_some, if_neg (by simp)]

/-- e.name = v of a new exception: its dict is laid -/
theorem set_new {Q : Unit → Shared → Prop} (KX : K.In s.heap) (XC : XCls K C fI) (hx : s.heap.get? x = some (rawExc C tp)) (hn : PySem.W.findIn K (.ref C) name = some none)
    (hq : ∀ h' tk, h'.get? x = some { rawExc C tp with dict := some s.heap.objs.size } → h'.Ns1 s.heap.objs.size (fun y => if y = name then some v else none) → (∀ b o, b ≠ x → s.heap.get? b = some o → h'.get? b = some o) →
      Q () { s with heap := h', toks := tk }) : wpAny (model prog w) A (setAttr (.ref x) name v) Q E s := by
  have SF := PySem.F.store_object
  have I : PySem.W.InstAt s.heap x (rawExc C tp) C none := ⟨hx, rfl, rfl, True.intro⟩
  obtain ⟨bm, lm, ev, ls⟩ := looks_mro (M := model prog w) KX XC.ob
  have u := ends_above ev
  refine PySem.W.set_plain KX I XC.sa ?_
  have isub : PySem.W.Looks (model prog w) s.heap (isInstance (.ref x) (.type "object")) true := I.type.andThen (has_ref (C := C) _ u.ob ▸ ls (.type "object"))
  refine codeAny_call_builtin SF.slot.plain SF.entry (@PySem.W.check_slot (model prog w) _ _ { s with toks := s.toks + 1 } "object.__setattr__" "object" "__setattr__" (.ref x) [.str name s.toks, v] [] _ SF.kind SF.split isub (SF.args (.ref x) (.str name s.toks) v) ?_)
  rw [PySem.W.osa_eq, refuse_eq]
  refine wpAny_bind (wpAny_bind (I.type.here (s := { s with toks := s.toks + 1 }) (wpAny_bind (lm.here (s := { s with toks := s.toks + 1 }) ?_))))
  rw [refuseLoop_ref, ends_pass _ ev]
  refine wpAny_pure (wpAny_bind (I.type.here (s := { s with toks := s.toks + 1 }) (wpAny_bind ((PySem.W.looks_findIn KX hn).here (s := { s with toks := s.toks + 1 }) (wpAny_bind ?_)))))
  refine wpAny_pure ?_
  show wpAny _ _ (Builtin.ObjectAttr.storeInOwnDict _ _ _ _ _ _) _ _ _
  obtain ⟨h, g, d, t, os⟩ := s
  dsimp only at hx KX hq
  obtain ⟨nm, q, N, bs, bm', sn, sub, ab, col, dd, k0, k1, k2, k3, k5, lk, _⟩ := XC.ob.ob
  have cl := KX _ _ lk
  refine wpAny_bind (wpAny_pure (wpAny_bind (wpAny_bind (wpAny_loadPart hx ?_))))
  have hc : PySem.W.clsIn K C = some { name := nm, bases := bs, mro := Value.ref C :: bm', ns := N, qualname := q, hasDict := true, slotNames := sn, subclasses := sub, abstract := ab, collection := col } := by
    unfold PySem.W.clsIn; rw [lk]
  refine wpAny_bind ((PySem.W.looks_clsIn KX hc).here (s := ⟨h, g, d, t + 1, os⟩) ?_)
  dsimp only
  rw [if_neg (by decide), if_neg (by simp [typeHasDict])]
  have hx1 : (h.push { cls := .type "dict", data := .dict #[] }).get? x = some (rawExc C tp) := Heap.get?_push_of_some _ hx
  have ne : x ≠ h.objs.size := Nat.ne_of_lt (Heap.lt_size hx)
  refine wpAny_bind (wpAny_alloc' ?_)
  refine wpAny_bind (wpAny_update' hx1 ?_)
  refine wpAny_pure ?_
  have hx2 : ((h.push { cls := .type "dict", data := .dict #[] }).update x fun o => { cls := o.cls, dict := some h.objs.size, data := o.data, slots := o.slots }).get? x = some { rawExc C tp with dict := some h.objs.size } :=
    Heap.get?_update_self _ hx1 rfl
  have hd : ((h.push { cls := .type "dict", data := .dict #[] }).update x fun o => { cls := o.cls, dict := some h.objs.size, data := o.data, slots := o.slots }).get? h.objs.size = some { cls := .type "dict", data := .dict #[] } :=
    (Heap.get?_update_ne _ _ _ _ ne.symm).trans (Heap.get?_push_at rfl rfl)
  have nd : ((h.push { cls := .type "dict", data := .dict #[] }).update x fun o => { cls := o.cls, dict := some h.objs.size, data := o.data, slots := o.slots }).Ns h.objs.size (fun _ => none) :=
    ⟨_, #[], _, hd, rfl, (fun e he => absurd he (by simp)), fun _ => rfl⟩
  show wpAny _ _ (Builtin.ObjectAttr.storeInDict h.objs.size (.str name _) name v) _ _ _
  unfold Builtin.ObjectAttr.storeInDict Builtin.ObjectAttr.newKeyGuard
  refine wpAny_bind (wpAny_pure (wpAny_bind (wpAny_nsSet1 (Heap.Ns1.of_empty nd) fun h' hn' hs => ?_)))
  obtain ⟨oD, esD, epD, hoD, hdD, hcD⟩ := hn'.count (Within.cons name v Within.nil)
  refine wpAny_bind (wpAny_lookBehind hoD (by rw [hdD]; exact pastItsLine_dict (Nat.le_trans hcD (by rw [List.length_cons, List.length_nil, sizeLine_eq]; omega))) ?_)
  refine wpAny_pure ?_
  refine hq h' _ ((hs.2 x ne).trans hx2) hn' fun b o hb e => ?_
  exact (hs.2 b (Nat.ne_of_lt (Heap.lt_size e))).trans ((Heap.get?_update_ne _ _ _ _ hb).trans (Heap.get?_push_of_some _ e))
end
end Xc

set_option Elab.async false
set_option maxRecDepth 100000
set_option linter.all false
namespace Xc
open PySem PySem.Spec
section
variable {prog : Program} {w : World} {A : Around} {E : Value → Shared → Prop} {s : Shared} {K : PySem.W.Frag} {C fI x dx : Addr} {ox : Obj} {name : Str} {v : Value} {mA : Str → Option Value}
theorem get_attr {ex : Bool} {Q : Value → Shared → Prop} (KX : K.In s.heap) (XC : XCls K C fI) (hx : s.heap.get? x = some ox) (hc : ox.cls = .ref C) (nc : PySem.W.notCls ox = true) (hd : ox.dict = some dx) (ns : s.heap.Ns1 dx mA)
    (hv : mA name = some v) (hn : PySem.W.findIn K (.ref C) name = some none) (hh : PySem.W.handedIn v = true) (q : Q v { s with toks := s.toks + 1 }) : wpAny (model prog w) A (getAttr (.ref x) name ex) Q E s := by
  obtain ⟨od, ho, hl⟩ := L2.lookIn_ns ns
  have I : PySem.W.InstAt s.heap x ox C (some od) := ⟨hx, hc, nc, by rw [hd]; exact ho⟩
  obtain ⟨nm, qq, N, bs, bm', sn, sub, ab, col, dd, k0, k1, k2, k3, k5, lk, ev⟩ := XC.ob.ob
  have hcl : PySem.W.clsIn K C = some { name := nm, bases := bs, mro := Value.ref C :: bm', ns := N, qualname := qq, hasDict := true, slotNames := sn, subclasses := sub, abstract := ab, collection := col } := by
    unfold PySem.W.clsIn; rw [lk]
  have hh' : PySem.W.hasDictIn K C = true := by unfold PySem.W.hasDictIn; rw [hcl]; rfl
  have ff : PySem.W.findObj K C (some od) name = some (.value v) := PySem.W.findObj_own hh' hn rfl (by rw [hl, hv])
  obtain ⟨bm, lm, ev', ls⟩ := looks_mro (M := model prog w) KX XC.ob
  have u := ends_above ev'
  have isub : PySem.W.Looks (model prog w) s.heap (isInstance (.ref x) (.type "BaseException")) true := I.type.andThen (has_ref (C := C) _ u.be ▸ ls (.type "BaseException"))
  have L0 := I.type (M := model prog w)
  have L1 := PySem.W.looks_findIn (M := model prog w) KX XC.ga
  have L2 := PySem.W.looks_findIn (M := model prog w) KX XC.gh
  have L3 := PySem.W.looks_find (M := model prog w) KX I ff
  have hb := PySem.F.excAttr_ValueError.ga.bind (.ref x)
  obtain ⟨h, g, d, t, os⟩ := s
  unfold getAttr getAttrBy
  refine wpAny_bind (wpAny_mkText (wpAny_holding (wpAny_bind (L0.at (wpAny_bind (L1.at ?_))))))
  show wpAny _ _ (getAttrByItsOwn _ _ _ _ _ _) _ _ _
  unfold getAttrByItsOwn
  refine wpAny_bind (show wpAny _ _ (typeLookup (.ref C) "__getattr__") _ _ _ from L2.at ?_)
  refine wpAny_bind (wpAny_attempt (wpAny_holding ?_))
  have ce : callGetattribute (.ref x) (.str name t) (.builtin "BaseException.__getattribute__") ex = boundAndCalled (.builtin "BaseException.__getattribute__") (.ref x) (.str name t) := by
    cases ex <;> rfl
  rw [ce]
  unfold boundAndCalled
  rw [hb]
  refine wpAny_bind (wpAny_pure (wpAny_call ?_))
  refine codeAny_call_builtin PySem.F.excAttr_ValueError.ga.plain PySem.F.entry_bexc_ga (@PySem.W.check_slot (model prog w) _ _ ⟨h, g, d, t + 1, os⟩ "BaseException.__getattribute__" "BaseException" "__getattribute__" (.ref x) [.str name t] [] _ (by decide +kernel) (by decide +kernel) isub (PySem.F.args_bexc_ga _ _) ?_)
  unfold Builtin.«object.__getattribute__»
  refine wpAny_bind (wpAny_pure (wpAny_bind (wpAny_pure (wpAny_bind (L0.at (wpAny_bind (L3.at (wpAny_pure ?_))))))))
  show wpAny _ _ (handedOut v) _ _ _
  rw [PySem.W.handedOut_of hh]
  exact wpAny_pure q
end
end Xc

set_option Elab.async false
set_option maxRecDepth 100000
set_option linter.all false
namespace Xc
open PySem PySem.Spec
section
variable {prog : Program} {w : World} {A : Around} {E : Value → Shared → Prop} {h : Heap} {g : Array GenState} {d : Drawn} {t : Nat} {os : OsState} {K : PySem.W.Frag} {C fI : Addr}
/-- C(..): the exception is laid, then its __init__ -/
theorem call_cls {rest : List Value} {Q : Value → Shared → Prop} (KX : K.In h) (XC : XCls K C fI) (few : rest.length ≤ sizeLine)
    (hq : wpAny (model prog w) (A.under (.builtin "type.__call__" ⟨.ref C :: rest, []⟩)) (call (.ref fI) (.ref (h.objs.size + 1) :: rest)) (fun r s' => r = .none ∧ Q (.ref (h.objs.size + 1)) s') E
      ⟨(h.push { cls := .type "tuple", data := .seq rest.toArray }).push (rawExc C h.objs.size), g, d, t, os⟩) :
    wpAny (model prog w) A (call (.ref C) rest) Q E ⟨h, g, d, t, os⟩ := by
  obtain ⟨nm, q, N, bs, bm, sn, sub, ab, col, dd, k0, k1, k2, k3, k5, lk, ev⟩ := XC.ob.ob
  have cl := KX _ _ lk
  have l1 := tc_lookup
  have l2 := tc_bind (.ref C)
  have ty : (⟨h, g, d, t, os⟩ : Shared).TypeIs (.ref C) "type" := ⟨_, cl, rfl⟩
  refine wpAny_call (codeAny_of_tree ?_)
  show wpAny _ _ (callAny (.ref C) _) _ _ _
  repeat (any_goals (first | assumption | with_reducible refine wpAny_loadPart_at cl ?_ | wp_step))
  refine ⟨rfl, ?_⟩
  refine codeAny_call_builtin_at (Code.quiet_builtin _ (by decide +kernel)) entry_typeCall (wpAny_check_type_call_sub cl (run_type (ends_above ev) KX cl XC.init XC.fn few ?_))
  exact hq

/-- raise of what was just made -/
theorem raise_it {M : Model} {env : Env} {s : Shared} {x : Sem Value} {Q : Flow → Shared → Prop} (O : XOb K C) (hh : A.handled = none)
    (hq : wpAny M A x (fun v s1 => ∃ e oe vs, v = .ref e ∧ K.In s1.heap ∧ s1.heap.get? e = some oe ∧ oe.cls = .ref C ∧ oe.data = .fields vs ∧ vs[1]? = some .none ∧ E (.ref e) s1) E s) :
    wpAny M A (raiseStmt env (some x) none) Q E s := by
  obtain ⟨nm, q, N, bs, bm, sn, sub, ab, col, dd, k0, k1, k2, k3, k5, lk, ev⟩ := O.ob
  have cB := has_ref (C := C) _ (ends_above ev).be
  unfold raiseStmt
  refine wpAny_bind (wpAny_mono hq (fun v s1 z => ?_) fun _ _ x => x)
  obtain ⟨e, oe, vs, rfl, KX, he, hc, hd, h1, hE⟩ := z
  have cl := KX _ _ lk
  obtain ⟨oc, od, odt, osl⟩ := oe
  dsimp only at hc hd
  subst hc hd
  obtain ⟨hp, g, d, tk, os⟩ := s1
  repeat (first | with_reducible refine wpAny_loadPart_at he ?_ | with_reducible refine wpAny_loadPart_at cl ?_ | (with_reducible refine wpAny_isSubtype_exc cl ?_; rw [cB]) | (with_reducible refine wpAny_field he rfl h1 ?_) | wp_step)
  exact wpAny_raiseNew_none hh hE
end
end Xc

set_option Elab.async false
set_option maxRecDepth 100000
set_option linter.all false
namespace Xc
open PySem PySem.Spec
/-- an exception that flies: its object, its last trace entry, the frame that the entry names -/
structure Fl (h : Heap) (e T C dx : Addr) (fl : Value) : Prop where
  it : ∃ oe vs oT ts, h.get? e = some oe ∧ oe.cls = .ref C ∧ oe.dict = some dx ∧ oe.data = .fields vs ∧ vs[1]? = some (.ref T) ∧ h.get? T = some oT ∧ oT.data = .fields ts ∧ ts[3]? = some fl ∧ vs[2]? = some .none
  ne : T ≠ e
/-- what a step of the flight leaves: all but the exception, its entry and the frames' slots -/
structure Kp (fs ch : List Addr) (h h' : Heap) : Prop where
  out : ∀ b o, b ∉ ch → b ∉ fs → h.get? b = some o → h'.get? b = some o
  fr : ∀ b o, b ∉ ch → h.get? b = some o → ∃ sl, h'.get? b = some { o with slots := sl }
  th : ∀ b o, h.get? b = some o → ∃ o', h'.get? b = some o'
section
variable {M : Model} {A : Around} {E : Value → Shared → Prop} {s : Shared} {base : Heap} {env : Env} {outer : List Env} {L e T C dx : Addr} {fl : Value}
/-- the flight's mark is taken away -/
theorem fl_none {Q : Unit → Shared → Prop} (f : Fl s.heap e T C dx fl) (hq : ∀ h', Fl h' e T C dx .none → Kp [] [T] s.heap h' → Q () { s with heap := h' }) : wpAny M A (setFlight (.ref e) none) Q E s := by
  obtain ⟨⟨oe, vs, oT, ts, he, hc, hd, hf, h1, hT, hTd, h3, hcx⟩, ne⟩ := f
  have sz : 3 < ts.size := (Array.getElem?_eq_some_iff.mp h3).1
  unfold setFlight
  refine wpAny_bind (wpAny_field he hf h1 ?_)
  rw [if_pos (show (Value.ref T != Value.none) = true by simp)]
  refine wpAny_setField hT hTd sz (hq _ ?_ ?_)
  · refine ⟨⟨oe, vs, _, _, ?_, hc, hd, hf, h1, Heap.get?_update_self _ hT (Obj.isFreed_of_fields (Obj.data_mapFields hTd _)), Obj.data_mapFields hTd _, by simp [sz], hcx⟩, ne⟩
    rw [Heap.get?_update_other _ _ ne]; exact he
  · refine ⟨fun b o hb _ q => ?_, fun b o hb q => ⟨o.slots, ?_⟩, fun b o q => ?_⟩
    · rw [Heap.get?_update_other _ _ (fun z => hb (by simp [z]))]; exact q
    · rw [Heap.get?_update_other _ _ (fun z => hb (by simp [z]))]; exact q
    · by_cases z : b = T
      · subst z; exact ⟨_, Heap.get?_update_self _ hT (Obj.isFreed_of_fields (Obj.data_mapFields hTd _))⟩
      · exact ⟨o, by rw [Heap.get?_update_other _ _ (Ne.symm z)]; exact q⟩

/-- a new trace entry -/
theorem fl_entry {oe : Obj} {vs : Array Value} {head : Value} {hn : Bool} {Q : Unit → Shared → Prop}
    (fr : A.frames = some (env :: outer)) (ff : s.heap.FunFrames base (env :: outer)) (hL : env.frame = some L)
    (he : s.heap.get? e = some oe) (hc : oe.cls = .ref C) (hd : oe.dict = some dx) (hf : oe.data = .fields vs) (h1 : 1 < vs.size) (hcx : vs[2]? = some .none)
    (hq : ∀ h' T', Fl h' e T' C dx (rawInt L) → s.heap.objs.size ≤ T' → Kp ((env :: outer).filterMap (·.frame)) [e] s.heap h' → Q () { s with heap := h' }) :
    wpAny M A (do let a ← frameOf env; let pl ← entryPlaceOf L hn; let b ← EntryCells.newEntry head a .none (rawInt L) .none pl; setField (.ref e) 1 b) Q E s := by
  have nf : e ∉ (env :: outer).filterMap (·.frame) := fun z => by
    obtain ⟨_, o, ho, no⟩ := ff.mem z
    rw [he] at ho; cases ho; exact no vs hf
  refine wpAny_bind (wpAny_frameOf_fun fr ff hL fun h1' so => ?_)
  refine wpAny_bind (wpAny_entryPlaceOf fun pl hpl => ?_)
  unfold EntryCells.newEntry newFields
  refine wpAny_bind (wpAny_newObj_type ?_ (hpl.sizeOk5 _ _ _ _ _))
  have e1 : h1'.get? e = some oe := (so.2.1 e nf).trans he
  generalize hob : ({ cls := .type "traceback", dict := none, data := .fields ([head, .ref L, .none, rawInt L, .none] ++ (if pl.isEmpty then List.replicate 6 Value.none else pl)).toArray } : Obj) = ob
  have e2 : (h1'.push ob).get? e = some oe := Heap.get?_push_of_some _ e1
  refine wpAny_setField e2 hf h1 ?_
  have szle : s.heap.objs.size ≤ h1'.objs.size := Nat.le_of_eq so.1.symm
  have nT : h1'.objs.size ≠ e := Nat.ne_of_gt (Heap.lt_size e1)
  have obT : (h1'.push ob).get? h1'.objs.size = some ob := by subst hob; exact Heap.get?_push_size h1' rfl
  have gd := Obj.data_mapFields hf (·.setIfInBounds 1 (Value.ref h1'.objs.size))
  refine hq _ h1'.objs.size ⟨⟨_, _, ob, _, Heap.get?_update_self _ e2 (Obj.isFreed_of_fields gd), ?_, ?_, gd, by simp [h1], ?_, by subst hob; rfl, ?_, ?_⟩, nT⟩ szle ⟨fun b o hb hf' q => ?_, fun b o hb q => ?_, fun b o q => ?_⟩
  · rw [Obj.cls_mapFields]; exact hc
  · obtain ⟨oc, od, odt, osl⟩ := oe
    dsimp only at hf hd
    subst hf
    exact hd
  · rw [Heap.get?_update_other _ _ nT.symm]; exact obT
  · first | (simp; done) | (rcases hpl with rfl | ⟨_, _, _, _, _, _, _, rfl⟩ <;> simp)
  · rw [Array.getElem?_setIfInBounds_ne (by decide)]; exact hcx
  · rw [Heap.get?_update_other _ _ (fun z => hb (by simp [z]))]
    exact Heap.get?_push_of_some _ ((so.2.1 b hf').trans q)
  · obtain ⟨sl, z⟩ := so.2.2 b o q
    refine ⟨sl, ?_⟩
    rw [Heap.get?_update_other _ _ (fun z => hb (by simp [z]))]
    exact Heap.get?_push_of_some _ z
  · by_cases z : b = e
    · subst z; exact ⟨_, Heap.get?_update_self _ e2 (Obj.isFreed_of_fields gd)⟩
    · obtain ⟨sl, y⟩ := so.2.2 b o q
      exact ⟨_, by rw [Heap.get?_update_other _ _ (Ne.symm z)]; exact Heap.get?_push_of_some _ y⟩

/-- the first frame that it leaves or is caught in -/
theorem note_new {oe : Obj} {vs : Array Value} {Q : Unit → Shared → Prop} (fr : A.frames = some (env :: outer)) (ff : s.heap.FunFrames base (env :: outer)) (hL : env.frame = some L)
    (he : s.heap.get? e = some oe) (hc : oe.cls = .ref C) (hd : oe.dict = some dx) (hf : oe.data = .fields vs) (h1 : vs[1]? = some .none) (hcx : vs[2]? = some .none)
    (hq : ∀ h' T', Fl h' e T' C dx (rawInt L) → s.heap.objs.size ≤ T' → Kp ((env :: outer).filterMap (·.frame)) [e] s.heap h' → Q () { s with heap := h' }) : wpAny M A (noteFrame (.ref e) env) Q E s := by
  unfold noteFrame
  simp only [hL]
  refine wpAny_bind (wpAny_field he hf h1 ?_)
  rw [if_neg (by decide)]
  exact fl_entry fr ff hL he hc hd hf (Array.getElem?_eq_some_iff.mp h1).1 hcx hq
/-- a next frame -/
theorem note_next {Q : Unit → Shared → Prop} (fr : A.frames = some (env :: outer)) (ff : s.heap.FunFrames base (env :: outer)) (hL : env.frame = some L) (f : Fl s.heap e T C dx .none)
    (hq : ∀ h' T', Fl h' e T' C dx (rawInt L) → s.heap.objs.size ≤ T' → Kp ((env :: outer).filterMap (·.frame)) [e, T] s.heap h' → Q () { s with heap := h' }) : wpAny M A (noteFrame (.ref e) env) Q E s := by
  obtain ⟨⟨oe, vs, oT, ts, he, hc, hd, hf, h1, hT, hTd, h3, hcx⟩, ne⟩ := f
  unfold noteFrame
  simp only [hL]
  refine wpAny_bind (wpAny_field he hf h1 ?_)
  rw [if_pos (show (Value.ref T != Value.none) = true by simp)]
  refine wpAny_bind (wpAny_field hT hTd h3 ?_)
  rw [if_neg (show ¬ ((Value.none == rawInt L) = true) by simp [rawInt])]
  have sz : 3 < ts.size := (Array.getElem?_eq_some_iff.mp h3).1
  refine wpAny_bind (wpAny_setField hT hTd sz ?_)
  have oth : ∀ b, b ≠ T → (s.heap.update T (Obj.mapFields (·.setIfInBounds 3 Value.none))).get? b = s.heap.get? b := fun b hb => Heap.get?_update_other _ _ (Ne.symm hb)
  have nrec : ∀ b o, s.heap.get? b = some o → (∀ us, o.data ≠ .fields us) → b ≠ T := fun b o hb no z => by
    rw [z, hT] at hb; cases hb; exact no ts hTd
  refine fl_entry fr (ff.of_keeps fun b o hb no => ⟨o, (oth b (nrec b o hb no)).trans hb, rfl⟩) hL ((oth e (Ne.symm ne)).trans he) hc hd hf (Array.getElem?_eq_some_iff.mp h1).1 hcx fun h' T' f' sz' k => ?_
  have usz : (s.heap.update T (Obj.mapFields (·.setIfInBounds 3 Value.none))).objs.size = s.heap.objs.size := Heap.size_update _ _ _
  refine hq h' T' f' (usz ▸ sz') ⟨fun b o hb hf' q => ?_, fun b o hb q => ?_, fun b o q => ?_⟩
  · exact k.out b o (fun z => hb (by simp at z; simp [z])) hf' ((oth b (fun z => hb (by simp [z]))).trans q)
  · exact k.fr b o (fun z => hb (by simp at z; simp [z])) ((oth b (fun z => hb (by simp [z]))).trans q)
  · by_cases z : b = T
    · subst z
      exact k.th b _ (Heap.get?_update_self _ hT (Obj.isFreed_of_fields (Obj.data_mapFields hTd _)))
    · exact k.th b o ((oth b z).trans q)
end
end Xc

set_option Elab.async false
set_option maxRecDepth 100000
set_option linter.all false
namespace Xc
open PySem PySem.Spec L2
open PyProof.Rows (AllBare)
/-- how an exception of the text lies behind a call -/
def CXE (P : Program) (w : World) : CXT := fun outer H s E ev s' => ∃ (e T C dx : Addr) (H' : Hp), ev = .ref e ∧ s.heap.objs.size ≤ e ∧ s.heap.objs.size ≤ T ∧ Fl s'.heap e T C dx .none ∧ H' e = none ∧ H' T = none ∧ s'.os = s.os ∧ AllBare s'.gens ∧
  Un (frs outer) [] H H' s.heap s'.heap ∧ HOk P w H' s'.heap ∧ E (.ref C) (some dx) H'

section
variable {P : Program} {w : World} {H H' : Hp} {h h1 h2 : Heap} {fs fk ch : List Addr}
theorem hok_kp (x : HOk P w H h1) (k : Kp fk ch h1 h2) (hf : ∀ b ∈ fk, H b = none) (hc : ∀ b ∈ ch, H b = none) : HOk P w H h2 := fun a o e => by
  refine (x a o e).stay (fun b u hb q => k.out b u (fun z => ?_) (fun z => ?_) q) (fun _ q => q) fun _ _ q => q
  · have n := hc b z
    rcases hb with rfl | hb
    · rw [n] at e; cases e
    · rw [n] at hb; cases hb
  · have n := hf b z
    rcases hb with rfl | hb
    · rw [n] at e; cases e
    · rw [n] at hb; cases hb
theorem un_kp (u : Un fs [] H H' h h1) (k : Kp fk ch h1 h2) (hf : ∀ b ∈ fk, b ∈ fs ∨ h.objs.size ≤ b) (hc : ∀ b ∈ ch, h.objs.size ≤ b) : Un fs [] H H' h h2 := by
  have nc : ∀ b o, h.get? b = some o → b ∉ ch := fun b o e z => absurd (Nat.lt_of_lt_of_le (Heap.lt_size e) (hc b z)) (Nat.lt_irrefl _)
  have nf : ∀ b o, h.get? b = some o → b ∉ fs → b ∉ fk := fun b o e n z => (hf b z).elim n fun y => absurd (Nat.lt_of_lt_of_le (Heap.lt_size e) y) (Nat.lt_irrefl _)
  refine ⟨fun b o e n hb hx => k.out b o (nc b o e) (nf b o e hb) (u.keep b o e n hb hx), fun b o e n hb hx => ?_, u.free, fun b o e hx => ?_, u.tups, u.frzs, u.tbls⟩
  · obtain ⟨sl, e1⟩ := u.slot b o e n hb hx
    obtain ⟨sl', e2⟩ := k.fr b _ (nc b o e) e1
    exact ⟨sl', e2⟩
  · obtain ⟨o', e1⟩ := u.there b o e hx
    exact k.th b o' e1
/-- an object is tracked no more -/
def fgt (H : Hp) (e : Addr) : Hp := fun b => if b = e then none else H b
theorem fgt_same {e : Addr} : fgt H e e = none := by unfold fgt; rw [if_pos rfl]
theorem fgt_ne {e b : Addr} (n : b ≠ e) : fgt H e b = H b := by unfold fgt; rw [if_neg n]
theorem fgt_some {e b : Addr} {o : HO} (q : fgt H e b = some o) : b ≠ e ∧ H b = some o := by
  by_cases z : b = e
  · rw [z, fgt_same] at q; cases q
  · exact ⟨z, by rw [fgt_ne z] at q; exact q⟩
theorem fgt_none {e b : Addr} (q : H b = none) : fgt H e b = none := by
  by_cases z : b = e
  · rw [z, fgt_same]
  · rw [fgt_ne z]; exact q
/-- it is neither another's dict nor a tuple -/
def Apart (o : HO) : Prop := (∀ y, o ≠ .own y) ∧ (∀ xs, o ≠ .tup xs) ∧ (∀ ob u, o ≠ .frz ob u) ∧ ∀ ps, o ≠ .tbl ps
theorem hok_fgt {e : Addr} {oe : HO} (x : HOk P w H h) (he : H e = some oe) (ap : Apart oe) : HOk P w (fgt H e) h := fun a o q => by
  obtain ⟨ne, q⟩ := fgt_some q
  refine (x a o q).stay (fun _ _ _ z => z) (fun b z => ?_) fun b xs z => ?_
  · rw [fgt_ne]; exact z
    rintro rfl; rw [he] at z; exact ap.1 _ (Option.some.inj z)
  · rw [fgt_ne]; exact z
    rintro rfl; rw [he] at z; exact ap.2.1 _ (Option.some.inj z)
theorem un_fgt {ex : List Addr} {e : Addr} {oe : HO} (u : Un fs ex H H' h h1) (he : H' e = some oe) (ap : Apart oe) : Un fs ex H (fgt H' e) h h1 := by
  refine ⟨u.keep, u.slot, fun b o q n hx => fgt_none (u.free b o q n hx), u.there, fun b xs q => ?_, fun b o v q => ?_, fun b ps q => ?_⟩
  · rw [fgt_ne]; exact u.tups b xs q
    rintro rfl; have z := u.tups _ xs q; rw [he] at z; exact ap.2.1 _ (Option.some.inj z)
  · rw [fgt_ne]; exact u.frzs b o v q
    rintro rfl; have z := u.frzs _ o v q; rw [he] at z; exact ap.2.2.1 _ _ (Option.some.inj z)
  · rw [fgt_ne]; exact u.tbls b ps q
    rintro rfl; obtain ⟨m, z⟩ := u.tbls _ ps q; rw [he] at z; exact ap.2.2.2 _ (Option.some.inj z)
end
section
variable {X : Cx} {pins : List (Addr × Obj)} {σ : St} {H H' : Hp} {s : Shared} {e : Addr} {oe : HO}
theorem Inv_fgt (I : Inv X pins σ H s) (he : H e = some oe) (ap : Apart oe) : Inv X pins σ (fgt H e) s :=
  ⟨I.ok, I.os, I.bare, un_fgt I.base he ap, I.loc, I.cell, fgt_none I.free, fun x c q => fgt_none (I.freeC x c q), fun p hp => let ⟨a, b, c⟩ := I.pin p hp; ⟨a, fgt_none b, c⟩, hok_fgt I.hok he ap, I.len⟩
end
section
variable {P : Program} {w : World} {K : PySem.W.Frag} {mg : Str → Option Value} {base : Heap} {N : List Str} {qual : Str} {scope : Scope} {f : Addr} {cd : Value} {A : Around} {outer : List Env} {s0 : Shared} {H0 : Hp} {E : XK}
end
end Xc

set_option Elab.async false
set_option maxRecDepth 100000
set_option linter.all false
namespace Xc
open PySem PySem.Spec L2
open PyProof.Rows (AllBare)
/-- an exception that was just laid; one whose dict is laid -/
def xnew (e C tp : Addr) : HO := .ext fun h => h.get? e = some (rawExc C tp)
def xful (e C tp dx : Addr) : HO := .ext fun h => h.get? e = some { rawExc C tp with dict := some dx }
theorem xnew_ok {P : Program} {w : World} {H : Hp} {h : Heap} {e C tp : Addr} (q : h.get? e = some (rawExc C tp)) : ObjOk P w H h e (xnew e C tp) := ⟨q, ⟨_, q⟩, fun _ _ a k => k _ a⟩
theorem xful_ok {P : Program} {w : World} {H : Hp} {h : Heap} {e C tp dx : Addr} (q : h.get? e = some { rawExc C tp with dict := some dx }) : ObjOk P w H h e (xful e C tp dx) := ⟨q, ⟨_, q⟩, fun _ _ a k => k _ a⟩
theorem xful_apart {e C tp dx : Addr} : Apart (xful e C tp dx) := by
  unfold Apart xful
  exact ⟨fun _ z => HO.noConfusion z, fun _ z => HO.noConfusion z, fun _ _ z => HO.noConfusion z, fun _ z => HO.noConfusion z⟩

section
variable {X : Cx} {pins : List (Addr × Obj)} {σ : St} {H : Hp} {s : Shared} {e C tp fI : Addr} {f : Str} {y : V} {u : Value} {A : Around} {E : Value → Shared → Prop}
theorem setx_ok {Q : Unit → Shared → Prop} (I : Inv X pins σ H s) (he : H e = some (xnew e C tp)) (XC : XCls X.K C fI) (na : NoAttr X.K C f) (ry : RelV y u)
    (hq : ∀ dx s', H dx = none → dx ≠ e → Inv X pins σ (upd (upd H dx (.xd [(f, y)])) e (xful e C tp dx)) s' → Q () s') : wpAny (model X.prog X.w) A (setAttr (.ref e) f u) Q E s := by
  obtain ⟨hx, _, _⟩ := (show ObjOk _ _ _ _ _ (xnew e C tp) from I.hok e _ he)
  have hx : s.heap.get? e = some (rawExc C tp) := hx
  refine set_new I.kIn XC hx na fun h' tk q1 q2 q3 => ?_
  have nd : H s.heap.objs.size = none := I.hok.fresh (Nat.le_refl _)
  have ne : s.heap.objs.size ≠ e := (Nat.ne_of_lt (Heap.lt_size hx)).symm
  refine hq s.heap.objs.size _ nd ne ?_
  obtain ⟨od, _, _, hod, _⟩ := id q2
  have no : ∀ b o, H b = some o → b ≠ s.heap.objs.size := fun b o z => ne_of_none z nd
  have nown : ∀ b z, H b = some (.own z) → b ≠ e := fun b z q w' => by subst w'; rw [he] at q; cases q
  have ntup : ∀ b xs, H b = some (.tup xs) → b ≠ e := fun b xs q w' => by subst w'; rw [he] at q; cases q
  have up : ∀ b o, H b = some o → b ≠ e → (upd (upd H s.heap.objs.size (.xd [(f, y)])) e (xful e C tp s.heap.objs.size)) b = some o := fun b o q n => by rw [upd_ne n, upd_ne (no b o q)]; exact q
  refine I.un (h' := h') (t' := tk) ⟨fun b o q n _ _ => q3 b o (fun z => by subst z; rw [he] at n; cases n) q, fun b o q n _ _ => ⟨o.slots, q3 b o (fun z => by subst z; rw [he] at n; cases n) q⟩, fun b o q n _ => ?_, fun b o q _ => ?_, fun b xs q => up b _ q (ntup b xs q), fun b ob v q => up b _ q (fun z => by subst z; rw [he] at q; cases q), fun b ps q => ⟨#[], by rw [up b _ q (fun z => by subst z; rw [he] at q; cases q)]; simp⟩⟩ fun b o q => ?_
  · rw [upd_ne (fun z => by subst z; rw [he] at n; cases n), upd_ne (Nat.ne_of_lt (Heap.lt_size q))]; exact n
  · by_cases z : b = e
    · subst z; exact ⟨_, q1⟩
    · exact ⟨o, q3 b o z q⟩
  · by_cases z : b = e
    · subst z; rw [upd_same] at q; cases q; exact xful_ok q1
    · rw [upd_ne z] at q
      by_cases z2 : b = s.heap.objs.size
      · subst z2; rw [upd_same] at q; cases q
        refine ⟨_, q2, fun g => ?_⟩
        show RelO (List.lookup g [(f, y)]) (if g = f then some u else none)
        by_cases gg : g = f
        · subst gg; rw [if_pos rfl]; simp only [List.lookup_cons, beq_self_eq_true]; exact ry
        · rw [if_neg gg]; have : (g == f) = false := beq_eq_false_iff_ne.mpr gg
          simp only [List.lookup_cons, this]; exact True.intro
      · rw [upd_ne z2] at q
        refine (I.hok b o q).stay (fun c v hc r => q3 c v ?_ r) (fun c r => up c _ r (nown c b r)) fun c xs r => up c _ r (ntup c xs r)
        rcases hc with rfl | hc
        · exact z
        · exact nown c b hc
end
/-- self.f = value in the __init__ of an exception -/
def sX (K : PySem.W.Frag) (ta tv : TE) (f : Str) : TS := fun D σ H => tv σ H fun y H1 => ta σ H1 fun x H2 => ∃ e C fI tp, x = .ref e ∧ H2 e = some (xnew e C tp) ∧ XCls K C fI ∧ NoAttr K C f ∧ ∀ dx, H2 dx = none → dx ≠ e → D.nx σ (upd (upd H2 dx (.xd [(f, y)])) e (xful e C tp dx))
theorem ps_xfld {X : Cx} {o value : Expr} {f : Str} {pos pos' : Pos} {ta tv : TE} (ha : PE X o ta) (hv : PE X value tv) (hs : swapsWith value (some (.Attribute o f pos')) pos.line X.env = pure false) : PS X (.Assign [.Attribute o f pos'] value pos) (sX X.K ta tv f) := by
  intro pins s σ H D I h
  refine plainObj_wpAny_Assign_Attribute (thn (hv pins s σ H _ I h) fun u s1 ⟨y, H1, I1, ry, q⟩ => thn (ha pins s1 σ H1 _ I1 q) fun ov s2 ⟨x, H2, I2, rx, e, C, fI, tp, ex, he, XC, na, q2⟩ => ?_) hs
  subst ex
  obtain rfl : ov = Value.ref e := rx
  exact setx_ok I2 he XC na ry fun dx s3 n1 n2 I3 => ⟨σ, _, I3, q2 dx n1 n2⟩

/-- what DozeError's own __init__ promises -/
def spXI (K : PySem.W.Frag) (f : Str) : Sp := fun vs H Q _ => ∃ e C fI tp v, vs = [.ref e, v] ∧ H e = some (xnew e C tp) ∧ XCls K C fI ∧ NoAttr K C f ∧ ∀ dx, H dx = none → dx ≠ e → Q .non (upd (upd H dx (.xd [(f, v)])) e (xful e C tp dx))

/-- an exception that was just raised reaches what this body wants of exceptions -/
def Out (X : Cx) (E : XK) : Prop := ∀ (pins : List (Addr × Obj)) (σ : St) (H : Hp) (s : Shared) (e C dx : Addr) (oe : Obj) (vs : Array Value), Inv X pins σ H s → X.s_0.heap.objs.size ≤ e → H e = none → s.heap.get? e = some oe → oe.cls = .ref C → oe.dict = some dx → oe.data = .fields vs → vs[1]? = some .none → vs[2]? = some .none →
  E (.ref C) (some dx) H → X.xe (.ref e) s

/-- raise C(arg) -/
def tRaise (C : Addr) (f : Str) (t : TA) (E : XK) : TS := fun _ σ H => t σ H fun vs H1 => ∃ v, vs = [v] ∧ ∀ dx, H1 dx = none → E (.ref C) (some dx) (upd H1 dx (.xd [(f, v)]))
theorem ps_raise {X : Cx} {C fI : Addr} {fd : FuncData} {k : Nat} {x p1 f : Str} {np cpos pos : Pos} {a : Expr} {t : TA} {E : XK} (XC : XCls X.K C fI) (F : FnOk X.prog X.w X.K X.mg X.base CX0 k fI fd ["self", p1] (spXI X.K f)) (b : Binds X.K fd ["self", p1] [])
    (hr : Room (k + 1) X.A) (hg : Gl X x) (hm : X.mg x = some (.ref C)) (na : NoAttr X.K C f) (ha : PA X [a] t) (ho : Out X E) (hdb : (x == ("__debug__" : Str)) = false := by decide)
    (he : starEach [a] X.env = (false, eval a X.env) :: starEach [] X.env := by rfl) : PS X (.Raise (some (.Call (.Name x np) [a] [] cpos)) none pos) (tRaise C f t E) := by
  intro pins s σ H D I h
  rw [arm_exec_Raise]
  refine wpAny_bind (wpAny_standAt (raise_it (K := X.K) (C := C) XC.ob hr.hd ?_))
  refine wpAny_bind (wpAny_mono (Q := fun v s1 => ∃ e oe vs, v = .ref e ∧ X.K.In s1.heap ∧ s1.heap.get? e = some oe ∧ oe.cls = .ref C ∧ oe.data = .fields vs ∧ vs[1]? = some .none ∧ X.xe (.ref e) s1) (E := X.xe) ?_ (fun v s1 q => wpAny_bind (wpAny_standAt (wpAny_pure q))) fun _ _ z => z)
  refine wpAny_Call_ofName (ld_glob I hg hm ?_ hdb)
  refine PySem.W.callWith_K (h₀ := X.base) I.ok.mod.kin XC.kp (thn (ha cpos pins s σ H _ I h) fun us s1 ⟨vs, H1, I1, r, v, ev, q⟩ => ⟨I1.kIn, ?_⟩) he rfl
  subst ev
  obtain ⟨u, rfl, ru⟩ := vals1 r
  obtain ⟨hp, g, d, tk, os⟩ := s1
  have few : [u].length ≤ sizeLine := by show 1 ≤ sizeLine; rw [sizeLine_eq]; decide
  refine call_cls I1.kIn XC few ?_
  -- the tuple of the arguments, then the exception
  have I2 : Inv X pins σ H1 ⟨hp.push { cls := .type "tuple", data := .seq [u].toArray }, g, d, tk, os⟩ := I1.kept (s := ⟨hp, g, d, tk, os⟩) (t' := tk) fun b o q => Heap.get?_push_of_some _ q
  have sz : (hp.push { cls := .type "tuple", data := .seq [u].toArray }).objs.size = hp.objs.size + 1 := Heap.size_push _ _
  have g1 : ((hp.push { cls := .type "tuple", data := .seq [u].toArray }).push (rawExc C hp.objs.size)).get? (hp.objs.size + 1) = some (rawExc C hp.objs.size) := by heap_get
  have ne : H1 (hp.objs.size + 1) = none := I1.hok.fresh (Nat.le_succ _)
  have I3 : Inv X pins σ (upd H1 (hp.objs.size + 1) (xnew (hp.objs.size + 1) C hp.objs.size)) ⟨(hp.push { cls := .type "tuple", data := .seq [u].toArray }).push (rawExc C hp.objs.size), g, d, tk, os⟩ :=
    I2.laid (s := ⟨hp.push { cls := .type "tuple", data := .seq [u].toArray }, g, d, tk, os⟩) (t' := tk) (fun b o q => Heap.get?_push_of_some _ q) (Nat.le_of_eq sz) (xnew_ok g1)
  have r2 : Vals [V.ref (hp.objs.size + 1), v] [Value.ref (hp.objs.size + 1), u] := .cons rfl (.cons ru .nil)
  have hsp : spXI X.K f [V.ref (hp.objs.size + 1), v] (upd H1 (hp.objs.size + 1) (xnew (hp.objs.size + 1) C hp.objs.size)) (fun v' H4 => v' = .non ∧ ∃ dx, H1 dx = none ∧ dx ≠ hp.objs.size + 1 ∧
      H4 = upd (upd (upd H1 (hp.objs.size + 1) (xnew (hp.objs.size + 1) C hp.objs.size)) dx (.xd [(f, v)])) (hp.objs.size + 1) (xful (hp.objs.size + 1) C hp.objs.size dx)) E0 :=
    ⟨hp.objs.size + 1, C, fI, hp.objs.size, v, rfl, upd_same, XC, na, fun dx n1 n2 => ⟨rfl, dx, by rw [upd_ne n2] at n1; exact n1, n2, rfl⟩⟩
  refine wpAny_call (codeAny_mono (F.run _ X.stack _ _ ⟨[.ref (hp.objs.size + 1), u], []⟩ [.ref (hp.objs.size + 1), u] _ _ E0 (hr.make C [u] []) (I3.env0.make C [u] []) (b _ [.ref (hp.objs.size + 1), u] I3.kIn rfl) r2 hsp) fun r s' hq' => ?_)
  cases r with
  | error e => exact False.elim hq'
  | ok fl =>
    cases fl with
    | next => exact False.elim hq'
    | brk => exact False.elim hq'
    | cont => exact False.elim hq'
    | ret u' =>
      obtain ⟨v', H', I4, rv, ev, dx, n1, n2, eH⟩ := I3.after hq'
      subst ev eH
      refine ⟨rv, hp.objs.size + 1, { rawExc C hp.objs.size with dict := some dx }, _, rfl, I4.kIn, ?_, rfl, rfl, rfl, ?_⟩
      · exact (show ObjOk _ _ _ _ _ (xful _ C _ dx) from I4.hok _ _ upd_same).1
      · have I5 := Inv_fgt I4 upd_same xful_apart
        have eq : fgt (upd (upd (upd H1 (hp.objs.size + 1) (xnew (hp.objs.size + 1) C hp.objs.size)) dx (.xd [(f, v)])) (hp.objs.size + 1) (xful (hp.objs.size + 1) C hp.objs.size dx)) (hp.objs.size + 1) = upd H1 dx (.xd [(f, v)]) := by
          funext c
          by_cases z : c = hp.objs.size + 1
          · subst z; rw [fgt_same, upd_ne n2.symm, ne]
          · rw [fgt_ne z, upd_ne z]
            by_cases z2 : c = dx
            · subst z2; rw [upd_same, upd_same]
            · rw [upd_ne z2, upd_ne z, upd_ne z2]
        rw [eq] at I5
        exact ho pins σ _ s' _ C dx _ _ I5 (Nat.le_trans I1.sz (Nat.le_succ _)) (by rw [upd_ne n2.symm]; exact ne) (show ObjOk _ _ _ _ _ (xful _ C _ dx) from I4.hok _ _ upd_same).1 rfl rfl rfl rfl rfl (q dx n1)

section
variable {P : Program} {w : World} {K : PySem.W.Frag} {mg : Str → Option Value} {base : Heap} {N : List Str} {qual : Str} {scope : Scope} {f : Addr} {cd : Value} {A : Around} {outer : List Env} {s0 : Shared} {H0 : Hp} {E : XK}
theorem out_on : Out (cxOf (CXE P w) P w K mg base N qual scope f cd A outer s0 H0 E) E := by
  intro pins σ H s e C dx oe vs J se ne he hc hd hf h1 hcx hE
  show wpAny _ _ (leaving _ (.ref e)) _ _ s
  unfold leaving
  refine wpAny_bind (note_new (J.ok.frames) J.stack rfl he hc hd hf h1 hcx fun h1' T1 f1 sz1 k1 => ?_)
  refine fl_none (s := { s with heap := h1' }) f1 fun h2 f2 k2 => ?_
  have nT1 : H T1 = none := J.hok.fresh sz1
  have sz0 : s0.heap.objs.size ≤ T1 := Nat.le_trans (J.sz) sz1
  have fr : ∀ b ∈ (cxOf (CXE P w) P w K mg base N qual scope f cd A outer s0 H0 E).stack.filterMap (·.frame), b ∈ frs outer ∨ s0.heap.objs.size ≤ b := fun b hb => by
    rcases List.mem_cons.mp (J.stkSub b hb) with z | z
    · right; rw [z]; exact Nat.le_refl _
    · exact .inl z
  have U0 : Un (frs outer) [] H0 H s0.heap s.heap := J.base
  have U1 := un_kp U0 k1 fr fun b hb => by rw [List.mem_singleton.mp hb]; exact se
  have U2 := un_kp U1 k2 (fun b hb => nomatch hb) fun b hb => by rw [List.mem_singleton.mp hb]; exact sz0
  have K1 := hok_kp J.hok k1 (fun b hb => J.stkFree b hb) fun b hb => by rw [List.mem_singleton.mp hb]; exact ne
  have K2 := hok_kp K1 k2 (fun b hb => nomatch hb) fun b hb => by rw [List.mem_singleton.mp hb]; exact nT1
  exact ⟨e, T1, C, dx, H, rfl, se, sz0, f2, ne, nT1, J.os, J.bare, U2, K2, hE⟩
end
end Xc

set_option Elab.async false
set_option maxRecDepth 100000
set_option linter.all false
namespace Xc
open PySem PySem.Spec L2
open PyProof.Rows (AllBare)
abbrev withPins (X : Cx) (pn : List (Addr × Obj)) : Cx := { X with pn := pn }
/-- .. of a handler's suite -/
abbrev XH (X : Cx) (pn : List (Addr × Obj)) (e : Addr) (oe : Obj) : Cx := { X with pn := (e, oe) :: pn, A := X.A.mark (some (.ref e)), calm := false, xe := fun _ _ => False }

section
variable {X : Cx} {pins pn : List (Addr × Obj)} {σ : St} {H : Hp} {s : Shared} {EX : XK}
theorem ok_pins (ok : X.Ok) : (withPins X pn).Ok := ⟨ok.mod, ok.kind, ok.glob, ok.blt, ok.above, ok.inj, ok.has, ok.cab, ok.hd, ok.frames, ok.stk, ok.exf, ok.bs, ok.bsz, ok.noex, ok.exfs, ok.funs, ok.frf⟩
theorem unok_pins (ok : (withPins X pn).Ok) : X.Ok := ⟨ok.mod, ok.kind, ok.glob, ok.blt, ok.above, ok.inj, ok.has, ok.cab, ok.hd, ok.frames, ok.stk, ok.exf, ok.bs, ok.bsz, ok.noex, ok.exfs, ok.funs, ok.frf⟩
theorem to_pins (I : Inv X pins σ H s) : Inv (withPins X (X.pn ++ pins)) [] σ H s := ⟨ok_pins I.ok, I.os, I.bare, I.base, I.loc, I.cell, I.free, I.freeC, fun p hp => I.pin p (by simpa using hp), I.hok, I.len⟩
theorem of_pins {q : List (Addr × Obj)} (I : Inv (withPins X (X.pn ++ pins)) q σ H s) : Inv X pins σ H s := ⟨unok_pins I.ok, I.os, I.bare, I.base, I.loc, I.cell, I.free, I.freeC, fun p hp => I.pin p (List.mem_append_left _ hp), I.hok, I.len⟩
theorem drop_pins (I : Inv X pins σ H s) : Inv X [] σ H s := I.pins_of fun p hp => nomatch hp
end
/-- a name is taken away behind a suite -/
theorem name_gone {X : Cx} {pins : List (Addr × Obj)} {σ : St} {H : Hp} {s : Shared} {i : Nat} {n : Str} {pos : Pos} {A : Around} {E : Value → Shared → Prop} {Q : Unit → Shared → Prop} (I : Inv X pins σ H s) (hN : X.N.Nodup) (hi : X.N[i]? = some n) (hl : X.env.scope.names.lookup n = some .local)
    (hq : ∀ s', Inv X pins (σ.set i none) H s' → Q () s') : wpAny (model X.prog X.w) A (do bindName X.env n .none; unbindBehindTheSuite X.env n pos) Q E s := by
  obtain ⟨m, hn, hv⟩ := id I.loc
  refine wpAny_nameGoes_keeps hl hn (by rw [I.ok.kind]; rfl) fun h' v hn' hs => hq _ ?_
  have oth : ∀ b o, b ≠ X.env.locals → s.heap.get? b = some o → h'.get? b = some o := fun b o nb q => (hs.2 b nb).trans q
  have neL : ∀ b o, X.s_0.heap.get? b = some o → b ≠ X.env.locals := fun b o e => Nat.ne_of_lt (Nat.lt_of_lt_of_le (Heap.lt_size e) I.ok.above)
  refine ⟨I.ok, I.os, I.bare, ⟨fun b o e nn hb hx => oth b o (neL b o e) (I.base.keep b o e nn hb hx), fun b o e nn hb hx => ?_, I.base.free, fun b o e hx => ?_, I.base.tups, I.base.frzs, I.base.tbls⟩, ⟨_, hn', fun j y v' e1 e2 e3 => ?_⟩, fun y c e => ?_, I.free, I.freeC, fun p hp => ?_, fun b o e => ?_, by simpa using I.len⟩
  · obtain ⟨sl, e1⟩ := I.base.slot b o e nn hb hx
    exact ⟨sl, oth b _ (neL b o e) e1⟩
  · obtain ⟨o', e1⟩ := I.base.there b o e hx
    exact ⟨o', oth b _ (neL b o e) e1⟩
  · have ji : j ≠ i := by
      rintro rfl
      have hj : j < σ.length := by rw [I.len]; exact (List.getElem?_eq_some_iff.mp hi).1
      rw [List.getElem?_set_self hj] at e2
      cases e2
    rw [List.getElem?_set_ne (Ne.symm ji)] at e2
    obtain ⟨u, r, q⟩ := hv j y v' e1 e2 e3
    have yn : y ≠ n := fun z => ji (nodup_ix hN e1 (z ▸ hi))
    refine ⟨u, r, ?_⟩
    rcases q with ⟨k, z⟩ | ⟨k, c, z1, z2⟩
    · exact .inl ⟨k, (if_neg yn).trans z⟩
    · exact .inr ⟨k, c, z1, z2.sameBut hs (I.cne y c z1)⟩
  · obtain ⟨w', z⟩ := I.cell y c e
    exact ⟨w', z.sameBut hs (I.cne y c e)⟩
  · obtain ⟨e, nn, ne, nf, dd⟩ := I.pin p hp
    exact ⟨oth _ _ ne e, nn, ne, nf, dd⟩
  · refine (I.hok b o e).stay (fun c w' hc q => oth c w' (fun z => ?_) q) (fun _ q => q) fun _ _ q => q
    rcases hc with rfl | hc
    · rw [z, I.free] at e; cases e
    · rw [z, I.free] at hc; cases hc


/-- e.f of an exception that is bound in a handler -/
def tX (K : PySem.W.Frag) (e : Addr) (oe : Obj) (ta : TE) (f : Str) : TE := fun σ H Q => ta σ H fun x H1 => ∃ C fI dx fs v vs, x = .ref e ∧ oe.cls = .ref C ∧ oe.dict = some dx ∧ oe.data = .fields vs ∧ XCls K C fI ∧ NoAttr K C f ∧ H1 dx = some (.xd fs) ∧ fs.lookup f = some v ∧ Q v H1
theorem pe_xfld {X : Cx} {a : Expr} {f : Str} {pos : Pos} {ta : TE} {e : Addr} {oe : Obj} {K : PySem.W.Frag} (hK : X.K = K) (hp : (e, oe) ∈ X.pn) (ha : PE X a ta) (hb : attributeBase a f X.env (eval a X.env) = eval a X.env) : PE X (.Attribute a f pos) (tX K e oe ta f) := by
  subst hK
  intro pins s σ H Q I h
  refine attr_of hb (thn (ha pins s σ H _ I h) fun u s1 ⟨x, H1, I1, rx, C, fI, dx, fs, v, vs, ex, hc, hd, hf, XC, na, hx, l, q⟩ => ?_)
  subst ex
  obtain rfl : u = Value.ref e := rx
  obtain ⟨mA, ns, r⟩ := (show ObjOk _ _ _ _ _ (.xd fs) from I1.hok dx _ hx)
  obtain ⟨u', hu, ru⟩ := RelO.some_of (v := v) (o := mA f) (by rw [← l]; exact r f)
  have he := (I1.pin (e, oe) (List.mem_append_left _ hp)).1
  exact get_attr I1.kIn XC he hc (by unfold PySem.W.notCls; rw [hf]) hd ns hu na (handed_of ru) ⟨v, H1, I1.tok _, ru, q⟩
end Xc

set_option Elab.async false
set_option maxRecDepth 100000
set_option linter.all false
namespace Xc
open PySem PySem.Spec L2
open PyProof.Rows (AllBare)
section
variable {M : Model} {A : Around} {E : Value → Shared → Prop}
variable {nm q : Str} {C N : Addr} {bs bm : List Value} {hdct : Bool} {sn : List Str} {sub : List Value} {ab : Bool} {col : Option Bool} {dd : Option Addr} {k0 k1 k2 k3 k5 : Option Value} {newId : String}
variable {nm' q' : Str} {D N' : Addr} {bs' bm' : List Value} {hdct' : Bool} {sn' : List Str} {sub' : List Value} {ab' : Bool} {col' : Option Bool} {dd' : Option Addr} {j0 j1 j2 j3 j5 : Option Value} {newId' : String}
/-- an exception of one own class held against another own class -/
theorem matches_own {h : Heap} {g : Array GenState} {d : Drawn} {t : Nat} {os : OsState} {e : Addr} {oe : Obj} {Q : Bool → Shared → Prop}
    (hC : h.get? C = some (excClassObj nm q C N bs bm hdct sn sub ab col dd k0 k1 k2 k3 k5 newId)) (hbase : bm.contains (.type "BaseException") = true)
    (hD : h.get? D = some (excClassObj nm' q' D N' bs' bm' hdct' sn' sub' ab' col' dd' j0 j1 j2 j3 j5 newId')) (he : h.get? e = some oe) (hcls : oe.cls = .ref D)
    (hq : Q ((Value.ref D :: bm').contains (.ref C)) ⟨h, g, d, t, os⟩) : wpAny M A (excMatches (.ref e) (.ref C)) Q E ⟨h, g, d, t, os⟩ := by
  have hcB : (Value.ref C :: bm).contains (.type "BaseException") = true := by rw [List.contains_cons, hbase, Bool.or_true]
  have f := tc_notTuple
  unfold excMatches
  generalize hb : (Value.ref D :: bm').contains (.ref C) = b at hq
  cases b with
  | true =>
    repeat (first | (with_reducible refine wpAny_loadPart_at he ?_; rw [hcls]) | with_reducible refine wpAny_loadPart_at hC ?_ | (with_reducible refine wpAny_isSubtype_exc hC ?_; rw [hcB]) | (with_reducible refine wpAny_isSubtype_exc hD ?_; rw [hb]) | wp_step)
    exact hq
  | false =>
    repeat (first | (with_reducible refine wpAny_loadPart_at he ?_; rw [hcls]) | with_reducible refine wpAny_loadPart_at hC ?_ | (with_reducible refine wpAny_isSubtype_exc hC ?_; rw [hcB]) | (with_reducible refine wpAny_isSubtype_exc hD ?_; rw [hb]) | wp_step)
    exact hq
end
/-- whether the class at D stands under the one at C -/
def subIn (K : PySem.W.Frag) (D : Addr) (b : Value) : Bool := match K.lookup D with
  | some ⟨_, _, .cls cd, _⟩ => cd.mro.contains b
  | _ => false

/-- an exception has come to this frame's try, the names as they were -/
def LandS (X : Cx) (EX : XK) (σ : St) (ev : Value) (s' : Shared) : Prop := ∃ (m e T C dx : Addr) (H' : Hp), ev = .ref e ∧ Inv X [] σ H' s' ∧ (X.s_0.heap.objs.size ≤ m ∧ X.env.locals < m ∧ (∀ y c, X.env.cells.lookup y = some c → c < m) ∧ ∀ p ∈ X.pn, p.1 < m) ∧ m ≤ e ∧ m ≤ T ∧ Fl s'.heap e T C dx .none ∧ H' e = none ∧ H' T = none ∧ EX (.ref C) (some dx) H'
abbrev XBS (X : Cx) (pn : List (Addr × Obj)) (EX : XK) (σ : St) : Cx := (withPins X pn).wish (LandS (withPins X pn) EX σ)
/-- .. with these names an exception of a callee reaches what is wanted -/
def PassesAt (CX : CXT) (X : Cx) (E : XK) (σ : St) : Prop := ∀ (pins : List (Addr × Obj)) (H : Hp) (s : Shared) (e : Value) (s' : Shared), Inv X pins σ H s → CX X.stack H s E e s' → X.xe e s'
theorem land_at {X : Cx} {pn : List (Addr × Obj)} {EX : XK} {σ : St} : PassesAt (CXE X.prog X.w) (XBS X pn EX σ) EX σ := by
  rintro pins H s ev s' I ⟨e, T, C, dx, H', rfl, se, sT, fl, ne, nT, os, bare, un, hok, hE⟩
  have J := I.call' os un hok bare fun b z => nomatch z
  refine ⟨s.heap.objs.size, e, T, C, dx, H', rfl, drop_pins J.unwish, ⟨I.sz, I.lt, fun y c q => ?_, fun p hp => ?_⟩, se, sT, fl, ne, nT, hE⟩
  · obtain ⟨v, o, ho, _⟩ := I.cell y c q
    exact Heap.lt_size ho
  · exact Heap.lt_size (I.pin p (List.mem_append_left _ hp)).1

/-- handlers: of the exception's class, its object, what they do -/
abbrev HT := Addr → Addr → Obj → TS
/-- an exception that is held against handlers -/
structure Caught (X : Cx) (pins : List (Addr × Obj)) (σ : St) (H : Hp) (s : Shared) (m e T Dc dx : Addr) (oe : Obj) : Prop where
  J : Inv X pins σ H s
  nw : X.s_0.heap.objs.size ≤ m ∧ X.env.locals < m ∧ (∀ y c, X.env.cells.lookup y = some c → c < m) ∧ ∀ p ∈ X.pn ++ pins, p.1 < m
  me : m ≤ e
  mT : m ≤ T
  fl : Fl s.heap e T Dc dx .none
  ne : H e = none
  nT : H T = none
  he : s.heap.get? e = some oe
  hc : oe.cls = .ref Dc
  hd : oe.dict = some dx
  hf : ∃ vs, oe.data = .fields vs
def PH (X : Cx) (hs : List ExceptHandler) (t : HT) : Prop :=
  ∀ (pins : List (Addr × Obj)) (s : Shared) (σ : St) (H : Hp) (D : Ends) (m e T Dc dx : Addr) (oe : Obj), Caught X pins σ H s m e T Dc dx oe → XOb X.K Dc → t Dc e oe D σ H →
    wpAny (model X.prog X.w) X.A (handleBy (.ref e) X.env hs) (SP X pins D) X.xe s
def hNil : HT := fun _ _ _ _ _ _ => False
theorem ph_nil {X : Cx} : PH X [] hNil := fun _ _ _ _ _ _ _ _ _ _ _ _ _ h => h.elim
def hCons (K : PySem.W.Frag) (C : Addr) (i : Nat) (th : Addr → Obj → TS) (T : HT) : HT := fun Dc e oe D σ H => if subIn K Dc (.ref C) = true then
  th e oe { nx := fun σ' H' => D.nx (σ'.set i none) H', rt := D.rt, bk := fun σ' H' => D.bk (σ'.set i none) H', ct := fun σ' H' => D.ct (σ'.set i none) H' } (σ.set i (some (.ref e))) H else T Dc e oe D σ H

section
variable {X : Cx} {pins : List (Addr × Obj)} {σ : St} {H : Hp} {s : Shared} {m e T Dc dx : Addr} {oe : Obj}
theorem Caught.new (c : Caught X pins σ H s m e T Dc dx oe) : ∀ b, m ≤ b → X.s_0.heap.objs.size ≤ b ∧ b ≠ X.env.locals ∧ (∀ y c, X.env.cells.lookup y = some c → c ≠ b) ∧ ∀ p ∈ X.pn ++ pins, p.1 ≠ b := fun b hb =>
  ⟨Nat.le_trans c.nw.1 hb, (Nat.ne_of_lt (Nat.lt_of_lt_of_le c.nw.2.1 hb)).symm, fun y z q => Nat.ne_of_lt (Nat.lt_of_lt_of_le (c.nw.2.2.1 y z q) hb), fun p hp => Nat.ne_of_lt (Nat.lt_of_lt_of_le (c.nw.2.2.2 p hp) hb)⟩
theorem stepK {h2 : Heap} {fk ch : List Addr} (hnew : ∀ b, m ≤ b → X.s_0.heap.objs.size ≤ b ∧ b ≠ X.env.locals ∧ (∀ y c, X.env.cells.lookup y = some c → c ≠ b) ∧ ∀ p ∈ X.pn ++ pins, p.1 ≠ b)
    (hst : X.stack = X.env :: X.outer) (J : Inv X pins σ H s) (k : Kp fk ch s.heap h2) (hfk : ∀ b ∈ fk, b ∈ (X.env :: X.outer).filterMap (·.frame)) (hch : ∀ b ∈ ch, H b = none ∧ m ≤ b) : Inv X pins σ H { s with heap := h2 } := by
  have hfree : ∀ b ∈ (X.env :: X.outer).filterMap (·.frame), H b = none := fun b hb => J.stkFree b (by rw [hst]; exact hb)
  refine J.call (g' := s.gens) (d' := s.drawn) (t' := s.toks) (ch := ch) (h' := h2) ?_ (hok_kp J.hok k (fun b hb => hfree b (hfk b hb)) fun b hb => (hch b hb).1) J.bare fun b hb => ⟨.inr (hnew b (hch b hb).2).1, (hnew b (hch b hb).2).2.1, (hnew b (hch b hb).2).2.2.1, (hnew b (hch b hb).2).2.2.2⟩
  have hs : ∀ b ∈ fk, b ∈ frs X.stack := fun b hb => by rw [hst]; exact hfk b hb
  exact ⟨fun b o q n hb hx => k.out b o hx (fun z => hb (hs b z)) q, fun b o q n hb hx => k.fr b o hx q, fun _ _ _ n _ => n, fun b o q hx => k.th b o q, fun _ _ q => q, fun _ _ _ q => q, fun b ps q => ⟨#[], by rw [q]; simp⟩⟩
end
theorem ph_cons {X : Cx} {C : Addr} {i : Nat} {x n : Str} {np hpos : Pos} {suite : List Stmt} {b0 : Stmt} {th : Addr → Obj → TS} {rest : List ExceptHandler} {TT : HT} (O : XOb X.K C)
    (hh : ∀ pn e oe, PSs (XH X pn e oe) (b0 :: suite) (th e oe)) (hg : Gl X x) (hm : X.mg x = some (.ref C)) (hN : X.N.Nodup) (hi : X.N[i]? = some n) (hl : X.env.scope.names.lookup n = some .local)
    (hst : X.stack = X.env :: X.outer) (hfr : X.env.frame = some X.env.locals) (hr : PH X rest TT) (hdb : (x == ("__debug__" : Str)) = false := by decide) :
    PH X (.ExceptHandler (some (.Name x np)) (some n) (b0 :: suite) hpos :: rest) (hCons X.K C i th TT) := by
  intro pins s σ H D m e T Dc dx oe c XD h
  obtain ⟨nm, qq, Ns, bs, bm, sn, sub, ab, col, dd, k0, k1, k2, k3, k5, lk, ev⟩ := O.ob
  obtain ⟨nm', qq', Ns', bs', bm', sn', sub', ab', col', dd', j0, j1, j2, j3, j5, lk', ev'⟩ := XD.ob
  have J5 := c.J
  have hnew := c.new
  obtain ⟨vs, hef⟩ := c.hf
  have nfs : e ∉ X.fs := fun z => by
    have z' : e ∈ (X.env :: X.outer).filterMap (·.frame) := by rw [List.filterMap_cons, hfr]; exact List.mem_cons_of_mem _ z
    have hf5 : s.heap.FunFrames X.base (X.env :: X.outer) := by have := J5.stack; rw [hst] at this; exact this
    obtain ⟨_, o, ho, no⟩ := hf5.mem z'
    have := c.he
    rw [ho] at this; cases this; exact no vs hef
  have toH : ∀ {σ' : St} {s2 : Shared}, Inv X pins σ' H s2 → s2.heap.get? e = some oe → Inv (XH X (X.pn ++ pins) e oe) [] σ' H s2 := fun {σ' s2} Jx q =>
    ⟨⟨Jx.ok.mod, Jx.ok.kind, Jx.ok.glob, Jx.ok.blt, Jx.ok.above, Jx.ok.inj, Jx.ok.has, Jx.ok.cab, (fun z => nomatch z), Jx.ok.frames, Jx.ok.stk, Jx.ok.exf, Jx.ok.bs, Jx.ok.bsz, Jx.ok.noex, Jx.ok.exfs, Jx.ok.funs, Jx.ok.frf⟩, Jx.os, Jx.bare, Jx.base, Jx.loc, Jx.cell, Jx.free, Jx.freeC, fun p hp => by
      rcases List.mem_cons.mp (show p ∈ (e, oe) :: (X.pn ++ pins) by simpa using hp) with z | z
      · rw [z]; exact ⟨q, c.ne, (hnew e c.me).2.1, nfs, fun v y => by rw [hef] at y; cases y⟩
      · exact Jx.pin p z, Jx.hok, Jx.len⟩
  have ofH : ∀ {σ' : St} {H' : Hp} {q : List (Addr × Obj)} {s2 : Shared}, Inv (XH X (X.pn ++ pins) e oe) q σ' H' s2 → Inv X pins σ' H' s2 := fun {σ' H' q s2} Jx =>
    ⟨⟨Jx.ok.mod, Jx.ok.kind, Jx.ok.glob, Jx.ok.blt, Jx.ok.above, Jx.ok.inj, Jx.ok.has, Jx.ok.cab, J5.ok.hd, Jx.ok.frames, Jx.ok.stk, Jx.ok.exf, Jx.ok.bs, Jx.ok.bsz, Jx.ok.noex, Jx.ok.exfs, Jx.ok.funs, Jx.ok.frf⟩, Jx.os, Jx.bare, Jx.base, Jx.loc, Jx.cell, Jx.free, Jx.freeC, fun p hp => Jx.pin p (List.mem_append_left _ (List.mem_cons_of_mem _ hp)), Jx.hok, Jx.len⟩
  have J6 := toH J5 c.he
  refine wpAny_handleBy_cons (codeAny_handlers_test (ld_glob (X := XH X (X.pn ++ pins) e oe) J6 hg hm ?_ hdb)) (by intro q; cases q)
  have cl := J5.kIn _ _ lk
  have cl' := J5.kIn _ _ lk'
  have sb : subIn X.K Dc (.ref C) = (Value.ref Dc :: bm').contains (.ref C) := by unfold subIn; rw [lk']
  refine matches_own cl (ends_above ev).be cl' c.he c.hc ?_
  unfold hCons at h
  rw [sb] at h
  cases hb : (Value.ref Dc :: bm').contains (.ref C) with
  | false =>
    rw [hb, if_neg (by decide)] at h
    rw [if_neg (by decide)]
    exact hr pins s σ H D m e T Dc dx oe c XD h
  | true =>
    rw [hb, if_pos rfl] at h
    rw [if_pos rfl]
    refine codeAny_handlers_suite_as ?_
    refine fl_none (s := s) c.fl fun h7 f7 kk7 => ?_
    have J7 := stepK (s := s) hnew hst J5 kk7 (fun b hb => nomatch hb) fun b hb => by rw [List.mem_singleton.mp hb]; exact ⟨c.nT, c.mT⟩
    have he7 : h7.get? e = some oe := kk7.out e oe (fun z => c.fl.ne (List.mem_singleton.mp z).symm) (fun z => nomatch z) c.he
    have J8 := toH J7 he7
    refine store_ok (X := XH X (X.pn ++ pins) e oe) J8 hN hi (.inl hl) (v := .ref e) rfl (fun s9 J9 => ?_) (.inr hl)
    refine wpAny_mono (hh (X.pn ++ pins) e oe [] s9 _ H _ J9 h) (fun f s10 z => ?_) fun _ _ z => z.elim
    show wpAny _ X.A (do bindName X.env n .none; unbindBehindTheSuite X.env n hpos) (fun _ s₃ => SP X pins D f s₃) X.xe s10
    cases f with
    | next => obtain ⟨σ', H', Jz, y⟩ := z; exact name_gone (ofH Jz) hN hi hl fun s11 J11 => ⟨_, H', J11, y⟩
    | brk => obtain ⟨σ', H', Jz, y⟩ := z; exact name_gone (ofH Jz) hN hi hl fun s11 J11 => ⟨_, H', J11, y⟩
    | cont => obtain ⟨σ', H', Jz, y⟩ := z; exact name_gone (ofH Jz) hN hi hl fun s11 J11 => ⟨_, H', J11, y⟩
    | ret u => obtain ⟨v, σ', H', Jz, r, y⟩ := z; exact name_gone (ofH Jz) hN hi hl fun s11 J11 => ⟨v, _, H', J11, r, y⟩

/-- .. the handler knows that the exception has no context -/
def tTryC (K : PySem.W.Frag) (tb : XK → St → TS) (T : HT) : TS := fun D σ H => ∃ EX : XK, tb EX σ D σ H ∧ ∀ (Dc : Addr) (dx : Addr) (H1 : Hp), EX (.ref Dc) (some dx) H1 → XOb K Dc ∧ ∀ (e : Addr) (oe : Obj) (vs : Array Value), oe.cls = .ref Dc → oe.dict = some dx → oe.data = .fields vs → vs[2]? = some .none → T Dc e oe D σ H1
theorem ps_tryC {X : Cx} {pos : Pos} {body : List Stmt} {h0 : ExceptHandler} {hs : List ExceptHandler} {tb : XK → St → TS} {T : HT}
    (hb : ∀ pn EX σ, PSs (XBS X pn EX σ) body (tb EX σ)) (hh : PH X (h0 :: hs) T) (hst : X.stack = X.env :: X.outer) (hfr : X.env.frame = some X.env.locals) :
    PS X (.Try body (h0 :: hs) [] [] pos) (tTryC X.K tb T) := by
  intro pins s σ H D I h
  obtain ⟨EX, h1, h2⟩ := h
  refine wpAny_Try_except (wpAny_mono (hb (X.pn ++ pins) EX σ [] s σ H D (to_pins I |>.wish _) h1) (fun f s1 q => ?_) fun ev s1 q => ?_)
  · have q' : SP X pins D f s1 := by
      cases f with
      | next => obtain ⟨σ', H', J, z⟩ := q; exact ⟨σ', H', of_pins J.unwish, z⟩
      | brk => obtain ⟨σ', H', J, z⟩ := q; exact ⟨σ', H', of_pins J.unwish, z⟩
      | cont => obtain ⟨σ', H', J, z⟩ := q; exact ⟨σ', H', of_pins J.unwish, z⟩
      | ret u => obtain ⟨v, σ', H', J, r, z⟩ := q; exact ⟨v, σ', H', of_pins J.unwish, r, z⟩
    cases f with
    | next => exact wpAny_execs_nil q'
    | brk => exact q'
    | cont => exact q'
    | ret u => exact q'
  · obtain ⟨m, e, T', C', dx, H1, rfl, J, ⟨m0, mL, mC, mP⟩, me, mT, fl, ne, nT, hE⟩ := q
    obtain ⟨XD, h3⟩ := h2 C' dx H1 hE
    have J : Inv X pins σ H1 s1 := of_pins J
    have hnew : ∀ b, m ≤ b → X.s_0.heap.objs.size ≤ b ∧ b ≠ X.env.locals ∧ (∀ y c, X.env.cells.lookup y = some c → c ≠ b) ∧ ∀ p ∈ X.pn ++ pins, p.1 ≠ b := fun b hb =>
      ⟨Nat.le_trans m0 hb, (Nat.ne_of_lt (Nat.lt_of_lt_of_le mL hb)).symm, fun y c q => Nat.ne_of_lt (Nat.lt_of_lt_of_le (mC y c q) hb), fun p hp => Nat.ne_of_lt (Nat.lt_of_lt_of_le (mP p hp) hb)⟩
    have hfrm : X.A.frames = some (X.env :: X.outer) := by rw [J.ok.frames, hst]
    have hff : s1.heap.FunFrames X.base (X.env :: X.outer) := by have := J.stack; rw [hst] at this; exact this
    refine note_next hfrm hff hfr fl fun h4 T4 f4 sz4 kk4 => ?_
    have J4 := stepK (s := s1) hnew hst J kk4 (fun b hb => hb) fun b hb => by
      rcases List.mem_cons.mp hb with z | z
      · rw [z]; exact ⟨ne, me⟩
      · rw [List.mem_singleton.mp z]; exact ⟨nT, mT⟩
    have mT4 : m ≤ T4 := by
      obtain ⟨⟨oe, _, _, _, he, _⟩, _⟩ := fl
      exact Nat.le_trans me (Nat.le_trans (Nat.le_of_lt (Heap.lt_size he)) sz4)
    have nT4 : H1 T4 = none := J.hok.fresh sz4
    refine fl_none (s := { s1 with heap := h4 }) f4 fun h5 f5 kk5 => ?_
    have J5 := stepK (s := { s1 with heap := h4 }) hnew hst J4 kk5 (fun b hb => nomatch hb) fun b hb => by rw [List.mem_singleton.mp hb]; exact ⟨nT4, mT4⟩
    obtain ⟨⟨oe, vs, oT, ts, he, hec, hed, hef, _, _, _, _, hcx⟩, _⟩ := id f5
    exact hh pins { s1 with heap := h5 } σ H1 D m e T4 C' dx oe ⟨J5, ⟨m0, mL, mC, mP⟩, me, mT4, f5, ne, nT4, he, hec, hed, vs, hef⟩ XD (h3 e oe vs hec hed hef hcx)
end Xc

set_option Elab.async false
set_option maxRecDepth 100000
set_option linter.all false
namespace L2
open PySem PySem.Spec PyProof.Rows
section
variable {prog : Program} {w : World} {A : Around} {E : Value → Shared → Prop}
end
section
variable {X : Cx}
end
end L2
namespace Xc
open PySem PySem.Spec L2
section
variable {X : Cx} {CX : CXT} {k : Nat} {f C : Addr} {fd : FuncData} {ps ks : List Str} {sp : Sp} {E : XK} {x : Str} {p pos : Pos} {kws : List Keyword} {tk : TA} {σ0 : St}
variable {g : List Value → List Value → List Value} {gV : List V → List V → List V}
end
end Xc

set_option Elab.async false
set_option maxRecDepth 100000
set_option linter.all false
namespace Xc
open PySem PySem.Spec L2
section
variable {prog : Program} {w : World} {A : Around} {E : Value → Shared → Prop} {s : Shared} {K : PySem.W.Frag} {C fI x : Addr} {ox od : Obj}
theorem exc_class {Q : Option Value → Shared → Prop} (KX : K.In s.heap) (XC : XCls K C fI) (ha : PySem.W.findIn K (.ref C) "__class__" = some (some (.builtin "object.__class__")))
    (hn : PySem.W.specialIn K (.builtin "object.__class__") "__get__" = some (some (.builtin "getset_descriptor.__get__"))) (htk : PySem.W.takesIn K (.builtin "object.__class__") = some true) (hm : PySem.W.mroIn K C (.type "object") = some true)
    (I : PySem.W.InstAt s.heap x ox C (some od)) (h : Q (some (.ref C)) { s with toks := s.toks + 1 }) : wpAny (model prog w) A (getAttr? (.ref x) "__class__") Q E s := by
  obtain ⟨nm, qq, N, bs, bm', sn, sub, ab, col, dd, k0, k1, k2, k3, k5, lk, ev⟩ := XC.ob.ob
  have hcl : PySem.W.clsIn K C = some { name := nm, bases := bs, mro := Value.ref C :: bm', ns := N, qualname := qq, hasDict := true, slotNames := sn, subclasses := sub, abstract := ab, collection := col } := by
    unfold PySem.W.clsIn; rw [lk]
  have ff : PySem.W.findObj K C (some od) "__class__" = some (.bind (.builtin "getset_descriptor.__get__") (.builtin "object.__class__")) := PySem.W.findObj_data (by rw [hcl]; rfl) ha hn htk
  obtain ⟨bm, lm, ev', ls⟩ := looks_mro (M := model prog w) KX XC.ob
  have u := ends_above ev'
  have isub : PySem.W.Looks (model prog w) s.heap (isInstance (.ref x) (.type "BaseException")) true := I.type.andThen (has_ref (C := C) _ u.be ▸ ls (.type "BaseException"))
  have L0 := I.type (M := model prog w)
  have L1 := PySem.W.looks_findIn (M := model prog w) KX XC.ga
  have L2 := PySem.W.looks_findIn (M := model prog w) KX XC.gh
  have L3 := PySem.W.looks_find (M := model prog w) KX I ff
  have hb := PySem.F.excAttr_ValueError.ga.bind (.ref x)
  obtain ⟨hh, g, d, t, os⟩ := s
  unfold getAttr? getAttrBy? getAttrBy
  refine wpAny_bind (wpAny_mkText (wpAny_bind (wpAny_attempt (wpAny_holding (wpAny_bind (L0.at (wpAny_bind (L1.at ?_))))))))
  show wpAny _ _ (getAttrByItsOwn _ _ _ _ _ _) _ _ _
  unfold getAttrByItsOwn
  refine wpAny_bind (show wpAny _ _ (typeLookup (.ref C) "__getattr__") _ _ _ from L2.at ?_)
  refine wpAny_bind (wpAny_attempt (wpAny_holding ?_))
  have ce : callGetattribute (.ref x) (.str "__class__" t) (.builtin "BaseException.__getattribute__") false = boundAndCalled (.builtin "BaseException.__getattribute__") (.ref x) (.str "__class__" t) := rfl
  rw [ce]
  unfold boundAndCalled
  rw [hb]
  refine wpAny_bind (wpAny_pure (wpAny_call ?_))
  refine codeAny_call_builtin PySem.F.excAttr_ValueError.ga.plain PySem.F.entry_bexc_ga (@PySem.W.check_slot (model prog w) _ _ ⟨hh, g, d, t + 1, os⟩ "BaseException.__getattribute__" "BaseException" "__getattribute__" (.ref x) [.str "__class__" t] [] _ (by decide +kernel) (by decide +kernel) isub (PySem.F.args_bexc_ga _ _) ?_)
  unfold Builtin.«object.__getattribute__»
  refine wpAny_bind (wpAny_pure (wpAny_bind (wpAny_pure (wpAny_bind (L0.at (wpAny_bind (L3.at ?_)))))))
  show wpAny _ _ (holding [Value.builtin "object.__class__"] (call (.builtin "getset_descriptor.__get__") [.builtin "object.__class__", .ref x, .ref C]) >>= ret) _ _ _
  refine wpAny_bind (wpAny_holding (wpAny_call (PySem.W.class_get (s := ⟨hh, g, d, t + 1, os⟩) (ox := ox) (od := some od) KX I hm ?_)))
  refine wpAny_pure ?_
  show wpAny _ _ (handedOut (.ref C)) _ _ _
  rw [PySem.W.handedOut_of (show PySem.W.handedIn (.ref C) = true from rfl)]
  exact wpAny_pure (wpAny_pure h)
/-- what isinstance wants of an own exception -/
structure XIs (K : PySem.W.Frag) (C fI : Addr) : Prop where
  xc : XCls K C fI
  ha : PySem.W.findIn K (.ref C) "__class__" = some (some (.builtin "object.__class__"))
  hn : PySem.W.specialIn K (.builtin "object.__class__") "__get__" = some (some (.builtin "getset_descriptor.__get__"))
  htk : PySem.W.takesIn K (.builtin "object.__class__") = some true
  hm : PySem.W.mroIn K C (.type "object") = some true
theorem kitx_exc (Z : XIs K C fI) : PySem.W.KitX K (.ref x) (.ref C) (fun h => PySem.W.InstAt h x ox C (some od)) where
  ty := fun _ _ _ I => I.type
  it := fun _ _ KX _ => by
    obtain ⟨nm, qq, N, bs, bm', sn, sub, ab, col, dd, k0, k1, k2, k3, k5, lk, ev⟩ := Z.xc.ob.ob
    intro A' Q' E' s' k q
    unfold isType loadHead
    exact wpAny_bind (wpAny_loadPart (k _ _ (KX _ _ lk)) (wpAny_pure q))
  ne := fun h tp dd its n sl KX htp => by
    obtain ⟨nm, qq, N, bs, bm', sn, sub, ab, col, dd, k0, k1, k2, k3, k5, lk, ev⟩ := Z.xc.ob.ob
    refine Bool.eq_false_iff.mpr fun q => ?_
    have e : C = tp := Value.ref.inj (beq_iff_eq.mp q)
    subst e
    have z := (KX _ _ lk).symm.trans htp
    have z' := congrArg (Option.map Obj.cls) z
    simp [excClassObj] at z'
  ca := fun KX I k => exc_class KX Z.xc Z.ha Z.hn Z.htk Z.hm I k
end
end Xc

set_option Elab.async false
set_option maxRecDepth 100000
set_option linter.all false
namespace Xc
open PySem PySem.Spec L2
end Xc

set_option Elab.async false
set_option maxRecDepth 100000
set_option linter.all false
namespace Xc
open PySem PySem.Spec L2
section
variable {X : Cx} {CX : CXT} {k : Nat} {f C : Addr} {fd : FuncData} {ps : List Str} {sp : Sp} {dvs : List V} {ds : List Value} {E : XK} {x m : Str} {p pos apos : Pos} {e o : Expr} {es : List Expr} {ta : TE} {t : TA} {σ0 : St}
theorem run_fnS {pins : List (Addr × Obj)} {H : Hp} {s : Shared} {Q : VK} {us : List Value} {vs : List V} (F : FnOk X.prog X.w X.K X.mg X.base CX k f fd ps sp) (hr : Room k X.A) (hb : Binds X.K fd ps ds) (hd : Vals dvs ds) (hx : PassesAt CX X E σ0)
    (I : Inv X pins σ0 H s) (r : Vals vs us) (h : sp (vs ++ dvs) H Q E) : wpAny (model X.prog X.w) X.A (call (.ref f) us) (EP X pins σ0 Q) X.xe s := by
  have r2 : Vals (vs ++ dvs) (us ++ ds) := r.append hd
  have hl : (us ++ ds).length = ps.length := by rw [← r2.length]; exact F.len _ _ _ _ h
  refine wpAny_call (codeAny_mono (F.run X.A X.stack s H ⟨us, []⟩ (us ++ ds) (vs ++ dvs) Q E hr I.env0 (hb s us I.kIn hl) r2 h) fun r s' hq => ?_)
  cases r with
  | error e => exact hx pins H s e s' I hq
  | ok fl =>
    cases fl with
    | ret u => exact I.after hq
    | next => exact False.elim hq
    | brk => exact False.elim hq
    | cont => exact False.elim hq
end
end Xc

set_option Elab.async false
set_option maxRecDepth 100000
set_option linter.all false
set_option maxHeartbeats 2000000
/-! What ends a walk while an exception of the text is being handled. -/
namespace Hn
open PySem PySem.Spec L2 Xc
section
variable {prog : Program} {w : World} {A : Around} {E : Value → Shared → Prop} {s : Shared}
open PyProof.Rows in
open PyProof.Rows in
end
end Hn

set_option Elab.async false
set_option maxRecDepth 100000
set_option linter.all false
set_option maxHeartbeats 4000000
/-! A def that is called while an exception of the text is being handled: walks over lists, tuples unpacked, comprehensions. -/
namespace Hn
open PySem PySem.Spec L2 Xc
open PyProof.Rows hiding St
/-- the exception that is handled lay there at the entry -/
structure HXo (X : Cx) (h : Addr) (oh : Obj) : Prop where
  hh : X.A.handled = some (.ref h)
  nh : X.H_0 h = none
  nf : h ∉ X.fs
  nx : h ∉ X.ex
  at_ : X.s_0.heap.get? h = some oh
  ow : ∃ vs, oh.data = .fields vs ∧ vs[2]? = some .none
section
variable {X : Cx} {pins : List (Addr × Obj)} {σ : St} {H : Hp} {s : Shared} {h : Addr} {oh : Obj}
theorem HXo.get (x : HXo X h oh) (I : Inv X pins σ H s) : s.heap.get? h = some oh := I.base.keep h oh x.at_ x.nh x.nf x.nx
end
section
variable {X : Cx} {tg : Expr} {pos : Pos}
end
section
variable {X : Cx}
end
end Hn

set_option Elab.async false
set_option maxRecDepth 100000
set_option linter.all false
set_option maxHeartbeats 4000000
namespace Hn
open PySem PySem.Spec L2 Xc
open PyProof.Rows hiding St
/-- the context of the body of a def that is called while an exception is handled -/
abbrev cxH (P : Program) (w : World) (K : PySem.W.Frag) (mg : Str → Option Value) (base : Heap) (N : List Str) (qual : Str) (scope : Scope) (f : Addr) (cd : Value) (A : Around) (outer : List Env) (s : Shared) (H : Hp) : Cx :=
  { cxOf CX0 P w K mg base N qual scope f cd A outer s H E0 with calm := false, xe := fun _ _ => False }
structure RoomH (k : Nat) (A : Around) : Prop where
  dp : A.depth + 3 * k + 5 < recursionLimit
  un : A.units + 16 * k + 200 < cLine
theorem RoomH.deeper {k : Nat} {A : Around} (r : RoomH (k + 1) A) (env : Env) : RoomH k (A.deeper env) :=
  ⟨by have := r.dp; show A.depth + 1 + 3 * k + 5 < _; omega, by have := r.un; show A.units + 3 + 16 * k + 200 < _; omega⟩
/-- a def that does its work while an exception is handled; nothing comes out of it but its value -/
structure FnOkH (P : Program) (w : World) (K : PySem.W.Frag) (mg : Str → Option Value) (base : Heap) (k : Nat) (f : Addr) (fd : FuncData) (ps : List Str) (sp : Addr → Obj → Sp) : Prop where
  len : ∀ h oh vs H Q E, sp h oh vs H Q E → vs.length = ps.length
  run : ∀ (A : Around) (outer : List Env) (s : Shared) (H : Hp) (args : Args) (us : List Value) (vs : List V) (Q : VK) (h : Addr) (oh : Obj), RoomH k A → A.handled = some (.ref h) → s.heap.get? h = some oh → (∃ ws, oh.data = .fields ws ∧ ws[2]? = some .none) → H h = none → h ∉ frs outer →
    Env0 P w K mg base A outer s H → BindsTo s fd args (ps.zip us) → Vals vs us → sp h oh vs H Q E0 → codeAny (model P w) A (.call (.ref f) args) (CR CX0 outer P w H s Q E0) s
theorem inv_startH {P : Program} {w : World} {K : PySem.W.Frag} {mg : Str → Option Value} {base : Heap} {N ps : List Str} {qual : Str} {scope : Scope} {f : Addr} {cd : Value} {A : Around} {outer : List Env} {s s1 : Shared} {H : Hp} {us : List Value} {vs : List V}
    (S : FnScope N ps scope) (e0 : Env0 P w K mg base A outer s H) (hl : vs.length = ps.length) (r : Vals vs us)
    (x : InCallC s s.heap.objs.size (bindL (envOfC qual scope s.heap.objs.size f cd).kindOf (ps.zip us) fun _ => none) (cellsFrom (s.heap.objs.size + 1) scope.names []) (bindC (envOfC qual scope s.heap.objs.size f cd).kindOf (ps.zip us) fun _ => none) s1) :
    Inv (cxH P w K mg base N qual scope f cd A outer s H) [] (start N vs) H s1 := by
  have hpl : ps.length ≤ N.length := by have := congrArg List.length S.pre; rw [List.length_take] at this; omega
  obtain ⟨h1, tk, rfl, hk⟩ := x.done
  have noA : ∀ b : Addr, b ∉ (cxH P w K mg base N qual scope f cd A outer s H).ex := fun b z => absurd (show b ∈ ([] : List Addr) from z) (by simp)
  refine ⟨⟨e0.mod, S.kind, rfl, rfl, Nat.le_refl _, fun y z c h1 h2 => ?_, fun y hy => ?_, fun y c _ h => ?_, (fun z => nomatch z), Around.frames_deeper e0.frames, .inr ⟨rfl, rfl⟩, fun b z => absurd z (noA b), e0.bs, e0.bsz, fun b _ _ => noA b, fun b z => absurd z (noA b), e0.funs, e0.frf⟩,
    rfl, e0.bare, Un.kept hk, ⟨_, x.toInCall.ns, fun i y v h1 h2 h3 => ?_⟩, fun y c h => ⟨_, x.cell y c h⟩, e0.hok.fresh (Nat.le_refl _), fun y c h => ?_, fun p hp => absurd (show p ∈ ([] : List (Addr × Obj)) from hp) (by simp), e0.hok.kept hk, ?_⟩
  · exact name_of_addr x.apart (PySem.mem_of_lookup h1) (PySem.mem_of_lookup h2)
  · have hy : scope.names.lookup y = some .cell ∨ scope.names.lookup y = some .free := hy
    rcases hy with hy | hy
    · exact cell_has hy
    · exact absurd rfl (S.nofree _ (PySem.mem_of_lookup hy))
  · exact Nat.le_of_lt (x.above y c (PySem.mem_of_lookup h))
  · have hi : i < vs.length := by
      unfold L2.start at h2
      by_cases hi : i < vs.length
      · exact hi
      · rw [List.getElem?_append_right (by simpa using hi)] at h2
        rw [List.getElem?_replicate] at h2
        split at h2 <;> cases h2
    have ha : vs[i]? = some v := by
      unfold L2.start at h2
      rw [List.getElem?_append_left (by simpa using hi), List.getElem?_map] at h2
      cases e : vs[i]? with
      | none => rw [e] at h2; cases h2
      | some a => rw [e] at h2; cases h2; rfl
    obtain ⟨u, hu, rv⟩ := r.get ha
    have hp : ps[i]? = some y := by
      rw [← S.pre, List.getElem?_take_of_lt (by omega)]; exact h1
    have ndP : ps.Nodup := by rw [← S.pre]; exact S.nd.sublist (List.take_sublist _ _)
    refine ⟨u, rv, ?_⟩
    rcases S.par y (List.mem_of_getElem? hp) with k | k
    · exact .inl ⟨k, bindL_get ndP hp hu k⟩
    · obtain ⟨c, e⟩ := cell_has (n := s.heap.objs.size + 1) k
      refine .inr ⟨.inl k, c, e, ?_⟩
      have q := x.cell y c e
      rw [bindC_get ndP hp hu (by show scope.names.lookup y ≠ _; rw [k]; decide)] at q
      exact q
  · exact e0.hok.fresh (Nat.le_of_lt (x.above y c (PySem.mem_of_lookup h)))
  · unfold L2.start
    show _ = N.length
    rw [List.length_append, List.length_map, List.length_replicate]
    omega

theorem fn_ofH {P : Program} {w : World} {K : PySem.W.Frag} {mg : Str → Option Value} {base : Heap} {k : Nat} {f : Addr} {name qual : Str} {params : Arguments} {body : List Stmt} {scope : Scope} {dV kV doc pm cdv ct oc : Value} {an od : Option Addr}
    {osl : Array (Option Value)} {N ps : List Str} {sp : Addr → Obj → Sp} (lk : K.lookup f = some ⟨oc, od, .func (PySem.W.fnOf name qual params body scope dV kV doc pm an cdv ct), osl⟩) (hcd : PySem.W.codeIn K cdv qual = true) (S : FnScope N ps scope)
    (len : ∀ h oh vs H Q E, sp h oh vs H Q E → vs.length = ps.length)
    (hbody : ∀ (A : Around) (outer : List Env) (s : Shared) (H : Hp) (vs : List V) (Q : VK) (h : Addr) (oh : Obj), RoomH k (A.deeper (envOfC qual scope s.heap.objs.size f cdv)) → HXo (cxH P w K mg base N qual scope f cdv A outer s H) h oh → sp h oh vs H Q E0 →
      ∃ t, PSs (cxH P w K mg base N qual scope f cdv A outer s H) body t ∧ t { nx := fun _ H' => Q .non H', rt := Q } (start N vs) H) :
    FnOkH P w K mg base (k + 1) f (PySem.W.fnOf name qual params body scope dV kV doc pm an cdv ct) ps sp := by
  refine ⟨len, fun A outer s H args us vs Q h oh hr hhd hget how hnh hnf e0 hb r hsp => ?_⟩
  have hl := len _ _ _ _ _ _ hsp
  have KX : K.In s.heap := e0.mod.kin.keeps fun b o e => (e0.bs b o e).1
  have lim : s.heap.NoLimit := e0.mod.nolimit.keeps fun b o e => (e0.bs b o e).1
  have hkind : ∀ y ∈ ps.zip us, scope.names.lookup y.1 = some .local ∨ (scope.names.lookup y.1 = some .cell ∧ ((cellsFrom (s.heap.objs.size + 1) scope.names []).lookup y.1).isSome = true) := fun ⟨n, v⟩ hy => by
    rcases S.par n (List.of_mem_zip hy).1 with q | q
    · exact .inl q
    · exact .inr ⟨q, PySem.W.cellsFrom_some _ _ _ (.inl q)⟩
  refine codeAny_call_function (show A.depth < recursionLimit from by have := hr.dp; omega) (KX _ _ lk) rfl S.co S.gen rfl (PySem.W.codeRec_of KX hcd) (hb _ _ _ _ ?_)
  refine wpAny_newFunctionEnv_cells S.kind hkind fun env he s1 x => ?_
  subst he
  refine ⟨lim.keeps x.toInCall.keep, codeAny_func ?_⟩
  obtain ⟨t, ht, hq⟩ := hbody A outer s H vs Q h oh (hr.deeper _) ⟨hhd, hnh, hnf, (fun z => absurd (show h ∈ ([] : List Addr) from z) (by simp)), hget, how⟩ hsp
  have I : Inv (cxH P w K mg base N qual scope f cdv A outer s H) [] (start N vs) H s1 := inv_startH S e0 hl r x
  refine wpAny_mono (ht [] s1 (start N vs) H _ I hq) (fun fl s' hs => ?_) fun e s' hs => False.elim hs
  have fin : ∀ {σ' : St} {H' : Hp} {v : V} {u : Value}, Inv (cxH P w K mg base N qual scope f cdv A outer s H) [] σ' H' s' → RelV v u → Q v H' → CE outer P w H s Q u s' :=
    fun {σ' H' v u} J rv q => ⟨v, H', J.os, J.bare, J.base, J.hok, rv, q⟩
  cases fl with
  | ret u =>
    obtain ⟨v, σ', H', J, rv, q⟩ := hs
    exact fin J rv q
  | next =>
    obtain ⟨σ', H', J, q⟩ := hs
    exact fin (v := V.non) (u := Value.none) J rfl q
  | brk =>
    obtain ⟨_, _, _, q⟩ := hs
    exact False.elim q
  | cont =>
    obtain ⟨_, _, _, q⟩ := hs
    exact False.elim q
section
variable {P : Program} {w : World} {K : PySem.W.Frag} {mg : Str → Option Value} {base : Heap}
theorem okH {x qual : Str} {st : Stmt} {f : Addr} {fd : FuncData} {N ps : List Str} {k : Nat} {sp : Addr → Obj → Sp} (F : Fun K x qual st f fd) (S : FnScope N ps (defScope st)) (len : ∀ h oh vs H Q E, sp h oh vs H Q E → vs.length = ps.length)
    (hbody : ∀ (cdv : Value) (A : Around) (outer : List Env) (s : Shared) (H : Hp) (vs : List V) (Q : VK) (h : Addr) (oh : Obj), RoomH k (A.deeper (envOfC qual (defScope st) s.heap.objs.size f cdv)) → HXo (cxH P w K mg base N qual (defScope st) f cdv A outer s H) h oh → sp h oh vs H Q E0 →
      ∃ t, PSs (cxH P w K mg base N qual (defScope st) f cdv A outer s H) (defBody st) t ∧ t { nx := fun _ H' => Q .non H', rt := Q } (start N vs) H) : FnOkH P w K mg base (k + 1) f fd ps sp := by
  obtain ⟨oc, od, kV, doc, pm, an, cdv, ct, osl, rfl, lk, hcd⟩ := F.ex
  exact fn_ofH lk hcd S len fun A outer s H vs Q h oh hr hx hsp => hbody cdv A outer s H vs Q h oh hr hx hsp
end
section
variable {X : Cx} {k : Nat} {f : Addr} {fd : FuncData} {ps : List Str} {x : Str} {p pos : Pos} {a : Expr} {es : List Expr} {t : TA} {pn : List (Addr × Obj)} {e : Addr} {oe : Obj} {sp : Addr → Obj → Sp}
/-- f(a, ..) in a handler's suite -/
def tCallH (sp : Addr → Obj → Sp) (e : Addr) (oe : Obj) (t : TA) : TE := fun σ H Q => t σ H fun vs H1 => (∃ ws, oe.data = .fields ws ∧ ws[2]? = some .none) ∧ sp e oe vs H1 Q E0
theorem pe_callH (F : FnOkH X.prog X.w X.K X.mg X.base k f fd ps sp) (hr : RoomH k X.A) (hg : Gl (XH X pn e oe) x) (hm : X.mg x = some (.ref f)) (hk : PySem.W.keepIn X.K (.ref f) = true) (hb : Binds X.K fd ps []) (hst : X.stack = X.env :: X.outer) (hfr : X.env.frame = some X.env.locals)
    (ha : PA (XH X pn e oe) (a :: es) t) (hdb : (x == ("__debug__" : Str)) = false := by decide) (he : starEach (a :: es) X.env = (false, eval a X.env) :: starEach es X.env := by rfl) (hpl : (backTo pos (starEach es X.env)).any (·.1) = false := by rfl) :
    PE (XH X pn e oe) (.Call (.Name x p) (a :: es) [] pos) (tCallH sp e oe t) := by
  intro pins s σ H Q I h
  refine wpAny_Call_Name_kw (ld_glob I hg hm ?_ hdb)
  refine PySem.W.callWith_K (h₀ := X.base) I.ok.mod.kin hk (thn (ha pos pins s σ H _ I h) fun us s1 ⟨vs, H1, I1, r, how, q⟩ => ⟨I1.kIn, ?_⟩) he hpl
  obtain ⟨g1, g2, g3, g4, _⟩ := I1.pin (e, oe) (List.mem_append_left _ List.mem_cons_self)
  have hl : (us ++ []).length = ps.length := by rw [List.append_nil, ← r.length]; exact F.len _ _ _ _ _ _ q
  have hB := hb s1 us I1.kIn hl
  rw [List.append_nil] at hB
  have nst : e ∉ frs (XH X pn e oe).stack := fun z => by
    have z : e ∈ frs X.stack := z
    rw [hst] at z
    have z' : e ∈ X.env.locals :: X.fs := by
      have : frs (X.env :: X.outer) = X.env.locals :: X.fs := by
        show (X.env :: X.outer).filterMap (·.frame) = _
        rw [List.filterMap_cons, hfr]; rfl
      rw [← this]; exact z
    rcases List.mem_cons.mp z' with z' | z'
    · exact g3 z'
    · exact g4 z'
  refine wpAny_call (codeAny_mono (F.run (X.A.mark (some (.ref e))) X.stack s1 H1 ⟨us, []⟩ us vs Q e oe ⟨hr.dp, hr.un⟩ rfl g1 how g2 nst I1.env0 hB r q) fun r' s' hq => ?_)
  cases r' with
  | error e' => exact False.elim hq
  | ok fl =>
    cases fl with
    | ret u => exact I1.after hq
    | next => exact False.elim hq
    | brk => exact False.elim hq
    | cont => exact False.elim hq
end
/-- isinstance(e, c) of the exception that is handled, in a def that was called meanwhile -/
theorem call_isiH {X : Cx} {h : Addr} {oh : Obj} {K : PySem.W.Frag} (hK : X.K = K) (hx : HXo X h oh) : CallR X (.builtin "isinstance") (fun xs H Q => ∃ C fI dx fs c u b, xs = [.ref h, c] ∧ ((∃ T, c = .ty T ∧ u = .type T) ∨ ∃ D, c = .ref D ∧ u = .ref D) ∧ oh.cls = .ref C ∧ oh.dict = some dx ∧ XIs K C fI ∧ H dx = some (.xd fs) ∧ PySem.W.kitOne K (.ref C) u = some b ∧ Q (.bl b) H) := by
  subst hK
  intro pins s σ H xs us Q I r q0
  obtain ⟨C, fI, dx, fs, c, u, b, rfl, rc, hc, hd, Z, hxd, hk, q⟩ := q0
  obtain ⟨v1, v2, rfl, r1, r2⟩ := vals2 r
  cases r1
  obtain ⟨ws, hf, _⟩ := hx.ow
  obtain ⟨mA, ns, rr⟩ := (show ObjOk _ _ _ _ _ (.xd fs) from I.hok dx _ hxd)
  obtain ⟨od, ho, hl⟩ := L2.lookIn_ns ns
  have IA : PySem.W.InstAt s.heap h oh C (some od) := ⟨hx.get I, hc, by unfold PySem.W.notCls; rw [hf], by rw [hd]; exact ho⟩
  have eu : u = v2 := by
    rcases rc with ⟨T, rfl, rfl⟩ | ⟨D, rfl, rfl⟩
    · cases r2; rfl
    · cases r2; rfl
  subst eu
  exact PySem.W.kia_one (kitx_exc (od := od) Z) I.kIn IA hk (by intro z; cases z) fun tk => ⟨.bl b, H, I.tok _, rfl, q⟩
end Hn

set_option Elab.async false
set_option maxRecDepth 100000
set_option linter.all false
set_option maxHeartbeats 8000000
namespace U
open PySem L2 TL Rl Tb Xc
theorem okE {P : Program} {w : World} {K : PySem.W.Frag} {mg : Str → Option Value} {base : Heap} {x qual : Str} {st : Stmt} {f : Addr} {fd : FuncData} {N ps : List Str} {k : Nat} {sp : Sp} (F : Fun K x qual st f fd) (S : FnScope N ps (defScope st)) (len : ∀ vs H Q E, sp vs H Q E → vs.length = ps.length)
    (hbody : ∀ (cdv : Value) (A : Around) (outer : List Env) (s : Shared) (H : Hp) (vs : List V) (Q : VK) (E : XK), Room k (A.deeper (PyProof.Rows.envOfC qual (defScope st) s.heap.objs.size f cdv)) → sp vs H Q E →
      ∃ t, PSs (cxOf (CXE P w) P w K mg base N qual (defScope st) f cdv A outer s H E) (defBody st) t ∧ t { nx := fun _ H' => Q .non H', rt := Q } (start N vs) H) : FnOk P w K mg base (CXE P w) (k + 1) f fd ps sp := by
  obtain ⟨oc, od, kV, doc, pm, an, cdv, ct, osl, rfl, lk, hcd⟩ := F.ex
  exact fn_of lk hcd S len fun A outer s H vs Q E hr hsp => hbody cdv A outer s H vs Q E hr hsp
/-- read_row of any text -/
def spReadX (Pn Pf CN : Addr) : Sp := fun vs H Q E => ∃ t : Str, vs = [.str t] ∧ t.length ≤ 100000 ∧ TT H Pn Pf ∧
  (rowV t = none → ∀ H' dx, K2 Pn Pf H H' → TT H' Pn Pf → H' dx = none → E (.ref CN) (some dx) (upd H' dx (.xd [("what", .str t)]))) ∧
  ∀ xs p H', rowV t = some xs → K2 Pn Pf H H' → TT H' Pn Pf → H' p = some (.tup xs) → Q (.ref p) H'
section
variable {P : Program} {w : World} {K : PySem.W.Frag} {mg : Str → Option Value} {base : Heap}
theorem scX : FnScope ["self", "what"] ["self", "what"] (defScope sXI) := ⟨rfl, rfl, rfl, by decide +kernel, rfl, by decide +kernel, by decide +kernel⟩
theorem ok_xinit {f : Addr} {fd : FuncData} (F : Fun K "__init__" "DozeError.__init__" sXI f fd) : FnOk P w K mg base CX0 1 f fd ["self", "what"] (spXI K "what") := by
  refine F.ok scX (fun vs H Q E h => ?_) (fun cdv A outer s H vs Q E hr h => ?_)
  · obtain ⟨e, C, fI, tp, v, rfl, _⟩ := h
    rfl
  · obtain ⟨e, C, fI, tp, v, rfl, he, XC, na, q⟩ := h
    refine ⟨_, pss_one (ps_xfld (pv 0) (pv 1) rfl), ?_⟩
    exact ⟨_, rfl, _, rfl, e, C, fI, tp, rfl, he, XC, na, q⟩
theorem scRd : FnScope ["text", "row"] ["text"] (defScope sReadRow) := ⟨rfl, rfl, rfl, by decide +kernel, rfl, by decide +kernel, by decide +kernel⟩
theorem ok_readX {f fP Pn Pf CN fX : Addr} {fd fdP fdX : FuncData} (F : Fun K "read_row" "read_row" sReadRow f fd) (XC : XCls K CN fX) (GX : FnOk P w K mg base CX0 1 fX fdX ["self", "what"] (spXI K "what")) (bX : Binds K fdX ["self", "what"] []) (mgN : mg "NoRow" = some (.ref CN)) (naW : NoAttr K CN "what")
    (GP : FnOk P w K mg base CX0 5 fP fdP ["text"] (spRowOr Pn Pf)) (mgP : mg "row_or_none" = some (.ref fP)) (kpP : PySem.W.keepIn K (.ref fP) = true) (bP : Binds K fdP ["text"] []) : FnOk P w K mg base (CXE P w) 6 f fd ["text"] (spReadX Pn Pf CN) := by
  refine okE F scRd (fun vs H Q E h => ?_) (fun cdv A0 outer s H vs Q E hr h => ?_)
  · obtain ⟨t, rfl, _⟩ := h
    rfl
  · obtain ⟨t, rfl, ht, hT, q1, q2⟩ := h
    have hr2 : Room (1 + 1) _ := hr.mono (by decide)
    refine ⟨_, (pss_cons (ps_set (i := 1) scRd.nd rfl (Or.inl rfl) (pe_call GP hr (by rfl) mgP kpP bP .nil pass0 (pa_cons (pv 0) pa_nil)))
      (pss_cut (ps_if (pt_cmpR op_isN (pv 1) pe_non (nomark _)) (pss_one (ps_raise XC GX bX hr2 (by rfl) mgN naW (pa_cons (pv 0) pa_nil) out_on)) pss_nil)
      (pss_one (ps_ret (pv 1))))), ?_⟩
    refine ⟨_, rfl, t, rfl, ht, hT, fun v H' k t' hv => ?_⟩
    refine ⟨fun σ2 H2 => H2 = H' ∧ ∃ p xs, σ2 = [some (.str t), some (.ref p)] ∧ rowV t = some xs ∧ H' p = some (.tup xs), ?_, ?_⟩
    · rcases hv with ⟨e, rfl⟩ | ⟨p, xs, e, rfl, gp⟩
      · exact ⟨_, rfl, rfl, _, rfl, iteT' rfl ⟨_, rfl, _, rfl, fun dx n' => q1 e H' dx k t' n'⟩⟩
      · exact ⟨_, rfl, rfl, _, rfl, iteF' rfl ⟨rfl, p, xs, rfl, e, gp⟩⟩
    rintro _ _ ⟨rfl, p, xs, rfl, e, gp⟩
    exact ⟨_, rfl, q2 xs p _ e k t' gp⟩
end
end U

set_option Elab.async false
set_option maxRecDepth 100000
set_option linter.all false
set_option maxHeartbeats 8000000
namespace U
open PySem L2 TL Rl Tb Xc Hn
/-- the exceptions of the program -/
structure KR (K : PySem.W.Frag) (mg : Str → Option Value) (cs : Nat → Addr) (CD fX : Addr) : Prop where
  m0 : mg "NoRoom" = some (.ref (cs 0))
  m1 : mg "Asleep" = some (.ref (cs 1))
  m2 : mg "Awake" = some (.ref (cs 2))
  m3 : mg "BadCount" = some (.ref (cs 3))
  m4 : mg "SameRoom" = some (.ref (cs 4))
  m5 : mg "TwoNames" = some (.ref (cs 5))
  m6 : mg "NoKey" = some (.ref (cs 6))
  m7 : mg "NotHolder" = some (.ref (cs 7))
  m8 : mg "Ring" = some (.ref (cs 8))
  m9 : mg "BadPlan" = some (.ref (cs 9))
  m10 : mg "NoMove" = some (.ref (cs 10))
  m11 : mg "TooMany" = some (.ref (cs 11))
  m12 : mg "NoName" = some (.ref (cs 12))
  m13 : mg "BadClient" = some (.ref (cs 13))
  m14 : mg "NoRow" = some (.ref (cs 14))
  m15 : mg "Stopped" = some (.ref (cs 15))
  m16 : mg "NoBack" = some (.ref (cs 16))
  xi : XIs K (cs 14) fX
  na : NoAttr K (cs 14) "what"
  kit : ∀ j, j < 17 → PySem.W.kitOne K (.ref (cs 14)) (.ref (cs j)) = some (decide (14 = j))
  kitV : PySem.W.kitOne K (.ref (cs 14)) (.type "ValueError") = some true
  mD : mg "DozeError" = some (.ref CD)
  xD : XIs K CD fX
  sb : subIn K (cs 14) (.ref CD) = true
  mV : mg "ValueError" = none
def nm10 : List Str := ["NoRoom", "Asleep", "Awake", "BadCount", "SameRoom", "TwoNames", "NoKey", "NotHolder", "Ring", "BadPlan"]
def nm7 : List Str := ["NoMove", "TooMany", "NoName", "BadClient", "NoRow", "Stopped", "NoBack"]
@[irreducible] def tN10 : TE := tStrs nm10
@[irreducible] def tN7 : TE := tStrs nm7
theorem pe_n10 {X : Cx} {e : Expr} (h : PE X e (tStrs ["NoRoom", "Asleep", "Awake", "BadCount", "SameRoom", "TwoNames", "NoKey", "NotHolder", "Ring", "BadPlan"])) : PE X e tN10 := by unfold tN10; exact h
theorem pe_n7 {X : Cx} {e : Expr} (h : PE X e (tStrs ["NoMove", "TooMany", "NoName", "BadClient", "NoRow", "Stopped", "NoBack"])) : PE X e tN7 := by unfold tN7; exact h
theorem tN10_ok {σ : L2.St} {H : Hp} {Q : VK} (q : ∀ l, H l = none → Q (.ref l) (upd H l (.lst (nm10.map V.str)))) : tN10 σ H Q := by
  unfold tN10
  exact ⟨by show 10 ≤ sizeLine; rw [sizeLine_eq]; decide, fun l hl => q l hl⟩
theorem tN7_ok {σ : L2.St} {H : Hp} {Q : VK} (q : ∀ l, H l = none → Q (.ref l) (upd H l (.lst (nm7.map V.str)))) : tN7 σ H Q := by
  unfold tN7
  exact ⟨by show 7 ≤ sizeLine; rw [sizeLine_eq]; decide, fun l hl => q l hl⟩
/-- the marks of a NoRow -/
def marksV : List V := [.bl (decide (14 = 0)), .bl (decide (14 = 1)), .bl (decide (14 = 2)), .bl (decide (14 = 3)), .bl (decide (14 = 4)), .bl (decide (14 = 5)), .bl (decide (14 = 6)), .bl (decide (14 = 7)), .bl (decide (14 = 8)), .bl (decide (14 = 9)), .bl (decide (14 = 10)), .bl (decide (14 = 11)), .bl (decide (14 = 12)), .bl (decide (14 = 13)), .bl (decide (14 = 14)), .bl (decide (14 = 15)), .bl (decide (14 = 16))]
theorem marks_flat : marksV.all flatV = true := by kernel_rfl
theorem marks_count : (marksV.countP fun z => eqV z (.bl true)) = 1 := by kernel_rfl
theorem marks_ahead : ((marksV.take 14).all fun z => !eqV z (.bl true)) = true := by kernel_rfl
theorem marks_at : marksV[14]? = some (.bl true) := by kernel_rfl
theorem marks_no (m : Nat) (z : V) (hm : m < 14) (hz : marksV[m]? = some z) : eqV z (.bl true) = false := by
  have := List.all_eq_true.mp marks_ahead z (List.mem_of_getElem? (i := m) (by rw [List.getElem?_take_of_lt hm]; exact hz))
  rwa [Bool.not_eq_true'] at this
theorem names_at : atI (nm10.map V.str ++ nm7.map V.str) (((14 : Nat) : Int)) = some (.str "NoRow") := atI_nat (by rfl)
def spRefusal (K : PySem.W.Frag) (cs : Nat → Addr) : Addr → Obj → Sp := fun h oh vs H Q _ => ∃ (fI dx : Addr) (fs : List (Str × V)), vs = [.ref h] ∧ oh.cls = .ref (cs 14) ∧ oh.dict = some dx ∧ XIs K (cs 14) fI ∧ H dx = some (.xd fs) ∧ ∀ H', Same H H' → Q (.str "NoRow") H'
section
variable {P : Program} {w : World} {K : PySem.W.Frag} {mg : Str → Option Value} {base : Heap}
theorem scRf : FnScope ["_law_e", "_law_names", "_law_marks"] ["_law_e"] (defScope sRefusal) := ⟨rfl, rfl, rfl, by decide +kernel, rfl, by decide +kernel, by decide +kernel⟩
theorem ok_refusal {f : Addr} {fd : FuncData} {cs : Nat → Addr} {CD fX : Addr} (F : Fun K "_law_refusal" "_law_refusal" sRefusal f fd) (G : Glb mg) (kc : KR K mg cs CD fX) : FnOkH P w K mg base 1 f fd ["_law_e"] (spRefusal K cs) := by
  refine okH F scRf (fun h oh vs H Q E z => ?_) (fun cdv A0 outer s H vs Q h oh hr hx z => ?_)
  · obtain ⟨fI, dx, fs, rfl, _⟩ := z
    rfl
  · obtain ⟨fI, dx, fs, rfl, hc, hd, Z, hxd, q⟩ := z
    have zz : 200 < sizeLine := by rw [sizeLine_eq]; decide
    have PWpt := @PW.pt
    have pa_cons := @pa_cons
    have pa_nil := @pa_nil
    have pe_bl := @pe_bl
    have pe_bltn := @pe_bltn
    have pe_bm := @pe_bm
    have pe_callB := @pe_callB
    have pe_glob := @pe_glob
    have pe_int := @pe_int
    have pe_ix := @pe_ix
    have pe_lst := @pe_lst
    have pe_n10 := @pe_n10
    have pe_n7 := @pe_n7
    have pe_op := @pe_op
    have pe_str := @pe_str
    have pe_strs10 := @pe_strs10
    have pe_strs7 := @pe_strs7
    have ps_if := @ps_if
    have ps_ret := @ps_ret
    have ps_set := @ps_set
    have pss_cons := @pss_cons
    have pss_cut := @pss_cut
    have pss_nil := @pss_nil
    have pss_one := @pss_one
    have pt_cmpR := @pt_cmpR
    have pt_not := @pt_not
    have pt_val := @pt_val
    have pv := @pv
    have pw_or := @pw_or
    have pw_or1 := @pw_or1
    revert PWpt pa_cons pa_nil pe_bl pe_bltn pe_bm pe_callB pe_glob pe_int pe_ix pe_lst pe_n10 pe_n7 pe_op pe_str pe_strs10 pe_strs7 ps_if ps_ret ps_set pss_cons pss_cut pss_nil pss_one pt_cmpR pt_not pt_val pv pw_or pw_or1
    generalize @L2.PS = vPS
    generalize @L2.PSs = vPSs
    generalize @L2.PE = vPE
    generalize @L2.PT = vPT
    generalize @L2.PW = vPW
    generalize @L2.PC = vPC
    generalize @L2.PA = vPA
    generalize @L2.PG = vPG
    generalize @L2.PI = vPI
    generalize @L2.PO = vPO
    generalize @L2.PTs = vPTs
    generalize @L2.PPs = vPPs
    generalize @L2.PGs = vPGs
    generalize @L2.PK = vPK
    intro PWpt pa_cons pa_nil pe_bl pe_bltn pe_bm pe_callB pe_glob pe_int pe_ix pe_lst pe_n10 pe_n7 pe_op pe_str pe_strs10 pe_strs7 ps_if ps_ret ps_set pss_cons pss_cut pss_nil pss_one pt_cmpR pt_not pt_val pv pw_or pw_or1
    refine ⟨_, (pss_cons (ps_set (i := 1) scRf.nd rfl (Or.inl rfl) (pe_n10 pe_strs10))
      (pss_cons (ps_set (i := 1) scRf.nd rfl (Or.inl rfl) (pe_op op_cat (pv 1) (pe_n7 pe_strs7)))
      (pss_cons (ps_set (i := 2) scRf.nd rfl (Or.inl rfl) (pe_lst (pa_cons (pe_callB (call_isiH (K := K) rfl hx) (by rfl) G.isi (by decide +kernel) (pa_cons (pv 0) (pa_cons (pe_glob (v := .ref (cs 0)) (u := .ref (cs 0)) (by rfl) kc.m0 rfl) pa_nil))) (pa_cons (pe_callB (call_isiH (K := K) rfl hx) (by rfl) G.isi (by decide +kernel) (pa_cons (pv 0) (pa_cons (pe_glob (v := .ref (cs 1)) (u := .ref (cs 1)) (by rfl) kc.m1 rfl) pa_nil))) (pa_cons (pe_callB (call_isiH (K := K) rfl hx) (by rfl) G.isi (by decide +kernel) (pa_cons (pv 0) (pa_cons (pe_glob (v := .ref (cs 2)) (u := .ref (cs 2)) (by rfl) kc.m2 rfl) pa_nil))) (pa_cons (pe_callB (call_isiH (K := K) rfl hx) (by rfl) G.isi (by decide +kernel) (pa_cons (pv 0) (pa_cons (pe_glob (v := .ref (cs 3)) (u := .ref (cs 3)) (by rfl) kc.m3 rfl) pa_nil))) pa_nil))))))
      (pss_cons (ps_set (i := 2) scRf.nd rfl (Or.inl rfl) (pe_op op_cat (pv 2) (pe_lst (pa_cons (pe_callB (call_isiH (K := K) rfl hx) (by rfl) G.isi (by decide +kernel) (pa_cons (pv 0) (pa_cons (pe_glob (v := .ref (cs 4)) (u := .ref (cs 4)) (by rfl) kc.m4 rfl) pa_nil))) (pa_cons (pe_callB (call_isiH (K := K) rfl hx) (by rfl) G.isi (by decide +kernel) (pa_cons (pv 0) (pa_cons (pe_glob (v := .ref (cs 5)) (u := .ref (cs 5)) (by rfl) kc.m5 rfl) pa_nil))) (pa_cons (pe_callB (call_isiH (K := K) rfl hx) (by rfl) G.isi (by decide +kernel) (pa_cons (pv 0) (pa_cons (pe_glob (v := .ref (cs 6)) (u := .ref (cs 6)) (by rfl) kc.m6 rfl) pa_nil))) (pa_cons (pe_callB (call_isiH (K := K) rfl hx) (by rfl) G.isi (by decide +kernel) (pa_cons (pv 0) (pa_cons (pe_glob (v := .ref (cs 7)) (u := .ref (cs 7)) (by rfl) kc.m7 rfl) pa_nil))) pa_nil)))))))
      (pss_cons (ps_set (i := 2) scRf.nd rfl (Or.inl rfl) (pe_op op_cat (pv 2) (pe_lst (pa_cons (pe_callB (call_isiH (K := K) rfl hx) (by rfl) G.isi (by decide +kernel) (pa_cons (pv 0) (pa_cons (pe_glob (v := .ref (cs 8)) (u := .ref (cs 8)) (by rfl) kc.m8 rfl) pa_nil))) (pa_cons (pe_callB (call_isiH (K := K) rfl hx) (by rfl) G.isi (by decide +kernel) (pa_cons (pv 0) (pa_cons (pe_glob (v := .ref (cs 9)) (u := .ref (cs 9)) (by rfl) kc.m9 rfl) pa_nil))) (pa_cons (pe_callB (call_isiH (K := K) rfl hx) (by rfl) G.isi (by decide +kernel) (pa_cons (pv 0) (pa_cons (pe_glob (v := .ref (cs 10)) (u := .ref (cs 10)) (by rfl) kc.m10 rfl) pa_nil))) (pa_cons (pe_callB (call_isiH (K := K) rfl hx) (by rfl) G.isi (by decide +kernel) (pa_cons (pv 0) (pa_cons (pe_glob (v := .ref (cs 11)) (u := .ref (cs 11)) (by rfl) kc.m11 rfl) pa_nil))) pa_nil)))))))
      (pss_cons (ps_set (i := 2) scRf.nd rfl (Or.inl rfl) (pe_op op_cat (pv 2) (pe_lst (pa_cons (pe_callB (call_isiH (K := K) rfl hx) (by rfl) G.isi (by decide +kernel) (pa_cons (pv 0) (pa_cons (pe_glob (v := .ref (cs 12)) (u := .ref (cs 12)) (by rfl) kc.m12 rfl) pa_nil))) (pa_cons (pe_callB (call_isiH (K := K) rfl hx) (by rfl) G.isi (by decide +kernel) (pa_cons (pv 0) (pa_cons (pe_glob (v := .ref (cs 13)) (u := .ref (cs 13)) (by rfl) kc.m13 rfl) pa_nil))) (pa_cons (pe_callB (call_isiH (K := K) rfl hx) (by rfl) G.isi (by decide +kernel) (pa_cons (pv 0) (pa_cons (pe_glob (v := .ref (cs 14)) (u := .ref (cs 14)) (by rfl) kc.m14 rfl) pa_nil))) (pa_cons (pe_callB (call_isiH (K := K) rfl hx) (by rfl) G.isi (by decide +kernel) (pa_cons (pv 0) (pa_cons (pe_glob (v := .ref (cs 15)) (u := .ref (cs 15)) (by rfl) kc.m15 rfl) pa_nil))) pa_nil)))))))
      (pss_cons (ps_set (i := 2) scRf.nd rfl (Or.inl rfl) (pe_op op_cat (pv 2) (pe_lst (pa_cons (pe_callB (call_isiH (K := K) rfl hx) (by rfl) G.isi (by decide +kernel) (pa_cons (pv 0) (pa_cons (pe_glob (v := .ref (cs 16)) (u := .ref (cs 16)) (by rfl) kc.m16 rfl) pa_nil))) pa_nil))))
      (pss_cut (ps_if (PWpt (pw_or (pt_cmpR op_ne (pe_bm PySem.F.plainAttrs_list PySem.F.slot_list_count PySem.F.type_list_count mt_lcount (pv 2) (pa_cons pe_bl pa_nil)) pe_int (nomark _)) (pw_or1 (pt_not (pt_val (pe_callB (call_isiH (K := K) rfl hx) (by rfl) G.isi (by decide +kernel) (pa_cons (pv 0) (pa_cons (pe_bltn (v := .ty "ValueError") (u := .type "ValueError") (by rfl) kc.mV (by decide +kernel) rfl) pa_nil)))))))) (pss_one (ps_ret pe_str)) pss_nil)
      (pss_one (ps_ret (pe_ix ix_list (pv 1) (pe_bm PySem.F.plainAttrs_list PySem.F.slot_list_index PySem.F.type_list_index mt_index (pv 2) (pa_cons pe_bl pa_nil)) (fun _ _ => rfl)))))))))))), ?_⟩
    refine tN10_ok fun n0 hn0 => ?_
    have s1 := sameNew (o := .lst (nm10.map V.str)) hn0
    have g1 : (upd H n0 (.lst (nm10.map V.str))) n0 = some (.lst (nm10.map V.str)) := upd_same
    generalize upd H n0 (.lst (nm10.map V.str)) = H1 at s1 g1
    refine ⟨_, rfl, ?_⟩
    refine tN7_ok fun n1 hn1 => ?_
    have s2 := sameNew (o := .lst (nm7.map V.str)) hn1
    have g2 : (upd H1 n1 (.lst (nm7.map V.str))) n1 = some (.lst (nm7.map V.str)) := upd_same
    have g12 := s2 _ _ g1
    generalize upd H1 n1 (.lst (nm7.map V.str)) = H2 at s2 g2 g12
    refine ⟨n0, n1, _, _, rfl, rfl, g12, g2, (by show 10 + 7 ≤ sizeLine; omega), fun n2 hn2 => ?_⟩
    have s3 := sameNew (o := .lst (nm10.map V.str ++ nm7.map V.str)) hn2
    have gn : (upd H2 n2 (.lst (nm10.map V.str ++ nm7.map V.str))) n2 = some (.lst (nm10.map V.str ++ nm7.map V.str)) := upd_same
    have S0 := (s1.trans s2).trans s3
    generalize upd H2 n2 (.lst (nm10.map V.str ++ nm7.map V.str)) = J0 at s3 gn S0
    have x0 := S0 _ _ hxd
    refine ⟨_, rfl, cs 14, fI, dx, fs, _, _, _, rfl, .inr ⟨_, rfl, rfl⟩, hc, hd, Z, x0, kc.kit 0 (by decide), _, rfl, cs 14, fI, dx, fs, _, _, _, rfl, .inr ⟨_, rfl, rfl⟩, hc, hd, Z, x0, kc.kit 1 (by decide), _, rfl, cs 14, fI, dx, fs, _, _, _, rfl, .inr ⟨_, rfl, rfl⟩, hc, hd, Z, x0, kc.kit 2 (by decide), _, rfl, cs 14, fI, dx, fs, _, _, _, rfl, .inr ⟨_, rfl, rfl⟩, hc, hd, Z, x0, kc.kit 3 (by decide), (by show 4 ≤ sizeLine; omega), fun l0 hl0 => ?_⟩
    have t0 := sameNew (o := .lst [.bl (decide (14 = 0)), .bl (decide (14 = 1)), .bl (decide (14 = 2)), .bl (decide (14 = 3))]) hl0
    have a0 : (upd J0 l0 (.lst [.bl (decide (14 = 0)), .bl (decide (14 = 1)), .bl (decide (14 = 2)), .bl (decide (14 = 3))])) l0 = some (.lst [.bl (decide (14 = 0)), .bl (decide (14 = 1)), .bl (decide (14 = 2)), .bl (decide (14 = 3))]) := upd_same
    generalize upd J0 l0 (.lst [.bl (decide (14 = 0)), .bl (decide (14 = 1)), .bl (decide (14 = 2)), .bl (decide (14 = 3))]) = J1 at t0 a0
    have x1 := t0 _ _ x0
    have gn1 := t0 _ _ gn
    have S1 := S0.trans t0
    refine ⟨_, rfl, _, rfl, cs 14, fI, dx, fs, _, _, _, rfl, .inr ⟨_, rfl, rfl⟩, hc, hd, Z, x1, kc.kit 4 (by decide), _, rfl, cs 14, fI, dx, fs, _, _, _, rfl, .inr ⟨_, rfl, rfl⟩, hc, hd, Z, x1, kc.kit 5 (by decide), _, rfl, cs 14, fI, dx, fs, _, _, _, rfl, .inr ⟨_, rfl, rfl⟩, hc, hd, Z, x1, kc.kit 6 (by decide), _, rfl, cs 14, fI, dx, fs, _, _, _, rfl, .inr ⟨_, rfl, rfl⟩, hc, hd, Z, x1, kc.kit 7 (by decide), (by show 4 ≤ sizeLine; omega), fun l1 hl1 => ?_⟩
    have t1 := sameNew (o := .lst [.bl (decide (14 = 4)), .bl (decide (14 = 5)), .bl (decide (14 = 6)), .bl (decide (14 = 7))]) hl1
    have a1 : (upd J1 l1 (.lst [.bl (decide (14 = 4)), .bl (decide (14 = 5)), .bl (decide (14 = 6)), .bl (decide (14 = 7))])) l1 = some (.lst [.bl (decide (14 = 4)), .bl (decide (14 = 5)), .bl (decide (14 = 6)), .bl (decide (14 = 7))]) := upd_same
    generalize upd J1 l1 (.lst [.bl (decide (14 = 4)), .bl (decide (14 = 5)), .bl (decide (14 = 6)), .bl (decide (14 = 7))]) = J2 at t1 a1
    have x2 := t1 _ _ x1
    have gn2 := t1 _ _ gn1
    have S2 := S1.trans t1
    have c1 := t1 _ _ a0
    refine ⟨l0, l1, _, _, rfl, rfl, c1, a1, (by show 4 + 4 ≤ sizeLine; omega), fun m1 hm1 => ?_⟩
    have u1 := sameNew (o := .lst ([.bl (decide (14 = 0)), .bl (decide (14 = 1)), .bl (decide (14 = 2)), .bl (decide (14 = 3))] ++ [.bl (decide (14 = 4)), .bl (decide (14 = 5)), .bl (decide (14 = 6)), .bl (decide (14 = 7))])) hm1
    have d1 : (upd J2 m1 (.lst ([.bl (decide (14 = 0)), .bl (decide (14 = 1)), .bl (decide (14 = 2)), .bl (decide (14 = 3))] ++ [.bl (decide (14 = 4)), .bl (decide (14 = 5)), .bl (decide (14 = 6)), .bl (decide (14 = 7))]))) m1 = some (.lst ([.bl (decide (14 = 0)), .bl (decide (14 = 1)), .bl (decide (14 = 2)), .bl (decide (14 = 3))] ++ [.bl (decide (14 = 4)), .bl (decide (14 = 5)), .bl (decide (14 = 6)), .bl (decide (14 = 7))])) := upd_same
    generalize upd J2 m1 (.lst ([.bl (decide (14 = 0)), .bl (decide (14 = 1)), .bl (decide (14 = 2)), .bl (decide (14 = 3))] ++ [.bl (decide (14 = 4)), .bl (decide (14 = 5)), .bl (decide (14 = 6)), .bl (decide (14 = 7))])) = J3 at u1 d1
    have x3 := u1 _ _ x2
    have gn3 := u1 _ _ gn2
    have S3 := S2.trans u1
    refine ⟨_, rfl, _, rfl, cs 14, fI, dx, fs, _, _, _, rfl, .inr ⟨_, rfl, rfl⟩, hc, hd, Z, x3, kc.kit 8 (by decide), _, rfl, cs 14, fI, dx, fs, _, _, _, rfl, .inr ⟨_, rfl, rfl⟩, hc, hd, Z, x3, kc.kit 9 (by decide), _, rfl, cs 14, fI, dx, fs, _, _, _, rfl, .inr ⟨_, rfl, rfl⟩, hc, hd, Z, x3, kc.kit 10 (by decide), _, rfl, cs 14, fI, dx, fs, _, _, _, rfl, .inr ⟨_, rfl, rfl⟩, hc, hd, Z, x3, kc.kit 11 (by decide), (by show 4 ≤ sizeLine; omega), fun l2 hl2 => ?_⟩
    have t2 := sameNew (o := .lst [.bl (decide (14 = 8)), .bl (decide (14 = 9)), .bl (decide (14 = 10)), .bl (decide (14 = 11))]) hl2
    have a2 : (upd J3 l2 (.lst [.bl (decide (14 = 8)), .bl (decide (14 = 9)), .bl (decide (14 = 10)), .bl (decide (14 = 11))])) l2 = some (.lst [.bl (decide (14 = 8)), .bl (decide (14 = 9)), .bl (decide (14 = 10)), .bl (decide (14 = 11))]) := upd_same
    generalize upd J3 l2 (.lst [.bl (decide (14 = 8)), .bl (decide (14 = 9)), .bl (decide (14 = 10)), .bl (decide (14 = 11))]) = J4 at t2 a2
    have x4 := t2 _ _ x3
    have gn4 := t2 _ _ gn3
    have S4 := S3.trans t2
    have c2 := t2 _ _ d1
    refine ⟨m1, l2, _, _, rfl, rfl, c2, a2, (by show 8 + 4 ≤ sizeLine; omega), fun m2 hm2 => ?_⟩
    have u2 := sameNew (o := .lst (([.bl (decide (14 = 0)), .bl (decide (14 = 1)), .bl (decide (14 = 2)), .bl (decide (14 = 3))] ++ [.bl (decide (14 = 4)), .bl (decide (14 = 5)), .bl (decide (14 = 6)), .bl (decide (14 = 7))]) ++ [.bl (decide (14 = 8)), .bl (decide (14 = 9)), .bl (decide (14 = 10)), .bl (decide (14 = 11))])) hm2
    have d2 : (upd J4 m2 (.lst (([.bl (decide (14 = 0)), .bl (decide (14 = 1)), .bl (decide (14 = 2)), .bl (decide (14 = 3))] ++ [.bl (decide (14 = 4)), .bl (decide (14 = 5)), .bl (decide (14 = 6)), .bl (decide (14 = 7))]) ++ [.bl (decide (14 = 8)), .bl (decide (14 = 9)), .bl (decide (14 = 10)), .bl (decide (14 = 11))]))) m2 = some (.lst (([.bl (decide (14 = 0)), .bl (decide (14 = 1)), .bl (decide (14 = 2)), .bl (decide (14 = 3))] ++ [.bl (decide (14 = 4)), .bl (decide (14 = 5)), .bl (decide (14 = 6)), .bl (decide (14 = 7))]) ++ [.bl (decide (14 = 8)), .bl (decide (14 = 9)), .bl (decide (14 = 10)), .bl (decide (14 = 11))])) := upd_same
    generalize upd J4 m2 (.lst (([.bl (decide (14 = 0)), .bl (decide (14 = 1)), .bl (decide (14 = 2)), .bl (decide (14 = 3))] ++ [.bl (decide (14 = 4)), .bl (decide (14 = 5)), .bl (decide (14 = 6)), .bl (decide (14 = 7))]) ++ [.bl (decide (14 = 8)), .bl (decide (14 = 9)), .bl (decide (14 = 10)), .bl (decide (14 = 11))])) = J5 at u2 d2
    have x5 := u2 _ _ x4
    have gn5 := u2 _ _ gn4
    have S5 := S4.trans u2
    refine ⟨_, rfl, _, rfl, cs 14, fI, dx, fs, _, _, _, rfl, .inr ⟨_, rfl, rfl⟩, hc, hd, Z, x5, kc.kit 12 (by decide), _, rfl, cs 14, fI, dx, fs, _, _, _, rfl, .inr ⟨_, rfl, rfl⟩, hc, hd, Z, x5, kc.kit 13 (by decide), _, rfl, cs 14, fI, dx, fs, _, _, _, rfl, .inr ⟨_, rfl, rfl⟩, hc, hd, Z, x5, kc.kit 14 (by decide), _, rfl, cs 14, fI, dx, fs, _, _, _, rfl, .inr ⟨_, rfl, rfl⟩, hc, hd, Z, x5, kc.kit 15 (by decide), (by show 4 ≤ sizeLine; omega), fun l3 hl3 => ?_⟩
    have t3 := sameNew (o := .lst [.bl (decide (14 = 12)), .bl (decide (14 = 13)), .bl (decide (14 = 14)), .bl (decide (14 = 15))]) hl3
    have a3 : (upd J5 l3 (.lst [.bl (decide (14 = 12)), .bl (decide (14 = 13)), .bl (decide (14 = 14)), .bl (decide (14 = 15))])) l3 = some (.lst [.bl (decide (14 = 12)), .bl (decide (14 = 13)), .bl (decide (14 = 14)), .bl (decide (14 = 15))]) := upd_same
    generalize upd J5 l3 (.lst [.bl (decide (14 = 12)), .bl (decide (14 = 13)), .bl (decide (14 = 14)), .bl (decide (14 = 15))]) = J6 at t3 a3
    have x6 := t3 _ _ x5
    have gn6 := t3 _ _ gn5
    have S6 := S5.trans t3
    have c3 := t3 _ _ d2
    refine ⟨m2, l3, _, _, rfl, rfl, c3, a3, (by show 12 + 4 ≤ sizeLine; omega), fun m3 hm3 => ?_⟩
    have u3 := sameNew (o := .lst ((([.bl (decide (14 = 0)), .bl (decide (14 = 1)), .bl (decide (14 = 2)), .bl (decide (14 = 3))] ++ [.bl (decide (14 = 4)), .bl (decide (14 = 5)), .bl (decide (14 = 6)), .bl (decide (14 = 7))]) ++ [.bl (decide (14 = 8)), .bl (decide (14 = 9)), .bl (decide (14 = 10)), .bl (decide (14 = 11))]) ++ [.bl (decide (14 = 12)), .bl (decide (14 = 13)), .bl (decide (14 = 14)), .bl (decide (14 = 15))])) hm3
    have d3 : (upd J6 m3 (.lst ((([.bl (decide (14 = 0)), .bl (decide (14 = 1)), .bl (decide (14 = 2)), .bl (decide (14 = 3))] ++ [.bl (decide (14 = 4)), .bl (decide (14 = 5)), .bl (decide (14 = 6)), .bl (decide (14 = 7))]) ++ [.bl (decide (14 = 8)), .bl (decide (14 = 9)), .bl (decide (14 = 10)), .bl (decide (14 = 11))]) ++ [.bl (decide (14 = 12)), .bl (decide (14 = 13)), .bl (decide (14 = 14)), .bl (decide (14 = 15))]))) m3 = some (.lst ((([.bl (decide (14 = 0)), .bl (decide (14 = 1)), .bl (decide (14 = 2)), .bl (decide (14 = 3))] ++ [.bl (decide (14 = 4)), .bl (decide (14 = 5)), .bl (decide (14 = 6)), .bl (decide (14 = 7))]) ++ [.bl (decide (14 = 8)), .bl (decide (14 = 9)), .bl (decide (14 = 10)), .bl (decide (14 = 11))]) ++ [.bl (decide (14 = 12)), .bl (decide (14 = 13)), .bl (decide (14 = 14)), .bl (decide (14 = 15))])) := upd_same
    generalize upd J6 m3 (.lst ((([.bl (decide (14 = 0)), .bl (decide (14 = 1)), .bl (decide (14 = 2)), .bl (decide (14 = 3))] ++ [.bl (decide (14 = 4)), .bl (decide (14 = 5)), .bl (decide (14 = 6)), .bl (decide (14 = 7))]) ++ [.bl (decide (14 = 8)), .bl (decide (14 = 9)), .bl (decide (14 = 10)), .bl (decide (14 = 11))]) ++ [.bl (decide (14 = 12)), .bl (decide (14 = 13)), .bl (decide (14 = 14)), .bl (decide (14 = 15))])) = J7 at u3 d3
    have x7 := u3 _ _ x6
    have gn7 := u3 _ _ gn6
    have S7 := S6.trans u3
    refine ⟨_, rfl, _, rfl, cs 14, fI, dx, fs, _, _, _, rfl, .inr ⟨_, rfl, rfl⟩, hc, hd, Z, x7, kc.kit 16 (by decide), (by show 1 ≤ sizeLine; omega), fun l4 hl4 => ?_⟩
    have t4 := sameNew (o := .lst [.bl (decide (14 = 16))]) hl4
    have a4 : (upd J7 l4 (.lst [.bl (decide (14 = 16))])) l4 = some (.lst [.bl (decide (14 = 16))]) := upd_same
    generalize upd J7 l4 (.lst [.bl (decide (14 = 16))]) = J8 at t4 a4
    have x8 := t4 _ _ x7
    have gn8 := t4 _ _ gn7
    have S8 := S7.trans t4
    have c4 := t4 _ _ d3
    refine ⟨m3, l4, _, _, rfl, rfl, c4, a4, (by show 16 + 1 ≤ sizeLine; omega), fun m4 hm4 => ?_⟩
    have u4 := sameNew (o := .lst (((([.bl (decide (14 = 0)), .bl (decide (14 = 1)), .bl (decide (14 = 2)), .bl (decide (14 = 3))] ++ [.bl (decide (14 = 4)), .bl (decide (14 = 5)), .bl (decide (14 = 6)), .bl (decide (14 = 7))]) ++ [.bl (decide (14 = 8)), .bl (decide (14 = 9)), .bl (decide (14 = 10)), .bl (decide (14 = 11))]) ++ [.bl (decide (14 = 12)), .bl (decide (14 = 13)), .bl (decide (14 = 14)), .bl (decide (14 = 15))]) ++ [.bl (decide (14 = 16))])) hm4
    have d4 : (upd J8 m4 (.lst (((([.bl (decide (14 = 0)), .bl (decide (14 = 1)), .bl (decide (14 = 2)), .bl (decide (14 = 3))] ++ [.bl (decide (14 = 4)), .bl (decide (14 = 5)), .bl (decide (14 = 6)), .bl (decide (14 = 7))]) ++ [.bl (decide (14 = 8)), .bl (decide (14 = 9)), .bl (decide (14 = 10)), .bl (decide (14 = 11))]) ++ [.bl (decide (14 = 12)), .bl (decide (14 = 13)), .bl (decide (14 = 14)), .bl (decide (14 = 15))]) ++ [.bl (decide (14 = 16))]))) m4 = some (.lst (((([.bl (decide (14 = 0)), .bl (decide (14 = 1)), .bl (decide (14 = 2)), .bl (decide (14 = 3))] ++ [.bl (decide (14 = 4)), .bl (decide (14 = 5)), .bl (decide (14 = 6)), .bl (decide (14 = 7))]) ++ [.bl (decide (14 = 8)), .bl (decide (14 = 9)), .bl (decide (14 = 10)), .bl (decide (14 = 11))]) ++ [.bl (decide (14 = 12)), .bl (decide (14 = 13)), .bl (decide (14 = 14)), .bl (decide (14 = 15))]) ++ [.bl (decide (14 = 16))])) := upd_same
    generalize upd J8 m4 (.lst (((([.bl (decide (14 = 0)), .bl (decide (14 = 1)), .bl (decide (14 = 2)), .bl (decide (14 = 3))] ++ [.bl (decide (14 = 4)), .bl (decide (14 = 5)), .bl (decide (14 = 6)), .bl (decide (14 = 7))]) ++ [.bl (decide (14 = 8)), .bl (decide (14 = 9)), .bl (decide (14 = 10)), .bl (decide (14 = 11))]) ++ [.bl (decide (14 = 12)), .bl (decide (14 = 13)), .bl (decide (14 = 14)), .bl (decide (14 = 15))]) ++ [.bl (decide (14 = 16))])) = J9 at u4 d4
    have x9 := u4 _ _ x8
    have gn9 := u4 _ _ gn8
    have S9 := S8.trans u4
    have gm : J9 m4 = some (.lst marksV) := d4
    refine ⟨fun σ' H' => σ' = [some (.ref h), some (.ref n2), some (.ref m4)] ∧ H' = J9, ?_, ?_⟩
    · refine ⟨_, rfl, .inl ⟨rfl, _, SqL.of gm⟩, m4, marksV, .bl true, rfl, rfl, SqL.of gm, rfl, marks_flat, rfl, _, rfl, ?_⟩
      refine iteF' (by rw [marks_count]; rfl) ?_
      refine ⟨_, rfl, cs 14, fI, dx, fs, .ty "ValueError", .type "ValueError", true, rfl, .inl ⟨"ValueError", rfl, rfl⟩, hc, hd, Z, x9, kc.kitV, _, rfl, iteF ⟨rfl, rfl⟩⟩
    rintro _ _ ⟨rfl, rfl⟩
    refine ⟨_, rfl, _, rfl, .inl ⟨rfl, _, SqL.of gm⟩, m4, marksV, .bl true, 14, .bl true, rfl, rfl, SqL.of gm, rfl, marks_flat, marks_at, rfl, marks_no, ?_⟩
    exact ⟨n2, _, _, _, rfl, rfl, SqL.of gn9, names_at, q _ S9⟩
end
end U

set_option Elab.async false
set_option maxRecDepth 100000
set_option linter.all false
set_option maxHeartbeats 8000000
namespace Xc
open PySem PySem.Spec L2
open PyProof.Rows hiding St
section
variable {X : Cx} {CX : CXT} {k : Nat} {f C : Addr} {fd : FuncData} {ps : List Str} {sp : Sp} {dvs : List V} {ds : List Value} {E : XK} {x m : Str} {p pos apos : Pos} {e o : Expr} {es : List Expr} {ta : TE} {t : TA} {σ0 : L2.St}
/-- f(e, ..) in a try's body: the names stand as at its beginning -/
def tCallS (sp : Sp) (dvs : List V) (E : XK) (σ0 : L2.St) (t : TA) : TE := fun σ H Q => σ = σ0 ∧ t σ H fun vs H1 => sp (vs ++ dvs) H1 Q E
theorem pe_callS (F : FnOk X.prog X.w X.K X.mg X.base CX k f fd ps sp) (hr : Room k X.A) (hg : Gl X x) (hm : X.mg x = some (.ref f)) (hk : PySem.W.keepIn X.K (.ref f) = true) (hb : Binds X.K fd ps ds) (hd : Vals dvs ds) (hx : PassesAt CX X E σ0)
    (ha : PA X (e :: es) t) (hdb : (x == ("__debug__" : Str)) = false := by decide) (he : starEach (e :: es) X.env = (false, eval e X.env) :: starEach es X.env := by rfl) (hpl : (backTo pos (starEach es X.env)).any (·.1) = false := by rfl) :
    PE X (.Call (.Name x p) (e :: es) [] pos) (tCallS sp dvs E σ0 t) := by
  intro pins s σ H Q I h
  obtain ⟨rfl, h⟩ := h
  refine wpAny_Call_Name_kw (ld_glob I hg hm ?_ hdb)
  refine PySem.W.callWith_K (h₀ := X.base) I.ok.mod.kin hk (thn (ha pos pins s σ H _ I h) fun us s1 ⟨vs, H1, I1, r, q⟩ => ⟨I1.kIn, ?_⟩) he hpl
  exact run_fnS F hr hb hd hx I1 r q
end
end Xc
namespace U
open PySem L2 TL Rl Tb Xc Hn
/-- what _law_asked tells: a row that was read, or the refusal -/
def spAsked (Pn Pf : Addr) : Sp := fun vs H Q _ => ∃ t : Str, vs = [.str t] ∧ t.length ≤ 100000 ∧ TT H Pn Pf ∧
  ∀ tt H', K2 Pn Pf H H' → TT H' Pn Pf → ((rowV t = none ∧ H' tt = some (.tup [.str "NoRow", .str t])) ∨ ∃ p xs, rowV t = some xs ∧ H' p = some (.tup xs) ∧ H' tt = some (.tup [.str "row", .ref p])) → Q (.ref tt) H'
section
variable {P : Program} {w : World} {K : PySem.W.Frag} {mg : Str → Option Value} {base : Heap}
theorem scAs : FnScope ["_law_text_here", "_law_told", "_law_e"] ["_law_text_here"] (defScope sAsked) := ⟨rfl, rfl, rfl, by decide +kernel, rfl, by decide +kernel, by decide +kernel⟩
theorem ok_asked {f Pn Pf CD fX fR fKi : Addr} {cs : Nat → Addr} {fd fdR fdKi : FuncData} (F : Fun K "_law_asked" "_law_asked" sAsked f fd) (kc : KR K mg cs CD fX)
    (GR : FnOk P w K mg base (CXE P w) 6 fR fdR ["text"] (spReadX Pn Pf (cs 14))) (mgR : mg "read_row" = some (.ref fR)) (kpR : PySem.W.keepIn K (.ref fR) = true) (bR : Binds K fdR ["text"] [])
    (GKi : FnOkH P w K mg base 1 fKi fdKi ["_law_e"] (spRefusal K cs)) (mgKi : mg "_law_refusal" = some (.ref fKi)) (kpKi : PySem.W.keepIn K (.ref fKi) = true) (bKi : Binds K fdKi ["_law_e"] []) :
    FnOk P w K mg base CX0 7 f fd ["_law_text_here"] (spAsked Pn Pf) := by
  refine F.ok scAs (fun vs H Q E h => ?_) (fun cdv A0 outer s H vs Q E hr h => ?_)
  · obtain ⟨t, rfl, _⟩ := h
    rfl
  · obtain ⟨t, rfl, ht, hT, q⟩ := h
    have two : 2 ≤ sizeLine := by rw [sizeLine_eq]; decide
    have hrH : RoomH 1 (A0.deeper (PyProof.Rows.envOfC "_law_asked" (defScope sAsked) s.heap.objs.size f cdv)) := ⟨by have := hr.dp; omega, by have := hr.un; omega⟩
    refine ⟨_, (pss_cons (ps_set (i := 1) scAs.nd rfl (Or.inl rfl) pe_non)
      (pss_cut (ps_tryC (fun _ _ _ => (pss_one (ps_set (i := 1) scAs.nd rfl (Or.inl rfl) (pe_tup (pa_cons pe_str (pa_cons (pe_callS GR hr (by rfl) mgR kpR bR .nil land_at (pa_cons (pv 0) pa_nil)) pa_nil)))))) (ph_cons (i := 2) kc.xD.xc.ob (fun _ e oe => (pss_one (ps_set (i := 1) scAs.nd rfl (Or.inl rfl) (pe_tup (pa_cons (pe_callH GKi hrH (by rfl) mgKi kpKi bKi rfl rfl (pa_cons (pv 2) pa_nil)) (pa_cons (pe_xfld (K := K) (e := e) (oe := oe) rfl (by exact List.mem_cons_self) (pv 2) rfl) pa_nil)))))) (by rfl) kc.mD scAs.nd rfl rfl rfl rfl ph_nil) rfl rfl)
      (pss_one (ps_ret (pv 1))))), ?_⟩
    let R : L2.St → Hp → Prop := fun σ' H' => ∃ tt, σ' = [some (.str t), some (.ref tt), none] ∧ K2 Pn Pf H H' ∧ TT H' Pn Pf ∧ ((rowV t = none ∧ H' tt = some (.tup [.str "NoRow", .str t])) ∨ ∃ p xs, rowV t = some xs ∧ H' p = some (.tup xs) ∧ H' tt = some (.tup [.str "row", .ref p]))
    refine ⟨R, ?_, ?_⟩
    · refine ⟨fun cls od H' => ∃ dx, rowV t = none ∧ cls = .ref (cs 14) ∧ od = some dx ∧ K2 Pn Pf H H' ∧ TT H' Pn Pf ∧ H' dx = some (.xd [("what", .str t)]), ?_, ?_⟩
      · refine ⟨rfl, _, rfl, t, rfl, ht, hT, fun e H' dx k t' n' => ?_, fun xs p H' e k t' gp => ?_⟩
        · exact ⟨dx, e, rfl, rfl, k.trans (K2.of (same_new n')), t'.same (same_new n'), upd_same⟩
        · refine ⟨two, fun tt htt => ?_⟩
          exact ⟨tt, rfl, k.trans (K2.of (same_new htt)), t'.same (same_new htt), .inr ⟨p, xs, e, same_new htt _ _ gp, upd_same⟩⟩
      · rintro Dc dx H2 ⟨d', e0, e1, e2, k, t', hdx⟩
        cases e1
        cases e2
        refine ⟨kc.xi.xc.ob, fun e oe vs c1 c2 c3 c4 => ?_⟩
        show (if subIn K (cs 14) (.ref CD) = true then _ else _)
        rw [if_pos kc.sb]
        refine ⟨_, rfl, ⟨vs, c3, c4⟩, fX, dx, _, rfl, c1, c2, kc.xi, hdx, fun H3 sm3 => ?_⟩
        refine ⟨_, rfl, cs 14, fX, dx, _, .str t, vs, rfl, c1, c2, c3, kc.xi.xc, kc.na, sm3 _ _ hdx, (by simp [List.lookup]), two, fun tt ht => ?_⟩
        exact ⟨tt, rfl, k.trans (K2.of (sm3.trans (same_new ht))), t'.same (sm3.trans (same_new ht)), .inl ⟨e0, upd_same⟩⟩
    · rintro _ H2 ⟨tt, rfl, k, t', hs⟩
      exact ⟨_, rfl, q tt H2 k t' hs⟩
end
end U

set_option Elab.async false
set_option maxRecDepth 100000
set_option linter.all false
set_option maxHeartbeats 8000000
namespace U
open PySem L2 TL Rl Tb
def spLaw (K : PySem.W.Frag) (Pn Pf : Addr) : Sp := fun vs H Q _ => ∃ (a : Addr) (ns : List Int), vs = [.ref a] ∧ SqL K H a (ns.map V.int) ∧ ns.length ≤ 63 ∧ H Pn = some (.tbl #[]) ∧ H Pf = some (.tbl #[]) ∧ Pn ≠ Pf ∧ ∀ H', Q (.bl true) H'
theorem walk {l : PySem.W.OpenLaw} {q : Program} {loose : List Str} {XP : (Str → Option Value) → Heap → Prop} {YP : World → Heap → Prop} {d : DefRec} {K : Params → PySem.W.Frag} (Pn Pf : Addr) (hne : Pn ≠ Pf) (hn : l.most = some 63) (hdf : d.params.defaults = [])
    (hY : ∀ (w : World) (h : Heap), YP w h → (K w.params).In h ∧ ∀ P ∈ ([Pn, Pf] : List Addr), h.get? P = some (PySem.W.tabObj #[])) (hcs : ∀ w : World, ∀ P ∈ ([Pn, Pf] : List Addr), ∃ c, PySem.W.codeHdIn (K w.params) c P = true) (hnt : ∀ w : World, PySem.W.noTabs (K w.params) = true)
    (F : ∀ (w : World) (mg : Str → Option Value) (fa : Addr) (h : Heap), (K w.params).In h → h.Ns mainGlobals mg → mg d.name = some (.ref fa) →
      ∃ fd : FuncData, (∀ (s : Shared) (u : Value), BindsTo s fd ⟨[u], []⟩ [("_law_script", u)]) ∧ ∀ base : Heap, (K w.params).In base → base.Ns mainGlobals mg → BM mg base → FnOk l.prog w (K w.params) mg base CX0 8 fa fd ["_law_script"] (spLaw (K w.params) Pn Pf)) :
    PySem.W.WalkO q loose XP YP l.row.toRowW d [] (fun f vs => PySem.call f vs) :=
  walk_ofT (n := 63) (k := 8) (x := "_law_script") (ts := [Pn, Pf]) (CX := fun _ => CX0) (sp := fun w => spLaw (K w.params) Pn Pf) hn (by decide) hdf ⟨rfl, by decide, by decide⟩
    hY hcs hnt F (fun _ H a ns hl hO hT hS => ⟨a, ns, rfl, hS, hl, hT Pn (by simp), hT Pf (by simp), hne, fun _ => rfl⟩) fun _ _ _ _ _ z => z
end U

set_option Elab.async false
set_option maxRecDepth 100000
set_option linter.all false
set_option maxHeartbeats 8000000
namespace U
open PySem L2 TL Rl Tb
section
variable {P : Program} {w : World} {K : PySem.W.Frag} {mg : Str → Option Value} {base : Heap}
theorem scNa : FnScope ["_law_source_here", "_law_letters", "_law_k"] ["_law_source_here"] (defScope sName) := ⟨rfl, rfl, rfl, by decide +kernel, rfl, by decide +kernel, by decide +kernel⟩
theorem ok_name {f fD : Addr} {fd fdD : FuncData} (F : Fun K "_law_name" "_law_name" sName f fd) (G : Glb mg) (GD : FnOk P w K mg base CX0 1 fD fdD ["_law_source_here", "_law_many"] spDraw) (mgD : mg "_law_draw" = some (.ref fD)) (kpD : PySem.W.keepIn K (.ref fD) = true) (bD : Binds K fdD ["_law_source_here", "_law_many"] []) : FnOk P w K mg base CX0 2 f fd ["_law_source_here"] spName := by
  refine F.ok scNa (fun vs H Q E h => ?_) (fun cdv A outer s H vs Q E hr h => ?_)
  · obtain ⟨p, d, c, n, rfl, _⟩ := h
    rfl
  · obtain ⟨p, d, c, n, rfl, hp, sb, hn, q⟩ := h
    have hr1 : Room 1 _ := hr
    have z9 : 9 < sizeLine := by rw [sizeLine_eq]; decide
    have zl : letters.length ≤ sizeLine := by rw [show letters.length = 26 from by decide +kernel, sizeLine_eq]; decide
    refine ⟨_, (pss_cons (ps_set (i := 1) scNa.nd rfl (Or.inr rfl) pe_str)
      (pss_one (ps_ret (pe_join pe_str (pe_lc (own := [("_law_k", 2)]) (g := gName 2) (by rfl) scNa.nd (pi_range1 rfl G.range (pa_cons (pe_op op_add pe_int (pe_call GD hr1 (by rfl) mgD kpD bD .nil pass0 (pa_cons (pv 0) (pa_cons pe_int pa_nil)))) pa_nil)) (blkOk_by (own := [("_law_k", 2)]) (N := ["_law_source_here", "_law_letters", "_law_k"]) (sc := defScope sName) (by decide +kernel)) (fun _ _ _ _ _ => pg_name (i := 2) scNa.nd rfl (Or.inl rfl)) (fun _ _ _ _ _ => pts_nil) (fun _ _ _ _ _ => pe_ix ix_str (pv 1) (pe_call GD hr1 (by rfl) mgD kpD bD .nil pass0 (pa_cons (pv 0) (pa_cons pe_int pa_nil))) (fun _ _ => rfl))))))), ?_⟩
    refine ⟨⟨_, rfl⟩, _, rfl, p, d, c, n, 8, rfl, hp, sb, by omega, by decide, log_small (by decide) (by decide), fun d1 r1 y1 y2 sb1 => ⟨_, _, rfl, rfl, 1 + r1, rfl, by omega, by omega, fun D hD => ?_⟩⟩
    have x1 := (Dw.refl hp sb).draw sb1
    generalize upd H p (srcO d1 c (n + 1)) = H1 at x1 hD
    have nD : D ≠ p := (ne_of_none x1.src hD).symm
    have hD0 : H D = none := x1.free hD nD
    refine lc_range (lo := 0) (n := (1 + r1).toNat) (fun j H3 => ∃ (ys : List Str) (d4 n4 : Int), Dw H H3 p d4 c n4 ∧ n4 ≤ n + 1 + j ∧ H3 D = some (.lst (ys.map V.str)) ∧ ys.length = j ∧ ∀ y ∈ ys, ∃ c, y = ⟨#[c]⟩ ∧ 97 ≤ c ∧ c ≤ 122) ⟨[], d1, n + 1, x1.set hD0 nD, by omega, upd_same, rfl, fun _ z => nomatch z⟩ ?_ ?_
    · rintro j H3 hj ⟨ys, d4, n4, x4, hn4, h4, hl4, h1⟩
      refine ⟨rfl, ?_⟩
      dsimp only [tYes]
      refine iteT ?_
      refine ⟨_, rfl, _, rfl, p, d4, c, n4, 26, rfl, x4.src, x4.sb, by omega, by decide, log_small (by decide) (by decide), fun d5 r5 y0 y1 sb5 => ?_⟩
      obtain ⟨ch, hch, hch2⟩ := letter_at y0 y1
      have x5 := x4.draw sb5
      refine ⟨_, _, ch, rfl, rfl, zl, hch, ys.map V.str, (by rw [upd_ne nD]; exact h4), (by rw [List.length_map, hl4]; omega), ys ++ [⟨#[ch]⟩], d5, n4 + 1, x5.set hD0 nD, by omega, ?_, by rw [List.length_append, hl4]; rfl, fun y hy => ?_⟩
      · rw [upd_same, List.map_append]; rfl
      · rcases List.mem_append.mp hy with z | z
        · exact h1 y z
        · rw [List.mem_singleton.mp z]; exact ⟨ch, rfl, hch2⟩
    · rintro H3 ⟨ys, d4, n4, x4, hn4, h4, hl4, h1⟩
      have e1 : (ys.map (·.length)).sum = ys.length := by
        clear h4 hl4
        induction ys with
        | nil => rfl
        | cons y r ih =>
          obtain ⟨ch, ey, _⟩ := h1 y (List.mem_cons_self ..)
          rw [List.map_cons, List.sum_cons, ih fun z hz => h1 z (List.mem_cons_of_mem _ hz), ey, List.length_cons]
          exact Nat.add_comm _ _
      refine ⟨_, D, ys, rfl, rfl, .inl (SqL.of h4), ?_, q d4 n4 _ H3 (by omega) (name_of (by omega) (by omega) h1) x4⟩
      rw [e1, show ("" : Str).length = 0 from by decide +kernel]; omega
end
end U

set_option Elab.async false
set_option maxRecDepth 100000
set_option linter.all false
set_option maxHeartbeats 8000000
namespace U
open PySem L2 TL Rl Tb
section
variable {P : Program} {w : World} {K : PySem.W.Frag} {mg : Str → Option Value} {base : Heap}
theorem scTx : FnScope ["_law_row_here", "_law_part"] ["_law_row_here"] (defScope sTextL) := ⟨rfl, rfl, rfl, by decide +kernel, rfl, by decide +kernel, by decide +kernel⟩
theorem ok_text {f : Addr} {fd : FuncData} (F : Fun K "_law_text" "_law_text" sTextL f fd) (G : Glb mg) : FnOk P w K mg base CX0 2 f fd ["_law_row_here"] (spText K) := by
  refine F.ok scTx (fun vs H Q E h => ?_) (fun cdv A outer s H vs Q E hr h => ?_)
  · obtain ⟨a, ps, rfl, _⟩ := h
    rfl
  · obtain ⟨a, ps, rfl, ht, ok, hn, q⟩ := h
    have z9 : 9 < sizeLine := by rw [sizeLine_eq]; decide
    refine ⟨_, (pss_one (ps_ret (pe_join pe_str (pe_lc (own := [("_law_part", 1)]) (g := gName 1) (by rfl) scTx.nd (pi_tup (pv 0)) (blkOk_by (own := [("_law_part", 1)]) (N := ["_law_row_here", "_law_part"]) (sc := defScope sTextL) (by decide +kernel)) (fun _ _ _ _ _ => pg_name (i := 1) scTx.nd rfl (Or.inl rfl)) (fun _ _ _ _ _ => pts_nil) (fun _ _ _ _ _ => pe_callTy call_strSI (by rfl) G.str (by decide +kernel) (pa_cons (pv 1) pa_nil)))))), ?_⟩
    refine ⟨⟨_, rfl⟩, _, rfl, a, rfl, ⟨_, ht⟩, fun D hD => ?_⟩
    refine lc_tup (K := K) (a := a) (xs := ps.map Pt.v) (fun j H2 => Same H H2 ∧ H2 D = some (.lst (((ps.take j).map Pt.s).map V.str))) ⟨sameNew hD, upd_same⟩ ?_ ?_ ?_
    · rintro j H2 _ ⟨sm, _⟩
      exact SqT.same sm ht
    · rintro j x H2 hx ⟨sm, gD⟩
      obtain ⟨p, hp, rfl⟩ : ∃ p, ps[j]? = some p ∧ x = p.v := by
        rw [List.getElem?_map] at hx
        cases e : ps[j]? with
        | none => rw [e] at hx; cases hx
        | some a => rw [e] at hx; exact ⟨a, rfl, (Option.some.inj hx).symm⟩
      have hj : j < ps.length := (List.getElem?_eq_some_iff.mp hp).1
      have op := ok p (List.mem_of_getElem? hp)
      have fin : ∃ acc, H2 D = some (.lst acc) ∧ acc.length < sizeLine ∧ Same H (upd H2 D (.lst (acc ++ [.str p.s]))) ∧ (upd H2 D (.lst (acc ++ [.str p.s]))) D = some (.lst (((ps.take (j + 1)).map Pt.s).map V.str)) := by
        refine ⟨_, gD, ?_, fun b o e => ?_, ?_⟩
        · rw [List.length_map, List.length_map, List.length_take]; omega
        · rw [upd_ne (ne_of_none e hD)]; exact sm _ _ e
        · rw [upd_same, List.take_succ, hp, List.map_append, List.map_append]; rfl
      cases p with
      | nm s =>
        refine ⟨rfl, ?_⟩
        dsimp only [tYes]
        exact iteT ⟨_, rfl, .inr ⟨s, rfl, fin⟩⟩
      | nu n =>
        refine ⟨rfl, ?_⟩
        dsimp only [tYes]
        exact iteT ⟨_, rfl, .inl ⟨n, rfl, small_log op, fin⟩⟩
    · rintro H2 ⟨sm, gD⟩
      rw [List.length_map, List.take_length] at gD
      refine ⟨_, D, ps.map Pt.s, rfl, rfl, .inl (SqL.of gD), ?_, q H2 sm⟩
      have a1 := sum_len ok
      rw [show (" " : Str).length = 1 from by decide +kernel, List.length_map]
      omega
end
end U

set_option Elab.async false
set_option maxRecDepth 100000
set_option linter.all false
set_option maxHeartbeats 8000000
namespace U
open PySem L2 TL Rl Tb
@[irreducible] def tWds : TE := tStrs ["set", "add", "cas", "swap", "take", "if", "load", "wait", "still", "wake", "move"]
theorem pe_wds {X : Cx} {e : Expr} (h : PE X e (tStrs ["set", "add", "cas", "swap", "take", "if", "load", "wait", "still", "wake", "move"])) : PE X e tWds := by unfold tWds; exact h
theorem tWds_ok {σ : L2.St} {H : Hp} {Q : VK} (q : ∀ l, H l = none → Q (.ref l) (upd H l (.lst (formsL.map fun p => V.str p.1)))) : tWds σ H Q := by
  unfold tWds
  exact ⟨by show 11 ≤ sizeLine; rw [sizeLine_eq]; decide, fun l hl => q l hl⟩
section
variable {P : Program} {w : World} {K : PySem.W.Frag} {mg : Str → Option Value} {base : Heap}
theorem scRw : FnScope ["_law_source_here", "_law_words_here", "_law_row_here", "_law_letter"] ["_law_source_here"] (defScope sRow) := ⟨rfl, rfl, rfl, by decide +kernel, rfl, by decide +kernel, by decide +kernel⟩
theorem ok_rowL {f fD fF fN fM : Addr} {fd fdD fdF fdN fdM : FuncData} (F : Fun K "_law_row" "_law_row" sRow f fd) (G : Glb mg) (GD : FnOk P w K mg base CX0 1 fD fdD ["_law_source_here", "_law_many"] spDraw) (mgD : mg "_law_draw" = some (.ref fD)) (kpD : PySem.W.keepIn K (.ref fD) = true) (bD : Binds K fdD ["_law_source_here", "_law_many"] [])
    (GF : FnOk P w K mg base CX0 2 fF fdF ["_law_word"] spForm) (mgF : mg "_law_form" = some (.ref fF)) (kpF : PySem.W.keepIn K (.ref fF) = true) (bF : Binds K fdF ["_law_word"] [])
    (GN : FnOk P w K mg base CX0 2 fN fdN ["_law_source_here"] spName) (mgN : mg "_law_name" = some (.ref fN)) (kpN : PySem.W.keepIn K (.ref fN) = true) (bN : Binds K fdN ["_law_source_here"] [])
    (GM : FnOk P w K mg base CX0 3 fM fdM ["_law_source_here"] spNumber) (mgM : mg "_law_number" = some (.ref fM)) (kpM : PySem.W.keepIn K (.ref fM) = true) (bM : Binds K fdM ["_law_source_here"] []) :
    FnOk P w K mg base CX0 4 f fd ["_law_source_here"] spRowL := by
  refine F.ok scRw (fun vs H Q E h => ?_) (fun cdv A outer s H vs Q E hr h => ?_)
  · obtain ⟨p, d, c, n, rfl, _⟩ := h
    rfl
  · obtain ⟨p, d, c, n, rfl, hp, sb, hn, q⟩ := h
    have hr3 : Room 3 _ := hr
    have hr2 : Room 2 _ := hr.mono (by decide)
    have hr1 : Room 1 _ := hr.mono (by decide)
    have z20 : 20 < sizeLine := by rw [sizeLine_eq]; decide
    have pa_cons := @pa_cons
    have pa_nil := @pa_nil
    have pe_bm := @pe_bm
    have pe_call := @pe_call
    have pe_callTy := @pe_callTy
    have pe_int := @pe_int
    have pe_ix := @pe_ix
    have pe_lst := @pe_lst
    have pe_str := @pe_str
    have pe_strs11 := @pe_strs11
    have pe_wds := @pe_wds
    have pg_name := @pg_name
    have pi_str := @pi_str
    have ps_expr := @ps_expr
    have ps_for := @ps_for
    have ps_if := @ps_if
    have ps_ret := @ps_ret
    have ps_set := @ps_set
    have pss_cons := @pss_cons
    have pss_cut := @pss_cut
    have pss_one := @pss_one
    have pt_cmpR := @pt_cmpR
    have pv := @pv
    revert pa_cons pa_nil pe_bm pe_call pe_callTy pe_int pe_ix pe_lst pe_str pe_strs11 pe_wds pg_name pi_str ps_expr ps_for ps_if ps_ret ps_set pss_cons pss_cut pss_one pt_cmpR pv
    generalize @L2.PS = vPS
    generalize @L2.PSs = vPSs
    generalize @L2.PE = vPE
    generalize @L2.PT = vPT
    generalize @L2.PW = vPW
    generalize @L2.PA = vPA
    generalize @L2.PG = vPG
    generalize @L2.PI = vPI
    generalize @L2.PO = vPO
    generalize @L2.PTs = vPTs
    generalize @L2.PPs = vPPs
    generalize @L2.PGs = vPGs
    intro pa_cons pa_nil pe_bm pe_call pe_callTy pe_int pe_ix pe_lst pe_str pe_strs11 pe_wds pg_name pi_str ps_expr ps_for ps_if ps_ret ps_set pss_cons pss_cut pss_one pt_cmpR pv
    refine ⟨_, (pss_cons (ps_set (i := 1) scRw.nd rfl (Or.inl rfl) (pe_wds pe_strs11))
      (pss_cons (ps_set (i := 2) scRw.nd rfl (Or.inl rfl) (pe_lst (pa_cons (pe_ix ix_list (pv 1) (pe_call GD hr1 (by rfl) mgD kpD bD .nil pass0 (pa_cons (pv 0) (pa_cons pe_int pa_nil))) (fun _ _ => rfl)) pa_nil)))
      (pss_cut (ps_for PassesOwn.never rfl (pi_str (pe_call GF hr2 (by rfl) mgF kpF bF .nil pass0 (pa_cons (pe_ix ix_list (pv 2) pe_int (fun _ _ => rfl)) pa_nil))) (pg_name (i := 3) scRw.nd rfl (Or.inl rfl))
        (pss_one (ps_if (pt_cmpR op_eq (pv 3) pe_str (nomark _)) (pss_one (ps_expr (pe_bm PySem.F.plainAttrs_list PySem.F.slot_list_append PySem.F.type_list_append mt_append (pv 2) (pa_cons (pe_call GN hr2 (by rfl) mgN kpN bN .nil pass0 (pa_cons (pv 0) pa_nil)) pa_nil))))
          (pss_one (ps_expr (pe_bm PySem.F.plainAttrs_list PySem.F.slot_list_append PySem.F.type_list_append mt_append (pv 2) (pa_cons (pe_call GM hr3 (by rfl) mgM kpM bM .nil pass0 (pa_cons (pv 0) pa_nil)) pa_nil)))))))
      (pss_one (ps_ret (pe_callTy call_tuple_of (by rfl) G.tuple (by decide +kernel) (pa_cons (pv 2) pa_nil))))))), ?_⟩
    refine tWds_ok fun l hl => ?_
    have x0 := (Dw.refl hp sb).new (o := .lst (formsL.map fun p => V.str p.1)) hl
    have gl : (upd H l (.lst (formsL.map fun p => V.str p.1))) l = some (.lst (formsL.map fun p => V.str p.1)) := upd_same
    have nl : l ≠ p := (ne_of_none hp hl).symm
    generalize upd H l (.lst (formsL.map fun p => V.str p.1)) = H1 at x0 gl
    refine ⟨_, rfl, _, rfl, p, d, c, n, 11, rfl, x0.src, x0.sb, by omega, by decide, log_small (by decide) (by decide), fun d1 r1 y1 y2 sb1 => ?_⟩
    have x1 := x0.draw sb1
    have gl1 : (upd H1 p (srcO d1 c (n + 1))) l = some (.lst (formsL.map fun p => V.str p.1)) := by rw [upd_ne nl]; exact gl
    generalize upd H1 p (srcO d1 c (n + 1)) = H2 at x1 gl1
    obtain ⟨w0, fs, hw, hat⟩ := word_at y1 y2
    obtain ⟨hwn, hfl, hasc, ks, hks, hkf⟩ := RowOk.form hw
    refine ⟨l, _, _, _, rfl, rfl, SqL.of gl1, hat, (by show 1 ≤ sizeLine; omega), fun l2 hl2 => ?_⟩
    have nl2 : l2 ≠ p := (ne_of_none x1.src hl2).symm
    have hl20 : H l2 = none := x1.free hl2 nl2
    have x2 := x1.new (o := .lst [.str w0]) hl2
    have g2 : (upd H2 l2 (.lst [.str w0])) l2 = some (.lst [.str w0]) := upd_same
    generalize upd H2 l2 (.lst [.str w0]) = H3 at x2 g2
    refine ⟨fun σ' H' => ∃ v3 ps d3 n3, σ' = [some (.ref p), some (.ref l), some (.ref l2), v3] ∧ Dw H H' p d3 c n3 ∧ n3 ≤ n + 60 ∧ RowOk w0 fs ps ∧ H' l2 = some (.lst ((Pt.nm w0 :: ps).map Pt.v)), ?_, ?_⟩
    · refine ⟨_, rfl, l2, _, _, _, rfl, rfl, SqL.of g2, atI_nat (j := 0) rfl, w0, fs, rfl, hw, fun H4 sm => ?_⟩
      refine ⟨fs, rfl, for_str (z := fs) (fun i σ' H' => ∃ v3 ps d3 n3, σ' = [some (.ref p), some (.ref l), some (.ref l2), v3] ∧ Dw H H' p d3 c n3 ∧ n3 ≤ n + 1 + 10 * i ∧ Paired lt ((tl fs).take i) ps ∧ (∀ p ∈ ps, p.ok) ∧ H' l2 = some (.lst ((Pt.nm w0 :: ps).map Pt.v))) ⟨none, [], d1, n + 1, rfl, x2.sm sm, by omega, .nil, (fun _ z => nomatch z), sm _ _ g2⟩ ?_ ?_⟩
      · rintro i ch _ H4 hc ⟨v3, ps, d3, n3, rfl, x4, hn4, pr, ok, g4⟩
        have hi : i < (tl fs).length := (List.getElem?_eq_some_iff.mp hc).1
        have lp : ps.length ≤ 5 := by
          rw [← paired_length pr, List.length_take]; omega
        refine ⟨_, rfl, rfl, _, rfl, ?_⟩
        rcases kf_mem hkf ch (List.mem_of_getElem? hc) with e | e
        · subst e
          refine iteT' (decide_eq_true ((one_of tl_r).mpr rfl)) ?_
          refine ⟨_, rfl, .inl ⟨rfl, _, SqL.of g4⟩, _, rfl, p, d3, c, n3, rfl, x4.src, x4.sb, by omega, fun d5 n5 s5 H5 hn5 hs5 x5 => ?_⟩
          have g5 := x5.k _ _ g4 nl2
          refine ⟨l2, _, _, rfl, rfl, g5, (by rw [List.length_map, List.length_cons]; omega), ?_⟩
          refine ⟨_, ps ++ [Pt.nm s5], d5, n5, rfl, (x4.trans x5).set hl20 nl2, by omega, ?_, fun z hz => ?_, ?_⟩
          · rw [List.take_succ, hc]
            exact paired_add pr rfl
          · rcases List.mem_append.mp hz with hz | hz
            · exact ok z hz
            · rw [List.mem_singleton.mp hz]; exact hs5
          · rw [upd_same, ← List.cons_append, List.map_append]; rfl
        · subst e
          refine iteF' (decide_eq_false fun z => by have := (one_of tl_r).mp z; omega) ?_
          refine ⟨_, rfl, .inl ⟨rfl, _, SqL.of g4⟩, _, rfl, p, d3, c, n3, rfl, x4.src, x4.sb, by omega, fun d5 n5 s5 H5 hn5 r0 r1 x5 => ?_⟩
          have g5 := x5.k _ _ g4 nl2
          refine ⟨l2, _, _, rfl, rfl, g5, (by rw [List.length_map, List.length_cons]; omega), ?_⟩
          refine ⟨_, ps ++ [Pt.nu s5], d5, n5, rfl, (x4.trans x5).set hl20 nl2, by omega, ?_, fun z hz => ?_, ?_⟩
          · rw [List.take_succ, hc]
            exact paired_add pr rfl
          · rcases List.mem_append.mp hz with hz | hz
            · exact ok z hz
            · rw [List.mem_singleton.mp hz]; exact (by show s5.natAbs < 10 ^ 60; omega)
          · rw [upd_same, ← List.cons_append, List.map_append]; rfl
      · rintro _ H4 ⟨v3, ps, d3, n3, rfl, x4, hn4, pr, ok, g4⟩
        rw [List.take_length] at pr
        have hfl' : fs.cps.toList.length ≤ 5 := hfl
        exact ⟨v3, ps, d3, n3, rfl, x4, by omega, ⟨hw, pr, ok⟩, g4⟩
    rintro _ H4 ⟨v3, ps, d3, n3, rfl, x4, hn4, ro, g4⟩
    refine ⟨_, rfl, l2, _, rfl, .inl ⟨SqL.of g4, fun t ht => ?_⟩⟩
    exact q d3 n3 t w0 fs ps _ (by omega) ro (x4.new ht) upd_same
end
end U

set_option Elab.async false
set_option maxRecDepth 100000
set_option linter.all false
set_option maxHeartbeats 8000000
namespace U
open PySem L2 TL Rl Tb Zp
theorem K2.seqL {K : PySem.W.Frag} {Pn Pf a : Addr} {H H' : Hp} {xs : List V} (t : TT H Pn Pf) (k : K2 Pn Pf H H') (h : SqL K H a xs) : SqL K H' a xs := by
  rcases h with (h | ⟨u, h⟩) | h
  · have := t.nn h (by intro p z; cases z)
    exact .inl (.inl (k _ _ h this.1 this.2))
  · have := t.nn h (by intro p z; cases z)
    exact .inl (.inr ⟨u, k _ _ h this.1 this.2⟩)
  · exact .inr h
theorem RowOk.split {w fs : Str} {ps : List Pt} (r : RowOk w fs ps) : Txt.split (Txt.join " " ((Pt.nm w :: ps).map Pt.s)) " " = (Pt.nm w :: ps).map Pt.s := by
  refine split_join tl_blank (by decide +kernel) (by simp) ?_
  intro p hp
  obtain ⟨q, hq, rfl⟩ := List.mem_map.mp hp
  exact Pt.free (r.all q hq)
/-- a source of draws is no table: both tables stay -/
theorem TT.draw {Pn Pf p : Addr} {H H' : Hp} {d c n d' n' : Int} (t : TT H Pn Pf) (g : H p = some (srcO d c n)) (x : Dw H H' p d' c n') : TT H' Pn Pf := ⟨LamT.keep t.n fun b o e z => x.k b o e (ne_of e g (by rcases z with ⟨ps, rfl⟩ | ⟨φ, rfl⟩ <;> intro z <;> cases z)), LamT.keep t.f fun b o e z => x.k b o e (ne_of e g (by rcases z with ⟨ps, rfl⟩ | ⟨φ, rfl⟩ <;> intro z <;> cases z)), t.ne⟩
section
variable {P : Program} {w : World} {K : PySem.W.Frag} {mg : Str → Option Value} {base : Heap}
theorem scLaw : FnScope ["_law_script", "_law_k", "_law_source_here", "_law_text_here", "_law_due_here", "_law_turn", "_law_how", "_law_found"] ["_law_script"] (defScope sLaw) := ⟨rfl, rfl, rfl, by decide +kernel, rfl, by decide +kernel, by decide +kernel⟩
theorem ok_law {Pn Pf f fS fR fT fSp fDu fM fA : Addr} {fd fdS fdR fdT fdSp fdDu fdM fdA : FuncData} (F : Fun K "law" "law" sLaw f fd) (G : Glb mg)
    (GS : FnOk P w K mg base CX0 1 fS fdS ["_law_script", "_law_k"] (spSource K)) (mgS : mg "_law_source" = some (.ref fS)) (kpS : PySem.W.keepIn K (.ref fS) = true) (bS : Binds K fdS ["_law_script", "_law_k"] [])
    (GR : FnOk P w K mg base CX0 4 fR fdR ["_law_source_here"] spRowL) (mgR : mg "_law_row" = some (.ref fR)) (kpR : PySem.W.keepIn K (.ref fR) = true) (bR : Binds K fdR ["_law_source_here"] [])
    (GT : FnOk P w K mg base CX0 2 fT fdT ["_law_row_here"] (spText K)) (mgT : mg "_law_text" = some (.ref fT)) (kpT : PySem.W.keepIn K (.ref fT) = true) (bT : Binds K fdT ["_law_row_here"] [])
    (GSp : FnOk P w K mg base CX0 3 fSp fdSp ["_law_source_here", "_law_text_here"] spSpoil) (mgSp : mg "_law_spoilt" = some (.ref fSp)) (kpSp : PySem.W.keepIn K (.ref fSp) = true) (bSp : Binds K fdSp ["_law_source_here", "_law_text_here"] [])
    (GDu : FnOk P w K mg base CX0 3 fDu fdDu ["_law_text_here"] spDue) (mgDu : mg "_law_due" = some (.ref fDu)) (kpDu : PySem.W.keepIn K (.ref fDu) = true) (bDu : Binds K fdDu ["_law_text_here"] [])
    (GM : FnOk P w K mg base CX0 3 fM fdM ["_law_found", "_law_row_here"] (spSame K)) (mgM : mg "_law_same" = some (.ref fM)) (kpM : PySem.W.keepIn K (.ref fM) = true) (bM : Binds K fdM ["_law_found", "_law_row_here"] [])
    (GA : FnOk P w K mg base CX0 7 fA fdA ["_law_text_here"] (spAsked Pn Pf)) (mgA : mg "_law_asked" = some (.ref fA)) (kpA : PySem.W.keepIn K (.ref fA) = true) (bA : Binds K fdA ["_law_text_here"] []) :
    FnOk P w K mg base CX0 8 f fd ["_law_script"] (spLaw K Pn Pf) := by
  refine F.ok scLaw (fun vs H Q E h => ?_) (fun cdv A outer s H vs Q E hr h => ?_)
  · obtain ⟨a, ns, rfl, _⟩ := h
    rfl
  · obtain ⟨a, ns, rfl, hS, hlen, hn, hf, nnf, q⟩ := h
    have hr7 : Room 7 _ := hr
    have hr4 : Room 4 _ := hr.mono (by decide)
    have hr3 : Room 3 _ := hr.mono (by decide)
    have hr2 : Room 2 _ := hr.mono (by decide)
    have hr1 : Room 1 _ := hr.mono (by decide)
    have PWpt := @PW.pt
    have pa_cons := @pa_cons
    have pa_nil := @pa_nil
    have pe_bl := @pe_bl
    have pe_call := @pe_call
    have pe_callB := @pe_callB
    have pe_int := @pe_int
    have pe_non := @pe_non
    have pe_str := @pe_str
    have pg_name := @pg_name
    have pg_tup := @pg_tup
    have pgs_cons := @pgs_cons
    have pgs_nil := @pgs_nil
    have pi_range1 := @pi_range1
    have ps_asg := @ps_asg
    have ps_for := @ps_for
    have ps_if := @ps_if
    have ps_ret := @ps_ret
    have ps_set := @ps_set
    have pss_cons := @pss_cons
    have pss_cut := @pss_cut
    have pss_nil := @pss_nil
    have pss_one := @pss_one
    have pt_cmpR := @pt_cmpR
    have pt_not := @pt_not
    have pt_val := @pt_val
    have pv := @pv
    have pw_and := @pw_and
    have pw_and1 := @pw_and1
    have pw_or := @pw_or
    have pw_or1 := @pw_or1
    revert PWpt pa_cons pa_nil pe_bl pe_call pe_callB pe_int pe_non pe_str pg_name pg_tup pgs_cons pgs_nil pi_range1 ps_asg ps_for ps_if ps_ret ps_set pss_cons pss_cut pss_nil pss_one pt_cmpR pt_not pt_val pv pw_and pw_and1 pw_or pw_or1
    generalize @L2.PS = vPS
    generalize @L2.PSs = vPSs
    generalize @L2.PE = vPE
    generalize @L2.PT = vPT
    generalize @L2.PW = vPW
    generalize @L2.PC = vPC
    generalize @L2.PA = vPA
    generalize @L2.PG = vPG
    generalize @L2.PI = vPI
    generalize @L2.PO = vPO
    generalize @L2.PTs = vPTs
    generalize @L2.PPs = vPPs
    generalize @L2.PGs = vPGs
    generalize @L2.PK = vPK
    intro PWpt pa_cons pa_nil pe_bl pe_call pe_callB pe_int pe_non pe_str pg_name pg_tup pgs_cons pgs_nil pi_range1 ps_asg ps_for ps_if ps_ret ps_set pss_cons pss_cut pss_nil pss_one pt_cmpR pt_not pt_val pv pw_and pw_and1 pw_or pw_or1
    refine ⟨_, (pss_cut (ps_for PassesOwn.never rfl (pi_range1 rfl G.range (pa_cons (pe_callB (call_max2 rfl) (by rfl) G.max (by decide +kernel) (pa_cons pe_int (pa_cons (pe_callB (call_min2 rfl) (by rfl) G.min (by decide +kernel) (pa_cons pe_int (pa_cons (pe_callB call_len_seq (by rfl) G.len PySem.boot_len (pa_cons (pv 0) pa_nil)) pa_nil))) pa_nil))) pa_nil)) (pg_name (i := 1) scLaw.nd rfl (Or.inl rfl))
      (pss_cons (ps_set (i := 2) scLaw.nd rfl (Or.inl rfl) (pe_call GS hr1 (by rfl) mgS kpS bS .nil pass0 (pa_cons (pv 0) (pa_cons (pv 1) pa_nil))))
      (pss_cons (ps_set (i := 3) scLaw.nd rfl (Or.inl rfl) (pe_call GSp hr3 (by rfl) mgSp kpSp bSp .nil pass0 (pa_cons (pv 2) (pa_cons (pe_call GT hr2 (by rfl) mgT kpT bT .nil pass0 (pa_cons (pe_call GR hr4 (by rfl) mgR kpR bR .nil pass0 (pa_cons (pv 2) pa_nil)) pa_nil)) pa_nil))))
      (pss_cons (ps_set (i := 4) scLaw.nd rfl (Or.inl rfl) (pe_call GDu hr3 (by rfl) mgDu kpDu bDu .nil pass0 (pa_cons (pv 3) pa_nil)))
      (pss_one (ps_for PassesOwn.never rfl (pi_range1 rfl G.range (pa_cons pe_int pa_nil)) (pg_name (i := 5) scLaw.nd rfl (Or.inl rfl))
        (pss_cons (ps_asg (pe_call GA hr7 (by rfl) mgA kpA bA .nil pass0 (pa_cons (pv 3) pa_nil)) (pg_tup rfl (pgs_cons (pg_name (i := 6) scLaw.nd rfl (Or.inl rfl)) (pgs_cons (pg_name (i := 7) scLaw.nd rfl (Or.inl rfl)) pgs_nil))))
        (pss_cons (ps_if (PWpt (pw_and (pt_cmpR op_isN (pv 4) pe_non (nomark _)) (pw_and1 (PWpt (pw_or (pt_cmpR op_ne (pv 6) pe_str (nomark _)) (pw_or1 (pt_cmpR op_ne (pv 7) (pv 3) (nomark _)))))))) (pss_one (ps_ret pe_bl)) pss_nil)
        (pss_one (ps_if (PWpt (pw_and (pt_cmpR op_notN (pv 4) pe_non (nomark _)) (pw_and1 (PWpt (pw_or (pt_cmpR op_ne (pv 6) pe_str (nomark _)) (pw_or1 (pt_not (pt_val (pe_call GM hr3 (by rfl) mgM kpM bM .nil pass0 (pa_cons (pv 7) (pa_cons (pv 4) pa_nil))))))))))) (pss_one (ps_ret pe_bl)) pss_nil))))))))))
      (pss_one (ps_ret pe_bl))), ?_⟩
    have T0 : TT H Pn Pf := ⟨.inl hn, .inl hf, nnf⟩
    refine ⟨fun _ _ => True, ?_, fun _ H1 _ => q H1⟩
    refine ⟨_, rfl, a, _, rfl, .inl hS, _, _, rfl, _, _, rfl, ?_⟩
    obtain ⟨hi, ehi, h1, h40⟩ : ∃ hi : Int, hi = (if (if ((ns.map V.int).length : Int) < (40 : Int) then ((ns.map V.int).length : Int) else (40 : Int)) > 1 then (if ((ns.map V.int).length : Int) < (40 : Int) then ((ns.map V.int).length : Int) else (40 : Int)) else 1) ∧ 1 ≤ hi ∧ hi ≤ 40 := ⟨_, rfl, by split <;> omega, by split <;> (try split) <;> omega⟩
    rw [← ehi]
    refine ⟨hi, rfl, by omega, by omega, for_range (lo := 0) (n := hi.toNat) (fun i σ' H' => (∃ v1 v2 v3 v4 v5 v6 v7, σ' = [some (.ref a), v1, v2, v3, v4, v5, v6, v7]) ∧ K2 Pn Pf H H' ∧ TT H' Pn Pf) ⟨⟨_, _, _, _, _, _, _, rfl⟩, fun _ _ e _ _ => e, T0⟩ ?_ fun _ _ _ => trivial⟩
    rintro i _ H1 hii ⟨⟨v1, v2, v3, v4, v5, v6, v7, rfl⟩, k1, t1⟩
    refine ⟨_, rfl, _, rfl, a, ns, _, rfl, K2.seqL T0 k1 hS, hlen, by omega, by omega, fun p d c hp sb => ?_⟩
    have s2 := sameNew (o := srcO d c 0) hp
    have t2 := t1.same s2
    have g2 : (upd H1 p (srcO d c 0)) p = some (srcO d c 0) := upd_same
    generalize upd H1 p (srcO d c 0) = H2 at s2 t2 g2
    have k2 : ∀ {H' : Hp} {d' n' : Int}, Dw H2 H' p d' c n' → K2 Pn Pf H H' := fun {H' d' n'} x b o e n1 n2 => x.k b o (s2 _ _ (k1 b o e n1 n2)) (ne_of_none (k1 b o e n1 n2) hp)
    refine ⟨_, rfl, _, rfl, p, d, c, 0, rfl, g2, sb, by decide, fun d' n' r w0 fs ps H3 hn' ro x3 g3 => ?_⟩
    have lp : (Pt.nm w0 :: ps).length ≤ 8 := by
      have := ro.len
      rw [List.length_cons]; omega
    have zs := sum_len ro.all
    have zj := join_small (ys := (Pt.nm w0 :: ps).map Pt.s)
    rw [List.length_map] at zj
    refine ⟨r, Pt.nm w0 :: ps, rfl, SqT.of g3, ro.all, lp, fun H4 s4 => ?_⟩
    have x4 := x3.sm s4
    have wp : Ws 8 ((Pt.nm w0 :: ps).map Pt.s) := ⟨by rw [List.length_map]; exact lp, fun y hy => by
      obtain ⟨z, hz, rfl⟩ := List.mem_map.mp hy
      exact Nat.le_succ_of_le (Pt.len (ro.all z hz))⟩
    refine ⟨p, d', c, n', _, (Pt.nm w0 :: ps).map Pt.s, rfl, x4.src, x4.sb, by omega, by omega, ro.split, by rw [List.length_map, List.length_cons]; omega, wp, fun d5 n5 t5 H5 hn5 ht5 y5 => ?_⟩
    have x5 := x4.trans y5
    have t5' := t2.draw g2 x5
    refine ⟨_, rfl, t5, rfl, by omega, fun v H6 s6 hv => ?_⟩
    have k6 := (k2 x5).trans (K2.of (Pn := Pn) (Pf := Pf) s6)
    have t6 := t5'.same s6
    refine ⟨2, rfl, by decide, by decide, for_range (lo := 0) (n := 2) (fun i' σ' H' => (∃ v5 v6 v7, σ' = [some (.ref a), some (.int (0 + (i : Int))), some (.ref p), some (.str t5), some v, v5, v6, v7]) ∧ K2 Pn Pf H H' ∧ TT H' Pn Pf ∧ ((rowV t5 = none ∧ v = .non) ∨ ∃ dd xs, rowV t5 = some xs ∧ v = .ref dd ∧ H' dd = some (.tup xs))) ⟨⟨_, _, _, rfl⟩, k6, t6, hv⟩ ?_ ?_⟩
    · rintro j _ H7 hj ⟨⟨u5, u6, u7, rfl⟩, k7, t7, hv7⟩
      refine ⟨_, rfl, t5, rfl, by omega, t7, fun tt H8 k8 t8 hs => ?_⟩
      have k08 := k7.trans k8
      rcases hs with ⟨e, gt⟩ | ⟨r2, xs, e, gr, gt⟩
      · refine ⟨tt, _, rfl, SqT.of gt, rfl, _, _, rfl, _, _, rfl, rfl, ?_⟩
        rcases hv7 with ⟨_, rfl⟩ | ⟨dd, xs, e', _⟩
        · refine ⟨_, rfl, rfl, _, rfl, iteT' (decide_eq_true rfl) ?_⟩
          refine ⟨_, rfl, rfl, _, rfl, iteF' (by rw [decide_eq_true rfl]; rfl) ?_⟩
          refine ⟨_, rfl, _, rfl, rfl, _, rfl, iteF' (by rw [decide_eq_true rfl]; rfl) ?_⟩
          exact ⟨_, rfl, rfl, _, rfl, iteF' (by rw [decide_eq_true rfl]; rfl) (iteF ⟨⟨_, _, _, rfl⟩, k08, t8, .inl ⟨e, rfl⟩⟩)⟩
        · rw [e] at e'; cases e'
      · refine ⟨tt, _, rfl, SqT.of gt, rfl, _, _, rfl, _, _, rfl, rfl, ?_⟩
        rcases hv7 with ⟨e', _⟩ | ⟨dd, ys, e', rfl, gd⟩
        · rw [e] at e'; cases e'
        · rw [e] at e'
          obtain rfl := Option.some.inj e'
          have nd := t7.nn gd (by intro p z; cases z)
          have gd8 := k8 _ _ gd nd.1 nd.2
          refine ⟨_, rfl, rfl, _, rfl, iteF' (decide_eq_false (fun z => by cases z)) (iteF ?_)⟩
          refine ⟨_, rfl, rfl, _, rfl, iteT' (by rw [decide_eq_false (fun z => by cases z)]; rfl) ?_⟩
          refine ⟨_, rfl, rfl, _, rfl, iteF' (by rw [decide_eq_true rfl]; rfl) ?_⟩
          refine ⟨_, rfl, _, rfl, r2, dd, t5, xs, rfl, e, gr, gd8, fun H9 s9 => ⟨_, rfl, iteF ?_⟩⟩
          exact ⟨⟨_, _, _, rfl⟩, k08.trans (K2.of s9), t8.same s9, .inr ⟨dd, xs, e, rfl, s9 _ _ gd8⟩⟩
    · rintro _ H7 ⟨⟨u5, u6, u7, rfl⟩, k7, t7, _⟩
      exact ⟨⟨_, _, _, _, _, _, _, rfl⟩, k7, t7⟩
end
end U

set_option Elab.async false
set_option maxRecDepth 100000
set_option linter.all false
set_option maxHeartbeats 8000000
namespace U
open PySem L2 TL Rl Tb
section
variable {P : Program} {w : World} {K : PySem.W.Frag} {mg : Str → Option Value} {base : Heap}
theorem scDraw : FnScope ["_law_source_here", "_law_many", "_law_digit", "_law_seed"] ["_law_source_here", "_law_many"] (defScope sDraw) := ⟨rfl, rfl, rfl, by decide +kernel, rfl, by decide +kernel, by decide +kernel⟩
theorem at0 (a b c : V) : atI [a, b, c] (0 : Int) = some a := atI_nat (j := 0) rfl
theorem at1 (a b c : V) : atI [a, b, c] (1 : Int) = some b := atI_nat (j := 1) rfl
theorem at2 (a b c : V) : atI [a, b, c] (2 : Int) = some c := atI_nat (j := 2) rfl
theorem pow_small {c n : Int} (h0 : 0 ≤ c) (h1 : c ≤ 10000000000) (h2 : 0 ≤ n) (h3 : n ≤ 100001) : (c + 7919 * n).natAbs < 2 ^ 64 := by
  have : (2 : Nat) ^ 64 = 18446744073709551616 := by decide
  omega
theorem ok_draw {f : Addr} {fd : FuncData} (F : Fun K "_law_draw" "_law_draw" sDraw f fd) : FnOk P w K mg base CX0 1 f fd ["_law_source_here", "_law_many"] spDraw := by
  refine F.ok scDraw (fun vs H Q E h => ?_) (fun cdv A outer s H vs Q E hr h => ?_)
  · obtain ⟨p, d, c, n, m, rfl, _⟩ := h
    rfl
  · obtain ⟨p, d, c, n, m, rfl, hp, sb, hn, hm, hl, q⟩ := h
    obtain ⟨d0, c0, c1, n0⟩ := id sb
    refine ⟨_, (pss_cons (ps_asg (pe_op op_add (pe_ix ix_list (pv 0) pe_int (fun _ _ => rfl)) pe_int) (pg_sub (pv 0) pe_int set_list))
      (pss_cons (ps_if (pt_cmpR op_gt (pe_ix ix_list (pv 0) pe_int (fun _ _ => rfl)) pe_int (nomark _)) (pss_cons (ps_set (i := 2) scDraw.nd rfl (Or.inl rfl) (pe_op op_mod (pe_ix ix_list (pv 0) pe_int (fun _ _ => rfl)) (pv 1)))
      (pss_cons (ps_asg (pe_op op_fdivL (pe_ix ix_list (pv 0) pe_int (fun _ _ => rfl)) (pv 1)) (pg_sub (pv 0) pe_int set_list))
      (pss_one (ps_ret (pv 2))))) pss_nil)
      (pss_cons (ps_set (i := 3) scDraw.nd rfl (Or.inl rfl) (pe_op op_mod (pe_op op_pow (pe_op op_add (pe_ix ix_list (pv 0) pe_int (fun _ _ => rfl)) (pe_op op_mul pe_int (pe_ix ix_list (pv 0) pe_int (fun _ _ => rfl)))) pe_int) pe_int))
      (pss_one (ps_ret (pe_op op_mod (pe_op op_fdiv (pe_op op_mod (pe_op op_mul (pe_op op_add (pv 3) (pe_ix ix_list (pv 0) pe_int (fun _ _ => rfl))) pe_int) pe_int) pe_int) (pv 1))))))), ?_⟩
    have h1 : (upd H p (srcO d c (n + 1))) p = some (srcO d c (n + 1)) := upd_same
    refine ⟨_, rfl, _, _, _, _, rfl, rfl, SqL.of hp, at2 _ _ _, _, _, rfl, rfl, _, rfl, p, _, _, 2, rfl, rfl, hp, rfl, ?_⟩
    show tSeq _ _ _ _ (upd H p (srcO d c (n + 1)))
    refine ⟨_, rfl, _, _, _, _, rfl, rfl, SqL.of h1, at0 _ _ _, _, _, rfl, rfl, _, rfl, ?_⟩
    refine ite2 (fun hd => ?_) (fun hd => ?_)
    · have r0 := Int.emod_nonneg d (show m ≠ 0 by omega)
      have r1 := Int.emod_lt_of_pos d hm
      refine ⟨_, rfl, _, _, _, _, rfl, rfl, SqL.of h1, at0 _ _ _, _, rfl, _, _, rfl, rfl, hm, ?_⟩
      refine ⟨_, rfl, _, _, _, _, rfl, rfl, SqL.of h1, at0 _ _ _, _, rfl, _, _, rfl, rfl, ⟨hm, hl⟩, _, rfl, p, _, _, 0, rfl, rfl, h1, rfl, _, rfl, ?_⟩
      have e : upd (upd H p (srcO d c (n + 1))) p (srcO (d / m) c (n + 1)) = upd H p (srcO (d / m) c (n + 1)) := upd_upd
      show Q (V.int (d % m)) (upd (upd H p (srcO d c (n + 1))) p (srcO (d / m) c (n + 1)))
      rw [e]
      exact q _ _ r0 r1 ⟨Int.ediv_nonneg d0 (Int.le_of_lt hm), c0, c1, by omega⟩
    · refine ⟨_, rfl, _, _, _, _, rfl, rfl, SqL.of h1, at1 _ _ _, _, rfl, _, _, _, _, rfl, rfl, SqL.of h1, at2 _ _ _, _, _, rfl, rfl, .inl ⟨by decide, by decide⟩, _, _, rfl, rfl, _, _, rfl, rfl, ⟨by decide, by decide, pow_small c0 c1 (by omega) (by omega)⟩, _, _, rfl, rfl, (by show (0 : Int) < 2147483647; decide), ?_⟩
      refine ⟨_, rfl, _, rfl, _, _, _, _, rfl, rfl, SqL.of h1, at2 _ _ _, _, _, rfl, rfl, _, _, rfl, rfl, .inr ⟨by decide, by decide⟩, _, _, rfl, rfl, (by show (0 : Int) < 2147483629; decide), _, _, rfl, rfl, ⟨by decide, by decide⟩, _, rfl, _, _, rfl, rfl, hm, ?_⟩
      exact q _ _ (Int.emod_nonneg _ (by omega)) (Int.emod_lt_of_pos _ hm) ⟨d0, c0, c1, by omega⟩

end
end U

set_option Elab.async false
set_option maxRecDepth 100000
set_option linter.all false
set_option maxHeartbeats 8000000
namespace U
open PySem L2 TL Rl Tb Zp Xc
def csL (l : List Addr) (j : Nat) : Addr := l.getD j 0
def xck (K : PySem.W.Frag) (fX c : Addr) : Bool := xclsIn K c && (PySem.W.findIn K (.ref c) "__init__" == some (some (.ref fX))) && (PySem.W.findIn K (.ref c) "__setattr__" == some (some (.builtin "object.__setattr__"))) && (PySem.W.findIn K (.ref c) "__getattribute__" == some (some (.builtin "BaseException.__getattribute__"))) && (PySem.W.findIn K (.ref c) "__getattr__" == some none) && PySem.W.keepIn K (.ref c) && (PySem.W.findIn K (.ref c) "__class__" == some (some (.builtin "object.__class__"))) && (PySem.W.mroIn K c (.type "object") == some true) && (PySem.W.findIn K (.ref c) "what" == some none)
theorem xck_is {K : PySem.W.Frag} {fX c : Addr} (h : xck K fX c = true) (ft : PySem.W.typeIn K (.ref fX) = some (.type "function")) (hn : PySem.W.specialIn K (.builtin "object.__class__") "__get__" = some (some (.builtin "getset_descriptor.__get__"))) (htk : PySem.W.takesIn K (.builtin "object.__class__") = some true) : XIs K c fX ∧ NoAttr K c "what" := by
  unfold xck at h
  simp only [Bool.and_eq_true] at h
  obtain ⟨⟨⟨⟨⟨⟨⟨⟨h1, h2⟩, h3⟩, h4⟩, h5⟩, h6⟩, h7⟩, h8⟩, h9⟩ := h
  exact ⟨⟨⟨xob_of h1, beq_iff_eq.mp h2, ft, beq_iff_eq.mp h3, beq_iff_eq.mp h4, beq_iff_eq.mp h5, h6⟩, beq_iff_eq.mp h7, hn, htk, beq_iff_eq.mp h8⟩, beq_iff_eq.mp h9⟩
def kitck (K : PySem.W.Frag) (l : List Addr) : Bool := (List.range 17).all fun j => (PySem.W.kitOne K (.ref (csL l 14)) (.ref (csL l j)) == some (decide (14 = j)))
theorem kr_of {K : PySem.W.Frag} {mg : Str → Option Value} {c0 c1 c2 c3 c4 c5 c6 c7 c8 c9 c10 c11 c12 c13 c14 c15 c16 CD fX : Addr} (m0 : mg "NoRoom" = some (.ref c0)) (m1 : mg "Asleep" = some (.ref c1)) (m2 : mg "Awake" = some (.ref c2)) (m3 : mg "BadCount" = some (.ref c3)) (m4 : mg "SameRoom" = some (.ref c4)) (m5 : mg "TwoNames" = some (.ref c5)) (m6 : mg "NoKey" = some (.ref c6)) (m7 : mg "NotHolder" = some (.ref c7)) (m8 : mg "Ring" = some (.ref c8)) (m9 : mg "BadPlan" = some (.ref c9)) (m10 : mg "NoMove" = some (.ref c10)) (m11 : mg "TooMany" = some (.ref c11)) (m12 : mg "NoName" = some (.ref c12)) (m13 : mg "BadClient" = some (.ref c13)) (m14 : mg "NoRow" = some (.ref c14)) (m15 : mg "Stopped" = some (.ref c15)) (m16 : mg "NoBack" = some (.ref c16)) (mD : mg "DozeError" = some (.ref CD)) (mV : mg "ValueError" = none)
    (ft : PySem.W.typeIn K (.ref fX) = some (.type "function")) (hn : PySem.W.specialIn K (.builtin "object.__class__") "__get__" = some (some (.builtin "getset_descriptor.__get__"))) (htk : PySem.W.takesIn K (.builtin "object.__class__") = some true)
    (h1 : xck K fX c14 = true) (hD : xck K fX CD = true) (k1 : kitck K [c0, c1, c2, c3, c4, c5, c6, c7, c8, c9, c10, c11, c12, c13, c14, c15, c16] = true) (k2 : PySem.W.kitOne K (.ref c14) (.type "ValueError") = some true) (k3 : subIn K c14 (.ref CD) = true) : KR K mg (csL [c0, c1, c2, c3, c4, c5, c6, c7, c8, c9, c10, c11, c12, c13, c14, c15, c16]) CD fX :=
  ⟨m0, m1, m2, m3, m4, m5, m6, m7, m8, m9, m10, m11, m12, m13, m14, m15, m16, (xck_is h1 ft hn htk).1, (xck_is h1 ft hn htk).2, fun j hj => beq_iff_eq.mp (List.all_eq_true.mp k1 j (List.mem_range.mpr hj)), k2, mD, (xck_is hD ft hn htk).1, k3, mV⟩
theorem all_mk {l : PySem.W.OpenLaw} {w : World} {K : PySem.W.Frag} {h : Heap} {mg : Str → Option Value} {fa aF CD c0 c1 c2 c3 c4 c5 c6 c7 c8 c9 c10 c11 c12 c13 c14 c15 c16 Pn Pf cIN cNM fX fIN fNM fRR fRO fPS fPO fS fD fW fNA fGR fNU fFO fRW fTX fSG fOD fSP fWD fRN fRM fDU fRF fAS fSM fL : Addr} (X : K.In h) (G : h.Ns mainGlobals mg) (hfa : mg "law" = some (.ref fa))
    {odX anX odIN anIN odNM anNM odRR anRR odRO anRO odPS anPS odPO anPO odS anS odD anD odW anW odNA anNA odGR anGR odNU anNU odFO anFO odRW anRW odTX anTX odSG anSG odOD anOD odSP anSP odWD anWD odRN anRN odRM anRM odDU anDU odRF anRF odAS anAS odSM anSM odL anL : Option Addr} {slX slIN slNM slRR slRO slPS slPO slS slD slW slNA slGR slNU slFO slRW slTX slSG slOD slSP slWD slRN slRM slDU slRF slAS slSM slL : Array (Option Value)} {ocX dcX pmX ctX kVX cdX ocIN dcIN pmIN ctIN kVIN ocNM dcNM pmNM ctNM kVNM ocRR dcRR pmRR ctRR kVRR cdRR ocRO dcRO pmRO ctRO kVRO cdRO ocPS dcPS pmPS ctPS kVPS cdPS ocPO dcPO pmPO ctPO kVPO cdPO ocS dcS pmS ctS kVS cdS ocD dcD pmD ctD kVD cdD ocW dcW pmW ctW kVW cdW ocNA dcNA pmNA ctNA kVNA cdNA ocGR dcGR pmGR ctGR kVGR cdGR ocNU dcNU pmNU ctNU kVNU cdNU ocFO dcFO pmFO ctFO kVFO cdFO ocRW dcRW pmRW ctRW kVRW cdRW ocTX dcTX pmTX ctTX kVTX cdTX ocSG dcSG pmSG ctSG kVSG cdSG ocOD dcOD pmOD ctOD kVOD cdOD ocSP dcSP pmSP ctSP kVSP cdSP ocWD dcWD pmWD ctWD kVWD cdWD ocRN dcRN pmRN ctRN kVRN cdRN ocRM dcRM pmRM ctRM kVRM cdRM ocDU dcDU pmDU ctDU kVDU cdDU ocRF dcRF pmRF ctRF kVRF cdRF ocAS dcAS pmAS ctAS kVAS cdAS ocSM dcSM pmSM ctSM kVSM cdSM ocL dcL pmL ctL kVL cdL : Value}
    (aCD : PySem.W.nsIn K mainGlobals "DozeError" = some (some (.ref CD)))
    (xa0 : PySem.W.nsIn K mainGlobals "NoRoom" = some (some (.ref c0)))
    (xa1 : PySem.W.nsIn K mainGlobals "Asleep" = some (some (.ref c1)))
    (xa2 : PySem.W.nsIn K mainGlobals "Awake" = some (some (.ref c2)))
    (xa3 : PySem.W.nsIn K mainGlobals "BadCount" = some (some (.ref c3)))
    (xa4 : PySem.W.nsIn K mainGlobals "SameRoom" = some (some (.ref c4)))
    (xa5 : PySem.W.nsIn K mainGlobals "TwoNames" = some (some (.ref c5)))
    (xa6 : PySem.W.nsIn K mainGlobals "NoKey" = some (some (.ref c6)))
    (xa7 : PySem.W.nsIn K mainGlobals "NotHolder" = some (some (.ref c7)))
    (xa8 : PySem.W.nsIn K mainGlobals "Ring" = some (some (.ref c8)))
    (xa9 : PySem.W.nsIn K mainGlobals "BadPlan" = some (some (.ref c9)))
    (xa10 : PySem.W.nsIn K mainGlobals "NoMove" = some (some (.ref c10)))
    (xa11 : PySem.W.nsIn K mainGlobals "TooMany" = some (some (.ref c11)))
    (xa12 : PySem.W.nsIn K mainGlobals "NoName" = some (some (.ref c12)))
    (xa13 : PySem.W.nsIn K mainGlobals "BadClient" = some (some (.ref c13)))
    (xa14 : PySem.W.nsIn K mainGlobals "NoRow" = some (some (.ref c14)))
    (xa15 : PySem.W.nsIn K mainGlobals "Stopped" = some (some (.ref c15)))
    (xa16 : PySem.W.nsIn K mainGlobals "NoBack" = some (some (.ref c16)))
    (aX : PySem.W.findIn K (.ref CD) "__init__" = some (some (.ref fX)))
    (lX : K.lookup fX = some ⟨ocX, odX, .func (PySem.W.fnOf "__init__" "DozeError.__init__" (defArgs sXI) (defBody sXI) (defScope sXI) .none kVX dcX pmX anX cdX ctX), slX⟩)
    (qX : PySem.W.codeIn K cdX "DozeError.__init__" = true)
    (kX : PySem.W.keepIn K (.ref fX) = true)
    (aIN : PySem.W.nsIn K mainGlobals "is_name" = some (some (.ref fIN)))
    (lIN : K.lookup fIN = some ⟨ocIN, odIN, .func (PySem.W.fnOf "is_name" "is_name" (defArgs sIsName) (defBody sIsName) (defScope sIsName) .none kVIN dcIN pmIN anIN (.ref cIN) ctIN), slIN⟩)
    (qIN : PySem.W.codeIn K (.ref cIN) "is_name" = true)
    (kIN : PySem.W.keepIn K (.ref fIN) = true)
    (aNM : PySem.W.nsIn K mainGlobals "is_number" = some (some (.ref fNM)))
    (lNM : K.lookup fNM = some ⟨ocNM, odNM, .func (PySem.W.fnOf "is_number" "is_number" (defArgs sIsNum) (defBody sIsNum) (defScope sIsNum) .none kVNM dcNM pmNM anNM (.ref cNM) ctNM), slNM⟩)
    (qNM : PySem.W.codeIn K (.ref cNM) "is_number" = true)
    (kNM : PySem.W.keepIn K (.ref fNM) = true)
    (aRR : PySem.W.nsIn K mainGlobals "read_row" = some (some (.ref fRR)))
    (lRR : K.lookup fRR = some ⟨ocRR, odRR, .func (PySem.W.fnOf "read_row" "read_row" (defArgs sReadRow) (defBody sReadRow) (defScope sReadRow) .none kVRR dcRR pmRR anRR cdRR ctRR), slRR⟩)
    (qRR : PySem.W.codeIn K cdRR "read_row" = true)
    (kRR : PySem.W.keepIn K (.ref fRR) = true)
    (aRO : PySem.W.nsIn K mainGlobals "row_or_none" = some (some (.ref fRO)))
    (lRO : K.lookup fRO = some ⟨ocRO, odRO, .func (PySem.W.fnOf "row_or_none" "row_or_none" (defArgs sRowOr) (defBody sRowOr) (defScope sRowOr) .none kVRO dcRO pmRO anRO cdRO ctRO), slRO⟩)
    (qRO : PySem.W.codeIn K cdRO "row_or_none" = true)
    (kRO : PySem.W.keepIn K (.ref fRO) = true)
    (aPS : PySem.W.nsIn K mainGlobals "parts_or_none" = some (some (.ref fPS)))
    (lPS : K.lookup fPS = some ⟨ocPS, odPS, .func (PySem.W.fnOf "parts_or_none" "parts_or_none" (defArgs sPartsOr) (defBody sPartsOr) (defScope sPartsOr) .none kVPS dcPS pmPS anPS cdPS ctPS), slPS⟩)
    (qPS : PySem.W.codeIn K cdPS "parts_or_none" = true)
    (kPS : PySem.W.keepIn K (.ref fPS) = true)
    (aPO : PySem.W.nsIn K mainGlobals "part_or_none" = some (some (.ref fPO)))
    (lPO : K.lookup fPO = some ⟨ocPO, odPO, .func (PySem.W.fnOf "part_or_none" "part_or_none" (defArgs sPartOr) (defBody sPartOr) (defScope sPartOr) .none kVPO dcPO pmPO anPO cdPO ctPO), slPO⟩)
    (qPO : PySem.W.codeIn K cdPO "part_or_none" = true)
    (kPO : PySem.W.keepIn K (.ref fPO) = true)
    (aS : PySem.W.nsIn K mainGlobals "_law_source" = some (some (.ref fS)))
    (lS : K.lookup fS = some ⟨ocS, odS, .func (PySem.W.fnOf "_law_source" "_law_source" (defArgs sSource) (defBody sSource) (defScope sSource) .none kVS dcS pmS anS cdS ctS), slS⟩)
    (qS : PySem.W.codeIn K cdS "_law_source" = true)
    (kS : PySem.W.keepIn K (.ref fS) = true)
    (aD : PySem.W.nsIn K mainGlobals "_law_draw" = some (some (.ref fD)))
    (lD : K.lookup fD = some ⟨ocD, odD, .func (PySem.W.fnOf "_law_draw" "_law_draw" (defArgs sDraw) (defBody sDraw) (defScope sDraw) .none kVD dcD pmD anD cdD ctD), slD⟩)
    (qD : PySem.W.codeIn K cdD "_law_draw" = true)
    (kD : PySem.W.keepIn K (.ref fD) = true)
    (aW : PySem.W.nsIn K mainGlobals "_law_whole" = some (some (.ref fW)))
    (lW : K.lookup fW = some ⟨ocW, odW, .func (PySem.W.fnOf "_law_whole" "_law_whole" (defArgs sWhole) (defBody sWhole) (defScope sWhole) .none kVW dcW pmW anW cdW ctW), slW⟩)
    (qW : PySem.W.codeIn K cdW "_law_whole" = true)
    (kW : PySem.W.keepIn K (.ref fW) = true)
    (aNA : PySem.W.nsIn K mainGlobals "_law_name" = some (some (.ref fNA)))
    (lNA : K.lookup fNA = some ⟨ocNA, odNA, .func (PySem.W.fnOf "_law_name" "_law_name" (defArgs sName) (defBody sName) (defScope sName) .none kVNA dcNA pmNA anNA cdNA ctNA), slNA⟩)
    (qNA : PySem.W.codeIn K cdNA "_law_name" = true)
    (kNA : PySem.W.keepIn K (.ref fNA) = true)
    (aGR : PySem.W.nsIn K mainGlobals "_law_great" = some (some (.ref fGR)))
    (lGR : K.lookup fGR = some ⟨ocGR, odGR, .func (PySem.W.fnOf "_law_great" "_law_great" (defArgs sGreat) (defBody sGreat) (defScope sGreat) .none kVGR dcGR pmGR anGR cdGR ctGR), slGR⟩)
    (qGR : PySem.W.codeIn K cdGR "_law_great" = true)
    (kGR : PySem.W.keepIn K (.ref fGR) = true)
    (aNU : PySem.W.nsIn K mainGlobals "_law_number" = some (some (.ref fNU)))
    (lNU : K.lookup fNU = some ⟨ocNU, odNU, .func (PySem.W.fnOf "_law_number" "_law_number" (defArgs sNumber) (defBody sNumber) (defScope sNumber) .none kVNU dcNU pmNU anNU cdNU ctNU), slNU⟩)
    (qNU : PySem.W.codeIn K cdNU "_law_number" = true)
    (kNU : PySem.W.keepIn K (.ref fNU) = true)
    (aFO : PySem.W.nsIn K mainGlobals "_law_form" = some (some (.ref fFO)))
    (lFO : K.lookup fFO = some ⟨ocFO, odFO, .func (PySem.W.fnOf "_law_form" "_law_form" (defArgs sForm) (defBody sForm) (defScope sForm) .none kVFO dcFO pmFO anFO cdFO ctFO), slFO⟩)
    (qFO : PySem.W.codeIn K cdFO "_law_form" = true)
    (kFO : PySem.W.keepIn K (.ref fFO) = true)
    (aRW : PySem.W.nsIn K mainGlobals "_law_row" = some (some (.ref fRW)))
    (lRW : K.lookup fRW = some ⟨ocRW, odRW, .func (PySem.W.fnOf "_law_row" "_law_row" (defArgs sRow) (defBody sRow) (defScope sRow) .none kVRW dcRW pmRW anRW cdRW ctRW), slRW⟩)
    (qRW : PySem.W.codeIn K cdRW "_law_row" = true)
    (kRW : PySem.W.keepIn K (.ref fRW) = true)
    (aTX : PySem.W.nsIn K mainGlobals "_law_text" = some (some (.ref fTX)))
    (lTX : K.lookup fTX = some ⟨ocTX, odTX, .func (PySem.W.fnOf "_law_text" "_law_text" (defArgs sTextL) (defBody sTextL) (defScope sTextL) .none kVTX dcTX pmTX anTX cdTX ctTX), slTX⟩)
    (qTX : PySem.W.codeIn K cdTX "_law_text" = true)
    (kTX : PySem.W.keepIn K (.ref fTX) = true)
    (aSG : PySem.W.nsIn K mainGlobals "_law_sign" = some (some (.ref fSG)))
    (lSG : K.lookup fSG = some ⟨ocSG, odSG, .func (PySem.W.fnOf "_law_sign" "_law_sign" (defArgs sSign) (defBody sSign) (defScope sSign) .none kVSG dcSG pmSG anSG cdSG ctSG), slSG⟩)
    (qSG : PySem.W.codeIn K cdSG "_law_sign" = true)
    (kSG : PySem.W.keepIn K (.ref fSG) = true)
    (aOD : PySem.W.nsIn K mainGlobals "_law_odd_word" = some (some (.ref fOD)))
    (lOD : K.lookup fOD = some ⟨ocOD, odOD, .func (PySem.W.fnOf "_law_odd_word" "_law_odd_word" (defArgs sOdd) (defBody sOdd) (defScope sOdd) .none kVOD dcOD pmOD anOD cdOD ctOD), slOD⟩)
    (qOD : PySem.W.codeIn K cdOD "_law_odd_word" = true)
    (kOD : PySem.W.keepIn K (.ref fOD) = true)
    (aSP : PySem.W.nsIn K mainGlobals "_law_spoilt" = some (some (.ref fSP)))
    (lSP : K.lookup fSP = some ⟨ocSP, odSP, .func (PySem.W.fnOf "_law_spoilt" "_law_spoilt" (defArgs sSpoil) (defBody sSpoil) (defScope sSpoil) .none kVSP dcSP pmSP anSP cdSP ctSP), slSP⟩)
    (qSP : PySem.W.codeIn K cdSP "_law_spoilt" = true)
    (kSP : PySem.W.keepIn K (.ref fSP) = true)
    (aWD : PySem.W.nsIn K mainGlobals "_law_words" = some (some (.ref fWD)))
    (lWD : K.lookup fWD = some ⟨ocWD, odWD, .func (PySem.W.fnOf "_law_words" "_law_words" (defArgs sWords) (defBody sWords) (defScope sWords) .none kVWD dcWD pmWD anWD cdWD ctWD), slWD⟩)
    (qWD : PySem.W.codeIn K cdWD "_law_words" = true)
    (kWD : PySem.W.keepIn K (.ref fWD) = true)
    (aRN : PySem.W.nsIn K mainGlobals "_law_read_name" = some (some (.ref fRN)))
    (lRN : K.lookup fRN = some ⟨ocRN, odRN, .func (PySem.W.fnOf "_law_read_name" "_law_read_name" (defArgs sRdName) (defBody sRdName) (defScope sRdName) .none kVRN dcRN pmRN anRN cdRN ctRN), slRN⟩)
    (qRN : PySem.W.codeIn K cdRN "_law_read_name" = true)
    (kRN : PySem.W.keepIn K (.ref fRN) = true)
    (aRM : PySem.W.nsIn K mainGlobals "_law_read_number" = some (some (.ref fRM)))
    (lRM : K.lookup fRM = some ⟨ocRM, odRM, .func (PySem.W.fnOf "_law_read_number" "_law_read_number" (defArgs sRdNum) (defBody sRdNum) (defScope sRdNum) .none kVRM dcRM pmRM anRM cdRM ctRM), slRM⟩)
    (qRM : PySem.W.codeIn K cdRM "_law_read_number" = true)
    (kRM : PySem.W.keepIn K (.ref fRM) = true)
    (aDU : PySem.W.nsIn K mainGlobals "_law_due" = some (some (.ref fDU)))
    (lDU : K.lookup fDU = some ⟨ocDU, odDU, .func (PySem.W.fnOf "_law_due" "_law_due" (defArgs sDue) (defBody sDue) (defScope sDue) .none kVDU dcDU pmDU anDU cdDU ctDU), slDU⟩)
    (qDU : PySem.W.codeIn K cdDU "_law_due" = true)
    (kDU : PySem.W.keepIn K (.ref fDU) = true)
    (aRF : PySem.W.nsIn K mainGlobals "_law_refusal" = some (some (.ref fRF)))
    (lRF : K.lookup fRF = some ⟨ocRF, odRF, .func (PySem.W.fnOf "_law_refusal" "_law_refusal" (defArgs sRefusal) (defBody sRefusal) (defScope sRefusal) .none kVRF dcRF pmRF anRF cdRF ctRF), slRF⟩)
    (qRF : PySem.W.codeIn K cdRF "_law_refusal" = true)
    (kRF : PySem.W.keepIn K (.ref fRF) = true)
    (aAS : PySem.W.nsIn K mainGlobals "_law_asked" = some (some (.ref fAS)))
    (lAS : K.lookup fAS = some ⟨ocAS, odAS, .func (PySem.W.fnOf "_law_asked" "_law_asked" (defArgs sAsked) (defBody sAsked) (defScope sAsked) .none kVAS dcAS pmAS anAS cdAS ctAS), slAS⟩)
    (qAS : PySem.W.codeIn K cdAS "_law_asked" = true)
    (kAS : PySem.W.keepIn K (.ref fAS) = true)
    (aSM : PySem.W.nsIn K mainGlobals "_law_same" = some (some (.ref fSM)))
    (lSM : K.lookup fSM = some ⟨ocSM, odSM, .func (PySem.W.fnOf "_law_same" "_law_same" (defArgs sSame) (defBody sSame) (defScope sSame) .none kVSM dcSM pmSM anSM cdSM ctSM), slSM⟩)
    (qSM : PySem.W.codeIn K cdSM "_law_same" = true)
    (kSM : PySem.W.keepIn K (.ref fSM) = true)
    (aL : PySem.W.nsIn K mainGlobals "law" = some (some (.ref fL)))
    (lL : K.lookup fL = some ⟨ocL, odL, .func (PySem.W.fnOf "law" "law" (defArgs sLaw) (defBody sLaw) (defScope sLaw) .none kVL dcL pmL anL cdL ctL), slL⟩)
    (qL : PySem.W.codeIn K cdL "law" = true)
    (kL : PySem.W.keepIn K (.ref fL) = true)
    (hTIN : PySem.W.codeHdIn K cIN Pn = true)
    (hTNM : PySem.W.codeHdIn K cNM Pf = true)
    (aFM : PySem.W.nsIn K mainGlobals "FORMS" = some (some (.ref aF)))
    (fOK : formsOk K aF = true)
    (sLE : strAt K "LETTERS" letters = true)
    (sFI : strAt K "FIGURES" figs = true)
    (iLO : intAt K "LONGEST" 8 = true)
    (iMF : intAt K "MOST_FIGURES" 60 = true)
    (iLG : intAt K "LAST_GUEST" 999999 = true)
    (gl0 : PySem.W.nsIn K mainGlobals "len" = some none)
    (gl1 : PySem.W.nsIn K mainGlobals "enumerate" = some none)
    (gl2 : PySem.W.nsIn K mainGlobals "int" = some none)
    (gl3 : PySem.W.nsIn K mainGlobals "range" = some none)
    (gl4 : PySem.W.nsIn K mainGlobals "dict" = some none)
    (gl5 : PySem.W.nsIn K mainGlobals "sorted" = some none)
    (gl6 : PySem.W.nsIn K mainGlobals "isinstance" = some none)
    (gl7 : PySem.W.nsIn K mainGlobals "list" = some none)
    (gl8 : PySem.W.nsIn K mainGlobals "all" = some none)
    (gl9 : PySem.W.nsIn K mainGlobals "tuple" = some none)
    (gl10 : PySem.W.nsIn K mainGlobals "max" = some none)
    (gl11 : PySem.W.nsIn K mainGlobals "min" = some none)
    (gl12 : PySem.W.nsIn K mainGlobals "str" = some none)
    (gl13 : PySem.W.nsIn K mainGlobals "reversed" = some none)
    (gl14 : PySem.W.nsIn K mainGlobals "abs" = some none)
    (gl15 : PySem.W.nsIn K mainGlobals "bool" = some none)
    (gl16 : PySem.W.nsIn K mainGlobals "zip" = some none)
    (xV : PySem.W.nsIn K mainGlobals "ValueError" = some none)
    (xft : PySem.W.typeIn K (.ref fX) = some (.type "function"))
    (xgn : PySem.W.specialIn K (.builtin "object.__class__") "__get__" = some (some (.builtin "getset_descriptor.__get__")))
    (xtk : PySem.W.takesIn K (.builtin "object.__class__") = some true)
    (xck1 : xck K fX c14 = true)
    (xckD : xck K fX CD = true)
    (xk1 : kitck K [c0, c1, c2, c3, c4, c5, c6, c7, c8, c9, c10, c11, c12, c13, c14, c15, c16] = true)
    (xk2 : PySem.W.kitOne K (.ref c14) (.type "ValueError") = some true)
    (xk3 : subIn K c14 (.ref CD) = true) :
    ∃ fd : FuncData, (∀ (s : Shared) (v : Value), BindsTo s fd ⟨[v], []⟩ [("_law_script", v)]) ∧ ∀ base : Heap, K.In base → base.Ns mainGlobals mg → BM mg base → FnOk l.prog w K mg base CX0 8 fa fd ["_law_script"] (spLaw K Pn Pf) := by
  have e := hfa.symm.trans (PySem.W.mg_of X G aL)
  cases e
  obtain ⟨tLE, eLE⟩ := strAt_ok sLE
  obtain ⟨tFI, eFI⟩ := strAt_ok sFI
  obtain ⟨tLO, eLO⟩ := intAt_ok iLO
  obtain ⟨tMF, eMF⟩ := intAt_ok iMF
  obtain ⟨tLG, eLG⟩ := intAt_ok iLG
  have gb := PySem.W.mg_none_of X G gl15
  have gz := PySem.W.mg_none_of X G gl16
  have g : Glb mg := ⟨PySem.W.mg_none_of X G gl0, PySem.W.mg_none_of X G gl1, PySem.W.mg_none_of X G gl2, PySem.W.mg_none_of X G gl3, PySem.W.mg_none_of X G gl4, PySem.W.mg_none_of X G gl5, PySem.W.mg_none_of X G gl6, PySem.W.mg_none_of X G gl7, PySem.W.mg_none_of X G gl8, PySem.W.mg_none_of X G gl9, PySem.W.mg_none_of X G gl10, PySem.W.mg_none_of X G gl11, PySem.W.mg_none_of X G gl12, PySem.W.mg_none_of X G gl13, PySem.W.mg_none_of X G gl14⟩
  have kr : KR K mg (csL [c0, c1, c2, c3, c4, c5, c6, c7, c8, c9, c10, c11, c12, c13, c14, c15, c16]) CD fX := kr_of (PySem.W.mg_of X G xa0) (PySem.W.mg_of X G xa1) (PySem.W.mg_of X G xa2) (PySem.W.mg_of X G xa3) (PySem.W.mg_of X G xa4) (PySem.W.mg_of X G xa5) (PySem.W.mg_of X G xa6) (PySem.W.mg_of X G xa7) (PySem.W.mg_of X G xa8) (PySem.W.mg_of X G xa9) (PySem.W.mg_of X G xa10) (PySem.W.mg_of X G xa11) (PySem.W.mg_of X G xa12) (PySem.W.mg_of X G xa13) (PySem.W.mg_of X G xa14) (PySem.W.mg_of X G xa15) (PySem.W.mg_of X G xa16) (PySem.W.mg_of X G aCD) (PySem.W.mg_none_of X G xV) xft xgn xtk xck1 xckD xk1 xk2 xk3
  have FX := fun_mk (st := sXI) lX qX kX
  have bX := FX.binds (ps := ["self", "what"]) fun _ _ _ _ _ _ us hl => match us, hl with | [_, _], _ => rfl
  have bIN : Binds K (PySem.W.fnOf "is_name" "is_name" (defArgs sIsName) (defBody sIsName) (defScope sIsName) .none kVIN dcIN pmIN anIN (.ref cIN) ctIN) ["text"] [] := fun s us hK hl => by
    match us, hl with
    | [v0], _ => exact .of_eq rfl
  have bNM : Binds K (PySem.W.fnOf "is_number" "is_number" (defArgs sIsNum) (defBody sIsNum) (defScope sIsNum) .none kVNM dcNM pmNM anNM (.ref cNM) ctNM) ["word"] [] := fun s us hK hl => by
    match us, hl with
    | [v0], _ => exact .of_eq rfl
  have FRR := fun_mk (st := sReadRow) lRR qRR kRR
  have bRR := FRR.binds (ps := ["text"]) fun _ _ _ _ _ _ us hl => match us, hl with | [_], _ => rfl
  have FRO := fun_mk (st := sRowOr) lRO qRO kRO
  have bRO := FRO.binds (ps := ["text"]) fun _ _ _ _ _ _ us hl => match us, hl with | [_], _ => rfl
  have FPS := fun_mk (st := sPartsOr) lPS qPS kPS
  have bPS := FPS.binds (ps := ["kinds", "words"]) fun _ _ _ _ _ _ us hl => match us, hl with | [_, _], _ => rfl
  have FPO := fun_mk (st := sPartOr) lPO qPO kPO
  have bPO := FPO.binds (ps := ["kind", "word"]) fun _ _ _ _ _ _ us hl => match us, hl with | [_, _], _ => rfl
  have FS := fun_mk (st := sSource) lS qS kS
  have bS := FS.binds (ps := ["_law_script", "_law_k"]) fun _ _ _ _ _ _ us hl => match us, hl with | [_, _], _ => rfl
  have FD := fun_mk (st := sDraw) lD qD kD
  have bD := FD.binds (ps := ["_law_source_here", "_law_many"]) fun _ _ _ _ _ _ us hl => match us, hl with | [_, _], _ => rfl
  have FW := fun_mk (st := sWhole) lW qW kW
  have bW := FW.binds (ps := ["_law_found"]) fun _ _ _ _ _ _ us hl => match us, hl with | [_], _ => rfl
  have FNA := fun_mk (st := sName) lNA qNA kNA
  have bNA := FNA.binds (ps := ["_law_source_here"]) fun _ _ _ _ _ _ us hl => match us, hl with | [_], _ => rfl
  have FGR := fun_mk (st := sGreat) lGR qGR kGR
  have bGR := FGR.binds (ps := ["_law_source_here"]) fun _ _ _ _ _ _ us hl => match us, hl with | [_], _ => rfl
  have FNU := fun_mk (st := sNumber) lNU qNU kNU
  have bNU := FNU.binds (ps := ["_law_source_here"]) fun _ _ _ _ _ _ us hl => match us, hl with | [_], _ => rfl
  have FFO := fun_mk (st := sForm) lFO qFO kFO
  have bFO := FFO.binds (ps := ["_law_word"]) fun _ _ _ _ _ _ us hl => match us, hl with | [_], _ => rfl
  have FRW := fun_mk (st := sRow) lRW qRW kRW
  have bRW := FRW.binds (ps := ["_law_source_here"]) fun _ _ _ _ _ _ us hl => match us, hl with | [_], _ => rfl
  have FTX := fun_mk (st := sTextL) lTX qTX kTX
  have bTX := FTX.binds (ps := ["_law_row_here"]) fun _ _ _ _ _ _ us hl => match us, hl with | [_], _ => rfl
  have FSG := fun_mk (st := sSign) lSG qSG kSG
  have bSG := FSG.binds (ps := ["_law_source_here"]) fun _ _ _ _ _ _ us hl => match us, hl with | [_], _ => rfl
  have FOD := fun_mk (st := sOdd) lOD qOD kOD
  have bOD := FOD.binds (ps := ["_law_source_here"]) fun _ _ _ _ _ _ us hl => match us, hl with | [_], _ => rfl
  have FSP := fun_mk (st := sSpoil) lSP qSP kSP
  have bSP := FSP.binds (ps := ["_law_source_here", "_law_text_here"]) fun _ _ _ _ _ _ us hl => match us, hl with | [_, _], _ => rfl
  have FWD := fun_mk (st := sWords) lWD qWD kWD
  have bWD := FWD.binds (ps := ["_law_text_here"]) fun _ _ _ _ _ _ us hl => match us, hl with | [_], _ => rfl
  have FRN := fun_mk (st := sRdName) lRN qRN kRN
  have bRN := FRN.binds (ps := ["_law_word"]) fun _ _ _ _ _ _ us hl => match us, hl with | [_], _ => rfl
  have FRM := fun_mk (st := sRdNum) lRM qRM kRM
  have bRM := FRM.binds (ps := ["_law_word"]) fun _ _ _ _ _ _ us hl => match us, hl with | [_], _ => rfl
  have FDU := fun_mk (st := sDue) lDU qDU kDU
  have bDU := FDU.binds (ps := ["_law_text_here"]) fun _ _ _ _ _ _ us hl => match us, hl with | [_], _ => rfl
  have FRF := fun_mk (st := sRefusal) lRF qRF kRF
  have bRF := FRF.binds (ps := ["_law_e"]) fun _ _ _ _ _ _ us hl => match us, hl with | [_], _ => rfl
  have FAS := fun_mk (st := sAsked) lAS qAS kAS
  have bAS := FAS.binds (ps := ["_law_text_here"]) fun _ _ _ _ _ _ us hl => match us, hl with | [_], _ => rfl
  have FSM := fun_mk (st := sSame) lSM qSM kSM
  have bSM := FSM.binds (ps := ["_law_found", "_law_row_here"]) fun _ _ _ _ _ _ us hl => match us, hl with | [_, _], _ => rfl
  have FL := fun_mk (st := sLaw) lL qL kL
  refine ⟨PySem.W.fnOf "law" "law" (defArgs sLaw) (defBody sLaw) (defScope sLaw) .none kVL dcL pmL anL cdL ctL, fun s v => .of_eq rfl, fun base _ _ hbm => ?_⟩
  have GX : FnOk l.prog w K mg base CX0 1 fX _ _ (spXI K "what") := ok_xinit FX
  have GIN : FnOk l.prog w K mg base CX0 2 fIN _ _ (spIsName Pn) := ok_isName lIN qIN hTIN hbm g (PySem.W.mg_of X G eLE) (PySem.W.mg_of X G eLO)
  have GNM : FnOk l.prog w K mg base CX0 2 fNM _ _ (spIsNum Pf) := ok_isNum lNM qNM hTNM hbm g (PySem.W.mg_of X G eFI) (PySem.W.mg_of X G eMF)
  have GPO : FnOk l.prog w K mg base CX0 3 fPO _ _ (spPart Pn Pf) := ok_part FPO g GIN (PySem.W.mg_of X G aIN) kIN bIN GNM (PySem.W.mg_of X G aNM) kNM bNM (PySem.W.mg_of X G eLG)
  have GPS : FnOk l.prog w K mg base CX0 4 fPS _ _ (spParts K Pn Pf) := ok_parts FPS g gz GPO (PySem.W.mg_of X G aPO) kPO bPO
  have GRO : FnOk l.prog w K mg base CX0 5 fRO _ _ (spRowOr Pn Pf) := ok_rowOr FRO g (formsOk_ok (PySem.W.mg_of X G aFM) fOK) GPS (PySem.W.mg_of X G aPS) kPS bPS
  have GRR : FnOk l.prog w K mg base (CXE l.prog w) 6 fRR _ _ (spReadX Pn Pf (csL [c0, c1, c2, c3, c4, c5, c6, c7, c8, c9, c10, c11, c12, c13, c14, c15, c16] 14)) := ok_readX FRR kr.xi.xc GX bX kr.m14 kr.na GRO (PySem.W.mg_of X G aRO) kRO bRO
  have GTX : FnOk l.prog w K mg base CX0 2 fTX _ _ (spText K) := ok_text FTX g
  have GS : FnOk l.prog w K mg base CX0 1 fS _ _ (spSource K) := ok_source FS g
  have GD : FnOk l.prog w K mg base CX0 1 fD _ _ spDraw := ok_draw FD
  have GW : FnOk l.prog w K mg base CX0 1 fW _ _ spWholeN := ok_whole FW g gb
  have GNA : FnOk l.prog w K mg base CX0 2 fNA _ _ spName := ok_name FNA g GD (PySem.W.mg_of X G aD) kD bD
  have GGR : FnOk l.prog w K mg base CX0 2 fGR _ _ spGreat := ok_great FGR g GD (PySem.W.mg_of X G aD) kD bD
  have GNU : FnOk l.prog w K mg base CX0 3 fNU _ _ spNumber := ok_number FNU GD (PySem.W.mg_of X G aD) kD bD GGR (PySem.W.mg_of X G aGR) kGR bGR
  have GFO : FnOk l.prog w K mg base CX0 2 fFO _ _ spForm := ok_form FFO g
  have GFG : FnOk l.prog w K mg base CX0 2 fFO _ _ spFormG := ok_formG FFO g
  have GRW : FnOk l.prog w K mg base CX0 4 fRW _ _ spRowL := ok_rowL FRW g GD (PySem.W.mg_of X G aD) kD bD GFO (PySem.W.mg_of X G aFO) kFO bFO GNA (PySem.W.mg_of X G aNA) kNA bNA GNU (PySem.W.mg_of X G aNU) kNU bNU
  have GSG : FnOk l.prog w K mg base CX0 2 fSG _ _ spSign := ok_sign FSG g GD (PySem.W.mg_of X G aD) kD bD
  have GOD : FnOk l.prog w K mg base CX0 2 fOD _ _ spOdd := ok_odd FOD g GD (PySem.W.mg_of X G aD) kD bD
  have GSP : FnOk l.prog w K mg base CX0 3 fSP _ _ spSpoil := ok_spoil FSP g GD (PySem.W.mg_of X G aD) kD bD GSG (PySem.W.mg_of X G aSG) kSG bSG GOD (PySem.W.mg_of X G aOD) kOD bOD
  have GWD : FnOk l.prog w K mg base CX0 1 fWD _ _ spWords := ok_words FWD
  have GRN : FnOk l.prog w K mg base CX0 1 fRN _ _ spRdName := ok_rdName FRN g
  have GRM : FnOk l.prog w K mg base CX0 1 fRM _ _ spRdNum := ok_rdNum FRM g
  have GDU : FnOk l.prog w K mg base CX0 3 fDU _ _ spDue := ok_due FDU g gz GWD (PySem.W.mg_of X G aWD) kWD bWD GFG (PySem.W.mg_of X G aFO) kFO bFO GRN (PySem.W.mg_of X G aRN) kRN bRN GRM (PySem.W.mg_of X G aRM) kRM bRM
  have GRF : Hn.FnOkH l.prog w K mg base 1 fRF _ _ (spRefusal K (csL [c0, c1, c2, c3, c4, c5, c6, c7, c8, c9, c10, c11, c12, c13, c14, c15, c16])) := ok_refusal FRF g kr
  have GAS : FnOk l.prog w K mg base CX0 7 fAS _ _ (spAsked Pn Pf) := ok_asked FAS kr GRR (PySem.W.mg_of X G aRR) kRR bRR GRF (PySem.W.mg_of X G aRF) kRF bRF
  have GSM : FnOk l.prog w K mg base CX0 3 fSM _ _ (spSame K) := ok_same FSM g gz GFG (PySem.W.mg_of X G aFO) kFO bFO GW (PySem.W.mg_of X G aW) kW bW
  exact ok_law FL g GS (PySem.W.mg_of X G aS) kS bS GRW (PySem.W.mg_of X G aRW) kRW bRW GTX (PySem.W.mg_of X G aTX) kTX bTX GSP (PySem.W.mg_of X G aSP) kSP bSP GDU (PySem.W.mg_of X G aDU) kDU bDU GSM (PySem.W.mg_of X G aSM) kSM bSM GAS (PySem.W.mg_of X G aAS) kAS bAS
end U

set_option maxHeartbeats 0
section
open PySem PySem.W PyProof.Rows
open_top U.hd for PySem.Challenge.rw_dozehall_k89_rows_read_or_refused
end

open PySem PySem.W PyProof.Rows
set_option Elab.async false
set_option maxRecDepth 100000 in
set_option maxHeartbeats 0 in
theorem PySem.Challenge.cw_dozehall_k89_rows_read_or_refused_holds : PySem.Challenge.rw_dozehall_k89_rows_read_or_refused.Holds := by
  w_on; o_law; o_head (kmHook U.hd.heap_39 [2, 3, 15, 22, 24, 25, 27, 28, 29, 30, 31, 32, 35, 42, 43, 44, 47, 54, 55, 56, 59, 66, 67, 68, 71, 78, 79, 80, 83, 90, 91, 92, 95, 102, 103, 104, 107, 114, 115, 116, 119, 126, 127, 128, 131, 138, 139, 140, 143, 150, 151, 152, 155, 162, 163, 164, 167, 174, 175, 176, 179, 186, 187, 188, 191, 198, 199, 200, 203, 210, 211, 212, 215, 222, 223, 224, 227, 234, 235, 236, 239, 241, 242, 244, 245, 246, 247, 248, 249, 250, 251, 252, 253, 254, 255, 256, 257, 258, 260, 261, 263, 264, 265, 267, 268, 270, 271, 272, 275, 276, 277, 279, 280, 282, 283, 284, 286, 287, 289, 290, 291, 293, 294, 296, 297, 298, 300, 301, 303, 304, 305, 307, 308, 310, 311, 312, 315, 316, 317, 319, 320, 322, 323, 324, 326, 327, 329, 330, 331, 333, 334, 336, 337, 338, 340, 341, 343, 344, 345, 348, 349, 350, 352, 353, 355, 356, 357, 359, 360, 362, 363, 364, 366, 367, 369, 370, 371, 373, 374, 376, 377, 378, 381, 382, 383, 386, 387, 388, 390, 391, 393, 394, 395, 397, 398, 400, 401, 402, 404, 405, 407, 408, 409, 411, 412, 414, 415, 416, 418, 419, 421, 422] (fun _ => by kernel_rfl) [240, 285]); (case hw => w_witness2)
  k_fill
  refine U.walk 240 285 (by decide) (l := PySem.Challenge.rw_dozehall_k89_rows_read_or_refused) rfl rfl (fun w h Y => ⟨PySem.W.km_in_of Y, fun P hP => PySem.W.km_tabs_of Y _ (by simpa using hP)⟩) ?cc ?nt ?F
  case nt => exact fun w => by kernel_rfl
  case cc =>
    intro w P hP
    simp only [List.mem_cons, List.not_mem_nil, or_false] at hP
    rcases hP with rfl | rfl
    · exact ⟨244, by kernel_rfl⟩
    · exact ⟨289, by kernel_rfl⟩
  case F =>
    intro w mg fa h KX G hmg
    refine' U.all_mk KX G hmg ?aCD ?xa0 ?xa1 ?xa2 ?xa3 ?xa4 ?xa5 ?xa6 ?xa7 ?xa8 ?xa9 ?xa10 ?xa11 ?xa12 ?xa13 ?xa14 ?xa15 ?xa16 ?aX ?lX ?qX ?kX ?aIN ?lIN ?qIN ?kIN ?aNM ?lNM ?qNM ?kNM ?aRR ?lRR ?qRR ?kRR ?aRO ?lRO ?qRO ?kRO ?aPS ?lPS ?qPS ?kPS ?aPO ?lPO ?qPO ?kPO ?aS ?lS ?qS ?kS ?aD ?lD ?qD ?kD ?aW ?lW ?qW ?kW ?aNA ?lNA ?qNA ?kNA ?aGR ?lGR ?qGR ?kGR ?aNU ?lNU ?qNU ?kNU ?aFO ?lFO ?qFO ?kFO ?aRW ?lRW ?qRW ?kRW ?aTX ?lTX ?qTX ?kTX ?aSG ?lSG ?qSG ?kSG ?aOD ?lOD ?qOD ?kOD ?aSP ?lSP ?qSP ?kSP ?aWD ?lWD ?qWD ?kWD ?aRN ?lRN ?qRN ?kRN ?aRM ?lRM ?qRM ?kRM ?aDU ?lDU ?qDU ?kDU ?aRF ?lRF ?qRF ?kRF ?aAS ?lAS ?qAS ?kAS ?aSM ?lSM ?qSM ?kSM ?aL ?lL ?qL ?kL ?hTIN ?hTNM ?aFM ?fOK ?sLE ?sFI ?iLO ?iMF ?iLG ?gl0 ?gl1 ?gl2 ?gl3 ?gl4 ?gl5 ?gl6 ?gl7 ?gl8 ?gl9 ?gl10 ?gl11 ?gl12 ?gl13 ?gl14 ?gl15 ?gl16 ?xV ?xft ?xgn ?xtk ?xck1 ?xckD ?xk1 ?xk2 ?xk3
    (case aCD => k_is)
    (case xa0 => k_is)
    (case xa1 => k_is)
    (case xa2 => k_is)
    (case xa3 => k_is)
    (case xa4 => k_is)
    (case xa5 => k_is)
    (case xa6 => k_is)
    (case xa7 => k_is)
    (case xa8 => k_is)
    (case xa9 => k_is)
    (case xa10 => k_is)
    (case xa11 => k_is)
    (case xa12 => k_is)
    (case xa13 => k_is)
    (case xa14 => k_is)
    (case xa15 => k_is)
    (case xa16 => k_is)
    (case aX => k_is)
    (case lX => k_is)
    (case qX => k_is)
    (case kX => k_is)
    (case aIN => k_is)
    (case lIN => k_is)
    (case qIN => k_is)
    (case kIN => k_is)
    (case aNM => k_is)
    (case lNM => k_is)
    (case qNM => k_is)
    (case kNM => k_is)
    (case aRR => k_is)
    (case lRR => k_is)
    (case qRR => k_is)
    (case kRR => k_is)
    (case aRO => k_is)
    (case lRO => k_is)
    (case qRO => k_is)
    (case kRO => k_is)
    (case aPS => k_is)
    (case lPS => k_is)
    (case qPS => k_is)
    (case kPS => k_is)
    (case aPO => k_is)
    (case lPO => k_is)
    (case qPO => k_is)
    (case kPO => k_is)
    (case aS => k_is)
    (case lS => k_is)
    (case qS => k_is)
    (case kS => k_is)
    (case aD => k_is)
    (case lD => k_is)
    (case qD => k_is)
    (case kD => k_is)
    (case aW => k_is)
    (case lW => k_is)
    (case qW => k_is)
    (case kW => k_is)
    (case aNA => k_is)
    (case lNA => k_is)
    (case qNA => k_is)
    (case kNA => k_is)
    (case aGR => k_is)
    (case lGR => k_is)
    (case qGR => k_is)
    (case kGR => k_is)
    (case aNU => k_is)
    (case lNU => k_is)
    (case qNU => k_is)
    (case kNU => k_is)
    (case aFO => k_is)
    (case lFO => k_is)
    (case qFO => k_is)
    (case kFO => k_is)
    (case aRW => k_is)
    (case lRW => k_is)
    (case qRW => k_is)
    (case kRW => k_is)
    (case aTX => k_is)
    (case lTX => k_is)
    (case qTX => k_is)
    (case kTX => k_is)
    (case aSG => k_is)
    (case lSG => k_is)
    (case qSG => k_is)
    (case kSG => k_is)
    (case aOD => k_is)
    (case lOD => k_is)
    (case qOD => k_is)
    (case kOD => k_is)
    (case aSP => k_is)
    (case lSP => k_is)
    (case qSP => k_is)
    (case kSP => k_is)
    (case aWD => k_is)
    (case lWD => k_is)
    (case qWD => k_is)
    (case kWD => k_is)
    (case aRN => k_is)
    (case lRN => k_is)
    (case qRN => k_is)
    (case kRN => k_is)
    (case aRM => k_is)
    (case lRM => k_is)
    (case qRM => k_is)
    (case kRM => k_is)
    (case aDU => k_is)
    (case lDU => k_is)
    (case qDU => k_is)
    (case kDU => k_is)
    (case aRF => k_is)
    (case lRF => k_is)
    (case qRF => k_is)
    (case kRF => k_is)
    (case aAS => k_is)
    (case lAS => k_is)
    (case qAS => k_is)
    (case kAS => k_is)
    (case aSM => k_is)
    (case lSM => k_is)
    (case qSM => k_is)
    (case kSM => k_is)
    (case aL => k_is)
    (case lL => k_is)
    (case qL => k_is)
    (case kL => k_is)
    (case hTIN => kernel_rfl)
    (case hTNM => kernel_rfl)
    (case aFM => k_is)
    (case fOK => kernel_rfl)
    (case sLE => kernel_rfl)
    (case sFI => kernel_rfl)
    (case iLO => kernel_rfl)
    (case iMF => kernel_rfl)
    (case iLG => kernel_rfl)
    (case gl0 => k_is)
    (case gl1 => k_is)
    (case gl2 => k_is)
    (case gl3 => k_is)
    (case gl4 => k_is)
    (case gl5 => k_is)
    (case gl6 => k_is)
    (case gl7 => k_is)
    (case gl8 => k_is)
    (case gl9 => k_is)
    (case gl10 => k_is)
    (case gl11 => k_is)
    (case gl12 => k_is)
    (case gl13 => k_is)
    (case gl14 => k_is)
    (case gl15 => k_is)
    (case gl16 => k_is)
    (case xV => k_is)
    (case xft => k_is)
    (case xgn => kernel_rfl)
    (case xtk => kernel_rfl)
    (case xck1 => kernel_rfl)
    (case xckD => kernel_rfl)
    (case xk1 => kernel_rfl)
    (case xk2 => kernel_rfl)
    (case xk3 => kernel_rfl)
