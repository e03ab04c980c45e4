import PyProof.Rows.All
import Wide.All
import OpenK.AllK
import Wide.FinOn
import Lean
import PyProof.EqAt
import PyProof.EqKinds
import PyProof.TupleCall
import PyProof.AttrMiss
import PyProof.IsiH_tuple
import KE.KDictOf
import PyProof.ZipIter
import PyProof.Draws
import PyProof.Rows.FactsT2
import KE.KRevIter
import PyProof.EnumStmt
import PyProof.TupleOps
import PyProof.ListRange
import PyProof.NeKinds
import PyProof.EnumFor
import PyProof.EnumMake
import PySem.Challenge.RW_everyfork_k07_lines_and_spots
set_option Elab.async false
set_option linter.all false
set_option maxRecDepth 100000
/-! THE HAND LAYER, for ints, bools, texts, own classes, LISTS and tuples (index, slices, in, append, pop ..), calls, loops. Paste it whole ahead of your own text; what your proof does not reach may be deleted. -/
namespace L2
open PySem PySem.Spec PyProof.Rows

/-- a key: an int or a str -/
abbrev Key := Sum Int Str
def keyIs : Key → Value → Bool
  | .inl k, v => Value.isInt k v
  | .inr x, v => Value.isStrOf x v
def keyH (w : World) : Key → Int
  | .inl k => hashInt k
  | .inr x => hashStr w x
theorem keyIs_shape : ∀ {k : Key} {v : Value}, keyIs k v = true → (∃ i t, k = Sum.inl i ∧ v = Value.int i t) ∨ (∃ x t, k = Sum.inr x ∧ v = Value.str x t)
  | .inl i, v, h => by
    obtain ⟨t, e⟩ := Value.isInt_shape (k := i) (v := v) h
    exact .inl ⟨i, t, rfl, e⟩
  | .inr x, v, h => by
    obtain ⟨t, e⟩ := Value.isStrOf_shape (x := x) (v := v) h
    exact .inr ⟨x, t, rfl, e⟩
theorem keyIs_int (i : Int) (t : Tok) : keyIs (.inl i) (.int i t) = true := by simp [keyIs, Value.isInt]
theorem keyIs_str (x : Str) (t : Tok) : keyIs (.inr x) (.str x t) = true := by simp [keyIs, Value.isStrOf]
theorem key_ll (a b : Int) : decide ((Sum.inl a : Key) = Sum.inl b) = (a == b) := by
  by_cases e : a = b
  · subst e; simp
  · have h : ¬ (Sum.inl a : Key) = Sum.inl b := fun q => e (Sum.inl.inj q)
    rw [decide_eq_false h]
    exact (beq_eq_false_iff_ne.mpr e).symm
theorem key_rr (a b : Str) : decide ((Sum.inr a : Key) = Sum.inr b) = decide (a = b) := by
  by_cases e : a = b
  · subst e; simp
  · have h : ¬ (Sum.inr a : Key) = Sum.inr b := fun q => e (Sum.inr.inj q)
    rw [decide_eq_false h, decide_eq_false e]
theorem key_lr (a : Int) (b : Str) : decide ((Sum.inl a : Key) = Sum.inr b) = false := decide_eq_false (fun q => nomatch q)
theorem key_rl (a : Str) (b : Int) : decide ((Sum.inr a : Key) = Sum.inl b) = false := decide_eq_false (fun q => nomatch q)

def mixKind (prog : Program) (w : World) : PySem.KeyKind prog w Key where
  is := keyIs
  hash := keyH w
  inj := fun v a b ha hb => by
    rcases keyIs_shape ha with ⟨i, t, rfl, rfl⟩ | ⟨x, t, rfl, rfl⟩
    · rcases keyIs_shape hb with ⟨j, u, rfl, e⟩ | ⟨y, u, rfl, e⟩
      · injection e with e1 _; rw [e1]
      · exact nomatch e
    · rcases keyIs_shape hb with ⟨j, u, rfl, e⟩ | ⟨y, u, rfl, e⟩
      · exact nomatch e
      · injection e with e1 _; rw [e1]
  byValue := fun k v h => by
    rcases keyIs_shape h with ⟨i, t, rfl, rfl⟩ | ⟨x, t, rfl, rfl⟩ <;> rfl
  pyHash := fun hv h => by
    rcases keyIs_shape hv with ⟨i, t, rfl, rfl⟩ | ⟨x, t, rfl, rfl⟩
    · exact wpAny_pyHash_int h
    · exact wpAny_pyHash_str h
  eqBool := fun hu hv h => by
    rcases keyIs_shape hu with ⟨i, t, rfl, rfl⟩ | ⟨x, t, rfl, rfl⟩
    · rcases keyIs_shape hv with ⟨j, u, rfl, rfl⟩ | ⟨y, u, rfl, rfl⟩
      · rw [key_ll] at h; exact wpAny_eqBool_int h
      · rw [key_lr] at h; exact SeqAt.EqAt.int_str i t y u _ _ _ _ h
    · rcases keyIs_shape hv with ⟨j, u, rfl, rfl⟩ | ⟨y, u, rfl, rfl⟩
      · rw [key_rl] at h; exact SeqAt.EqAt.str_int x t j u _ _ _ _ h
      · rw [key_rr] at h; exact wpAny_eqBool_str h
  «strs» := fun k x t v h => by
    rcases keyIs_shape h with ⟨i, u, rfl, e⟩ | ⟨y, u, rfl, e⟩
    · exact nomatch e
    · injection e with e1 _
      subst e1
      cases v <;> rfl

theorem mixKind_int (prog : Program) (w : World) (i : Int) (t : Tok) : (mixKind prog w).is (.inl i) (.int i t) = true := keyIs_int i t
theorem mixKind_str (prog : Program) (w : World) (x : Str) (t : Tok) : (mixKind prog w).is (.inr x) (.str x t) = true := keyIs_str x t
end L2

namespace L2
open PySem PySem.Spec PyProof.Rows

/-- a value, without the heap -/
inductive V where
  | non | bl (b : Bool) | int (i : Int) | str (x : Str) | byt (b : Array UInt8) | flt (b : UInt64) | ref (a : Addr) | ty (n : String)
  deriving DecidableEq

def RelV : V → Value → Prop
  | .non, u => u = Value.none
  | .bl b, u => u = Value.bool b
  | .int i, u => ∃ t, u = Value.int i t
  | .str x, u => ∃ t, u = Value.str x t
  | .byt b, u => ∃ t, u = Value.bytes b t
  | .flt b, u => ∃ t, u = Value.float b t
  | .ref a, u => u = Value.ref a
  | .ty n, u => u = Value.type n

abbrev Vals : List V → List Value → Prop := Paired RelV
theorem Vals.length {xs : List V} {us : List Value} (r : Vals xs us) : xs.length = us.length := Paired.length r
theorem Vals.get : ∀ {xs : List V} {us : List Value} {i : Nat} {x : V}, Vals xs us → xs[i]? = some x → ∃ u, us[i]? = some u ∧ RelV x u
  | _, _, _, _, .nil, e => by simp at e
  | _, _, 0, _, .cons r _, e => by simp at e; subst e; exact ⟨_, rfl, r⟩
  | _, _, i + 1, x, .cons _ t, e => by
    obtain ⟨u, h1, h2⟩ := Vals.get (i := i) (x := x) t (by simpa using e)
    exact ⟨u, by simpa using h1, h2⟩
theorem Vals.set {x : V} {u : Value} (r : RelV x u) : ∀ {xs : List V} {us : List Value} (i : Nat), Vals xs us → Vals (xs.set i x) (us.set i u)
  | _, _, _, .nil => .nil
  | _, _, 0, .cons _ t => .cons r t
  | _, _, i + 1, .cons q t => .cons q (Vals.set r i t)
theorem Vals.append : ∀ {xs ys : List V} {us ws : List Value}, Vals xs us → Vals ys ws → Vals (xs ++ ys) (us ++ ws)
  | _, _, _, _, .nil, s => s
  | _, _, _, _, .cons r t, s => .cons r (Vals.append t s)
theorem Vals.take : ∀ {xs : List V} {us : List Value} (n : Nat), Vals xs us → Vals (xs.take n) (us.take n)
  | _, _, 0, _ => .nil
  | _, _, _ + 1, .nil => .nil
  | _, _, n + 1, .cons r t => .cons r (Vals.take n t)
theorem Vals.drop : ∀ {xs : List V} {us : List Value} (n : Nat), Vals xs us → Vals (xs.drop n) (us.drop n)
  | _, _, 0, r => r
  | _, _, _ + 1, .nil => .nil
  | _, _, n + 1, .cons _ t => Vals.drop n t
def RelO : Option V → Option Value → Prop
  | some v, some u => RelV v u
  | none, none => True
  | _, _ => False
def KV {κ : Type} : List (κ × V) → List (κ × Value) → Prop := Paired fun (p : κ × V) (q : κ × Value) => p.1 = q.1 ∧ RelV p.2 q.2

/-- a key of a dict (00_mix): an int or a text -/
def kV : Key → V
  | .inl i => .int i
  | .inr x => .str x

/-- what stands at a tracked address -/
inductive HO where
  /-- a list -/
  | lst (xs : List V)
  /-- a tuple (never changes) -/
  | tup (xs : List V)
  /-- a dict whose keys are ints and texts; one whose keys are tuples of ints and texts (the empty one is both) -/
  | dK (kvs : List (Key × V)) | dT (kvs : List (List Key × V))
  /-- a set of ints: its members, its size -/
  | set (S : Int → Bool) (n : Nat)
  /-- an instance of the class at C, its dict at dx, its attributes -/
  | ins (C dx : Addr) (fs : List (Str × V))
  /-- the dict of the instance at x -/
  | own (x : Addr)
  /-- the dict of an exception -/
  | xd (fs : List (Str × V))
  /-- a bound method, f of x -/
  | met (f x : Addr)
  /-- a range object lo, lo + 1, .. below hi -/
  | rng (lo hi : Int)
  /-- a thing that is known to the object (the script; a dict while a loop walks it): read, never written while it is so -/
  | frz (o : Obj) (u : HO)
  /-- a code object's table -/
  | tbl (ps : Array Value)
  /-- any other thing, by what is true of its one object (a def of one's own: SetO a S n := HO.ext fun h => ..) -/
  | ext (φ : Heap → Prop)

abbrev Hp := Addr → Option HO
def upd (H : Hp) (a : Addr) (o : HO) : Hp := fun b => if b = a then some o else H b
theorem upd_same {H : Hp} {a : Addr} {o : HO} : upd H a o a = some o := by unfold upd; rw [if_pos rfl]
theorem upd_ne {H : Hp} {a b : Addr} {o : HO} (h : b ≠ a) : upd H a o b = H b := by unfold upd; rw [if_neg h]
/-- two objects of different content stand apart -/
theorem ne_of {H : Hp} {a b : Addr} {o u : HO} (h : H a = some o) (h' : H b = some u) (d : o ≠ u) : a ≠ b := by
  intro e; subst e; rw [h] at h'; exact d (Option.some.inj h')
theorem ne_of_none {H : Hp} {a b : Addr} {o : HO} (h : H a = some o) (h' : H b = none) : a ≠ b := by
  intro e; subst e; rw [h] at h'; cases h'

section
variable (P : Program) (w : World)
def ObjOk (H : Hp) (h : Heap) (a : Addr) : HO → Prop
  | .lst xs => xs.length ≤ sizeLine ∧ ∃ (its : List Value) (n : Nat), Vals xs its ∧ h.get? a = some { cls := .type "list", data := .seq its.toArray n }
  | .tup xs => xs.length ≤ sizeLine ∧ ∃ its : List Value, Vals xs its ∧ IsTup h a its.toArray ∧ ∃ o, h.get? a = some o ∧ o.dict = none
  | .dK kvs => kvs.length ≤ sizeLine ∧ (a == sysModules) = false ∧ ∃ vs, KV kvs vs ∧ h.DictOf (mixKind P w) a vs
  | .dT kvs => kvs.length ≤ sizeLine ∧ (a == sysModules) = false ∧ ∃ xs : List (List Key × Addr × Value),
      Paired (fun (p : List Key × V) (q : List Key × Addr × Value) => p.1 = q.1 ∧ H q.2.1 = some (.tup (p.1.map kV)) ∧ RelV p.2 q.2.2) kvs xs ∧
      ∃ o es ep, h.get? a = some o ∧ o.ExactDict ∧ o.data = .dict es ep ∧ es.toList = xs.map (entryOfKey (tupleKind (mixKind P w))) ∧ (xs.map (·.1)).Nodup
  | .set S n => h.SetOf (intKind P w) a S n
  | .ins C dx fs => H dx = some (.own a) ∧ fs.length ≤ 1000 ∧ dx ≠ a ∧ h.get? a = some (PySem.W.instObj C dx) ∧
      ∃ mA, h.Ns1 dx mA ∧ (∀ f, RelO (fs.lookup f) (mA f)) ∧ PySem.Within mA (fs.map (·.1))
  | .own _ => ∃ o, h.get? a = some o
  | .xd fs => ∃ mA, h.Ns1 a mA ∧ ∀ f, RelO (fs.lookup f) (mA f)
  | .rng lo hi => ∃ t u v, h.get? a = some { cls := .type "range", data := .fields #[.int lo t, .int hi u, .int 1 v] }
  | .frz o u => h.get? a = some o ∧ ObjOk H h a u
  | .tbl ps => h.get? a = some { cls := .none, data := .fields ps }
  | .met f x => h.get? a = some (PySem.W.methodObj (.ref f) (.ref x))
  | .ext φ => φ h ∧ (∃ o, h.get? a = some o) ∧ ∀ h1 h2 : Heap, φ h1 → (∀ o, h1.get? a = some o → h2.get? a = some o) → φ h2
/-- the abstract heap is held -/
def HOk (H : Hp) (h : Heap) : Prop := ∀ a o, H a = some o → ObjOk P w H h a o
end

section
variable {P : Program} {w : World} {H H' : Hp} {h h' : Heap} {a : Addr} {o : HO}
theorem ObjOk.lt (x : ObjOk P w H h a o) : a < h.objs.size := by
  cases o with
  | lst xs => obtain ⟨_, _, _, _, e⟩ := x; exact Heap.lt_size e
  | tup xs => obtain ⟨_, _, _, p, _⟩ := x; exact p.lt
  | dK kvs => obtain ⟨_, _, _, _, o, _, _, e, _⟩ := x; exact Heap.lt_size e
  | dT kvs => obtain ⟨_, _, _, _, o, _, _, e, _⟩ := x; exact Heap.lt_size e
  | set S n => obtain ⟨o, _, _, _, e, _⟩ := x; exact Heap.lt_size e
  | ins C dx fs => obtain ⟨_, _, _, e, _⟩ := x; exact Heap.lt_size e
  | own y => obtain ⟨_, e⟩ := x; exact Heap.lt_size e
  | xd fs => obtain ⟨_, ⟨_, _, _, e, _⟩, _⟩ := x; exact Heap.lt_size e
  | rng lo hi => obtain ⟨_, _, _, e⟩ := x; exact Heap.lt_size e
  | frz ob u => obtain ⟨e, _⟩ := x; exact Heap.lt_size e
  | tbl ps => exact Heap.lt_size (show h.get? a = some _ from x)
  | met f y => exact Heap.lt_size (show h.get? a = some _ from x)
  | ext φ => obtain ⟨_, ⟨_, e⟩, _⟩ := x; exact Heap.lt_size e
theorem Paired.mapP {α β : Type} {F G : α → β → Prop} : ∀ {l₁ : List α} {l₂ : List β}, Paired F l₁ l₂ → (∀ a b, F a b → G a b) → Paired G l₁ l₂
  | _, _, .nil, _ => .nil
  | _, _, .cons r t, f => .cons (f _ _ r) (Paired.mapP t f)
/-- what an object's description leans on: its own object, its own dict, the tuples -/
theorem ObjOk.stay (x : ObjOk P w H h a o) (k : ∀ b u, (b = a ∨ H b = some (.own a)) → h.get? b = some u → h'.get? b = some u)
    (ho : ∀ b, H b = some (.own a) → H' b = some (.own a)) (ht : ∀ b xs, H b = some (.tup xs) → H' b = some (.tup xs)) : ObjOk P w H' h' a o := by
  induction o with
  | lst xs => obtain ⟨z, its, n, r, e⟩ := x; exact ⟨z, its, n, r, k _ _ (.inl rfl) e⟩
  | tup xs => obtain ⟨z, its, r, ⟨ob, e, c⟩, o2, e2, d2⟩ := x; exact ⟨z, its, r, ⟨ob, k _ _ (.inl rfl) e, c⟩, o2, k _ _ (.inl rfl) e2, d2⟩
  | dK kvs => obtain ⟨z, y, vs, r, ob, es, ep, e, c⟩ := x; exact ⟨z, y, vs, r, ob, es, ep, k _ _ (.inl rfl) e, c⟩
  | dT kvs =>
    obtain ⟨z, y, xs, r, ob, es, ep, e, c⟩ := x
    exact ⟨z, y, xs, Paired.mapP r fun p q z => ⟨z.1, ht _ _ z.2.1, z.2.2⟩, ob, es, ep, k _ _ (.inl rfl) e, c⟩
  | set S n => obtain ⟨ob, es, ep, t, e, c⟩ := x; exact ⟨ob, es, ep, t, k _ _ (.inl rfl) e, c⟩
  | ins C dx fs =>
    obtain ⟨d, z, ne, e, mA, ⟨od, es, ep, e2, c⟩, r⟩ := x
    exact ⟨ho _ d, z, ne, k _ _ (.inl rfl) e, mA, ⟨od, es, ep, k _ _ (.inr d) e2, c⟩, r⟩
  | own y => obtain ⟨ob, e⟩ := x; exact ⟨ob, k _ _ (.inl rfl) e⟩
  | xd fs => obtain ⟨mA, ⟨od, es, ep, e, c⟩, r⟩ := x; exact ⟨mA, ⟨od, es, ep, k _ _ (.inl rfl) e, c⟩, r⟩
  | rng lo hi => obtain ⟨t, u, v, e⟩ := x; exact ⟨t, u, v, k _ _ (.inl rfl) e⟩
  | frz ob u ih => obtain ⟨e, q⟩ := x; exact ⟨k _ _ (.inl rfl) e, ih q⟩
  | tbl ps =>
    have e : h.get? a = some { cls := .none, data := .fields ps } := x
    show h'.get? a = some { cls := .none, data := .fields ps }
    exact k a _ (.inl rfl) e
  | met f y =>
    have e : h.get? a = some (PySem.W.methodObj (.ref f) (.ref y)) := x
    show h'.get? a = some (PySem.W.methodObj (.ref f) (.ref y))
    exact k a _ (.inl rfl) e
  | ext φ => obtain ⟨p, ⟨o, e⟩, st⟩ := x; exact ⟨st _ _ p fun o q => k _ _ (.inl rfl) q, ⟨o, k _ _ (.inl rfl) e⟩, st⟩
theorem HOk.lt (x : HOk P w H h) (e : H a = some o) : a < h.objs.size := (x a o e).lt
theorem HOk.fresh (x : HOk P w H h) (e : h.objs.size ≤ a) : H a = none := by
  cases q : H a with
  | none => rfl
  | some u => exact absurd (Nat.lt_of_lt_of_le (x.lt q) e) (Nat.lt_irrefl _)
/-- every object of the heap is kept -/
theorem HOk.kept (x : HOk P w H h) (k : ∀ b u, h.get? b = some u → h'.get? b = some u) : HOk P w H h' := fun a o e =>
  (x a o e).stay (fun b u _ q => k b u q) (fun _ q => q) fun _ _ q => q
/-- a new object is laid and tracked -/
theorem HOk.laid (x : HOk P w H h) (k : ∀ b u, h.get? b = some u → h'.get? b = some u) (hp : h.objs.size ≤ a) (new : ObjOk P w (upd H a o) h' a o) : HOk P w (upd H a o) h' := fun b u e => by
  have hn := x.fresh hp
  by_cases hb : b = a
  · subst hb; rw [upd_same] at e; cases e; exact new
  · rw [upd_ne hb] at e
    exact (x b u e).stay (fun c v _ q => k c v q) (fun c q => by rw [upd_ne (ne_of_none q hn)]; exact q) fun c xs q => by rw [upd_ne (ne_of_none q hn)]; exact q
end

/-- what may be read as u: it is u, or a known u -/
def Rd (H : Hp) (a : Addr) (u : HO) : Prop := H a = some u ∨ ∃ o, H a = some (.frz o u)
theorem Rd.of {H : Hp} {a : Addr} {u : HO} (h : H a = some u) : Rd H a u := .inl h
theorem Rd.ok {P : Program} {w : World} {H : Hp} {h : Heap} {a : Addr} {u : HO} (r : Rd H a u) (x : HOk P w H h) : ObjOk P w H h a u := by
  rcases r with r | ⟨o, r⟩
  · exact x a u r
  · obtain ⟨_, q⟩ := x a _ r
    exact q
/-- what may be written -/
def Mut : Option HO → Prop
  | some (.lst _) => True
  | some (.dK _) => True
  | some (.dT _) => True
  | some (.set _ _) => True
  | some (.ins _ _ _) => True
  | some (.ext _) => True
  | _ => False
section
variable {P : Program} {w : World} {H : Hp} {h h' : Heap} {x e : Addr} {o' : HO}
/-- the object at e is changed: x itself, or the dict of the instance x -/
theorem HOk.write (ok : HOk P w H h) (mu : Mut (H x)) (he : e = x ∨ H e = some (.own x)) (k : ∀ b u, b ≠ e → h.get? b = some u → h'.get? b = some u) (heo : ∃ u, h'.get? e = some u)
    (new : ObjOk P w (upd H x o') h' x o') : HOk P w (upd H x o') h' := fun b u q => by
  have nown : ∀ c y, H c = some (.own y) → c ≠ x := fun c y r z => by subst z; rw [r] at mu; exact mu
  have ntup : ∀ c xs, H c = some (.tup xs) → c ≠ x := fun c xs r z => by subst z; rw [r] at mu; exact mu
  by_cases hb : b = x
  · subst hb; rw [upd_same] at q; cases q; exact new
  · rw [upd_ne hb] at q
    by_cases hbe : b = e
    · have q' : H b = some (.own x) := by
        rcases he with z | z
        · exact absurd (hbe.trans z) hb
        · rw [hbe]; exact z
      rw [q] at q'; cases q'
      obtain ⟨v, hv⟩ := heo
      exact ⟨v, by rw [hbe]; exact hv⟩
    · refine (ok b u q).stay (fun c v hc r => k c v ?_ r) (fun c r => by rw [upd_ne (nown c b r)]; exact r) fun c xs r => by rw [upd_ne (ntup c xs r)]; exact r
      rcases hc with rfl | hc
      · exact hbe
      · rintro rfl
        rcases he with z | z
        · exact nown c b hc z
        · rw [hc] at z; cases z; exact hb rfl
end

/-! ### kept unless tracked; of the frames at fs (the callers') the slots may change (an exception that passes writes there); of the records at ex (iterators) nothing is said -/
structure Un (fs ex : List Addr) (H H' : Hp) (h h' : Heap) : Prop where
  keep : ∀ b o, h.get? b = some o → H b = none → b ∉ fs → b ∉ ex → h'.get? b = some o
  slot : ∀ b o, h.get? b = some o → H b = none → b ∈ fs → b ∉ ex → ∃ sl, h'.get? b = some { o with slots := sl }
  free : ∀ b o, h.get? b = some o → H b = none → b ∉ ex → H' b = none
  there : ∀ b o, h.get? b = some o → b ∉ ex → ∃ o', h'.get? b = some o'
  tups : ∀ b xs, H b = some (.tup xs) → H' b = some (.tup xs)
  frzs : ∀ b o u, H b = some (.frz o u) → H' b = some (.frz o u)
  tbls : ∀ b ps, H b = some (.tbl ps) → ∃ more, H' b = some (.tbl (ps ++ more))
section
variable {fs fs' ex ex' : List Addr} {H H1 H2 : Hp} {h h1 h2 h' : Heap} {a x e : Addr} {o : HO}
theorem Un.any (u : Un fs ex H H1 h h1) {b : Addr} {ob : Obj} (q : h.get? b = some ob) (n : H b = none) (hx : b ∉ ex) : ∃ sl, h1.get? b = some { ob with slots := sl } := by
  by_cases hb : b ∈ fs
  · exact u.slot b ob q n hb hx
  · exact ⟨ob.slots, u.keep b ob q n hb hx⟩
theorem Un.trans (a : Un fs ex H H1 h h1) (b : Un fs ex H1 H2 h1 h2) : Un fs ex H H2 h h2 where
  keep := fun c ob q n hc hx => b.keep c ob (a.keep c ob q n hc hx) (a.free c ob q n hx) hc hx
  slot := fun c ob q n hc hx => by
    obtain ⟨sl, e1⟩ := a.slot c ob q n hc hx
    obtain ⟨sl', e2⟩ := b.slot c _ e1 (a.free c ob q n hx) hc hx
    exact ⟨sl', e2⟩
  free := fun c ob q n hx => by
    obtain ⟨o', e1⟩ := a.there c ob q hx
    exact b.free c o' e1 (a.free c ob q n hx) hx
  there := fun c ob q hx => by
    obtain ⟨o', e1⟩ := a.there c ob q hx
    exact b.there c o' e1 hx
  tups := fun c xs q => b.tups c xs (a.tups c xs q)
  frzs := fun c ob xs q => b.frzs c ob xs (a.frzs c ob xs q)
  tbls := fun c ps q => by
    obtain ⟨m1, e1⟩ := a.tbls c ps q
    obtain ⟨m2, e2⟩ := b.tbls c _ e1
    exact ⟨m1 ++ m2, by rw [e2, Array.append_assoc]⟩
theorem Un.kept (k : ∀ b u, h.get? b = some u → h'.get? b = some u) : Un fs ex H H h h' :=
  ⟨fun b ob q _ _ _ => k b ob q, fun b ob q _ _ _ => ⟨ob.slots, k b ob q⟩, fun _ _ _ n _ => n, fun b ob q _ => ⟨ob, k b ob q⟩, fun _ _ q => q, fun _ _ _ q => q, fun _ ps q => ⟨#[], by rw [q]; simp⟩⟩
theorem Un.refl : Un fs ex H H h h := Un.kept fun _ _ q => q
theorem Un.laid (k : ∀ b u, h.get? b = some u → h'.get? b = some u) (hp : h.objs.size ≤ a) (hn : H a = none) : Un fs ex H (upd H a o) h h' where
  keep := fun b u q _ _ _ => k b u q
  slot := fun b u q _ _ _ => ⟨u.slots, k b u q⟩
  free := fun b u q n _ => by rw [upd_ne (Nat.ne_of_lt (Nat.lt_of_lt_of_le (Heap.lt_size q) hp))]; exact n
  there := fun b u q _ => ⟨u, k b u q⟩
  tups := fun b xs q => by rw [upd_ne (ne_of_none q hn)]; exact q
  frzs := fun b u xs q => by rw [upd_ne (ne_of_none q hn)]; exact q
  tbls := fun b ps q => ⟨#[], by rw [upd_ne (ne_of_none q hn), q]; simp⟩
theorem Un.write (mu : Mut (H x)) (he : e = x ∨ H e = some (.own x)) (k : ∀ b u, b ≠ e → h.get? b = some u → h'.get? b = some u) (heo : ∃ u, h'.get? e = some u) : Un fs ex H (upd H x o) h h' := by
  have hx : ∀ b, H b = none → b ≠ x := fun b n z => by subst z; rw [n] at mu; exact mu
  have hb : ∀ b, H b = none → b ≠ e := fun b n z => by
    subst z
    rcases he with r | r
    · exact hx b n r
    · rw [n] at r; cases r
  have hm : ∀ b u, H b = some u → ¬ Mut (some u) → b ≠ x := fun b u q nm z => by subst z; rw [q] at mu; exact nm mu
  refine ⟨fun b u q n _ _ => k b u (hb b n) q, fun b u q n _ _ => ⟨u.slots, k b u (hb b n) q⟩, fun b u q n _ => by rw [upd_ne (hx b n)]; exact n, fun b u q _ => ?_,
    fun b xs q => by rw [upd_ne (hm b _ q fun z => z)]; exact q, fun b u xs q => by rw [upd_ne (hm b _ q fun z => z)]; exact q, fun b ps q => ⟨#[], by rw [upd_ne (hm b _ q fun z => z), q]; simp⟩⟩
  by_cases hbe : b = e
  · subst hbe; exact heo
  · exact ⟨u, k b u hbe q⟩
theorem Un.mono (u : Un fs ex H H1 h h1) (hs : ∀ b ∈ fs, b ∈ fs') (hx : ∀ b ∈ ex, b ∈ ex') : Un fs' ex' H H1 h h1 :=
  ⟨fun b ob q n hb he => u.keep b ob q n (fun z => hb (hs b z)) fun z => he (hx b z), fun _ _ q n _ he => u.any q n fun z => he (hx _ z), fun b ob q n he => u.free b ob q n fun z => he (hx b z), fun b ob q he => u.there b ob q fun z => he (hx b z), u.tups, u.frzs, u.tbls⟩
end

/-! ### the heap without what is tracked -/
def trk (h : Heap) (H : Hp) : List Addr := (List.range h.objs.size).filter fun a => (H a).isSome
def hidT (h : Heap) (H : Hp) : Heap := PySem.W.hideAll h (trk h H)
theorem hidT_size (h : Heap) (H : Hp) : (hidT h H).objs.size = h.objs.size := PySem.W.hideAll_size _ _
theorem hidT_get {h : Heap} {H : Hp} {b : Addr} {o : Obj} (e : h.get? b = some o) (n : H b = none) : (hidT h H).get? b = some o :=
  PySem.W.hideAll_get _ e fun hm => by
    have q : (H b).isSome = true := (List.mem_filter.mp hm).2
    rw [n] at q; simp at q
theorem of_hidT {h : Heap} {H : Hp} {b : Addr} {o : Obj} (e : (hidT h H).get? b = some o) : h.get? b = some o ∧ H b = none := by
  have e' : h.get? b = some o := PySem.W.of_hideAll (trk h H) e
  refine ⟨e', ?_⟩
  cases q : H b with
  | none => rfl
  | some x =>
    have hm : b ∈ trk h H := List.mem_filter.mpr ⟨List.mem_range.mpr (Heap.lt_size e'), by simp [q]⟩
    have z : (hidT h H).get? b = none := PySem.W.hideAll_none (trk h H) hm
    rw [z] at e; cases e

/-! ### OpenK's ledger, filled with every new object but one -/
def allNews (g h : Heap) (L : Addr) : List (Addr × Obj) := (List.range h.objs.size).filterMap fun a => if a = L ∨ (g.get? a).isSome = true then none else (h.get? a).map fun o => (a, o)
def rest (g h : Heap) (L d : Addr) : List (Addr × Obj) := (allNews g h L).filter fun p => decide (p.1 ≠ d)
end L2

namespace L2
open PySem PySem.Spec PyProof.Rows

/-- the module's facts, over the base: the heap at the law's entry without what is tracked there -/
structure Mod (K : PySem.W.Frag) (mg : Str → Option Value) (base : Heap) : Prop where
  kin : K.In base
  glob : base.Ns mainGlobals mg
  blt : ∃ mb, base.Ns builtinsNs mb ∧ ∀ x : Str, x ≠ "__name__" → mb x = bootBuiltins x
  nolimit : base.NoLimit

/-- the context: a def's body (or a comprehension's block) running. base: fixed through the whole law; s₀, H₀: the entry; outer: the frames whose slots others may change (a def's callers); stack: all frames that run;
   ex: iterators that were made ahead of the entry and are walked here (a comprehension's); fn: the names whose cells were made at the entry (a def: all; a comprehension's block: its own); calm: not within an except suite; pn: pins that every state bears; xe: what is wanted of an exception that leaves the code -/
structure Cx where
  prog : Program
  w : World
  K : PySem.W.Frag
  mg : Str → Option Value
  base : Heap
  A : Around
  N : List Str
  s₀ : Shared
  H₀ : Hp
  env : Env
  outer : List Env
  stack : List Env
  ex : List Addr
  fn : Str → Bool
  calm : Bool
  pn : List (Addr × Obj)
  xe : Value → Shared → Prop
/-- the callers' frames -/
def frs (l : List Env) : List Addr := l.filterMap (·.frame)
abbrev Cx.fs (X : Cx) : List Addr := frs X.outer

def Vis (sc : Scope) (x : Str) : Prop := sc.names.lookup x = some .local ∨ sc.names.lookup x = some .cell ∨ sc.names.lookup x = some .free
def Loc (sc : Scope) (x : Str) : Prop := sc.names.lookup x = some .local ∨ sc.names.lookup x = some .cell
def Look (env : Env) (h : Heap) (m : Str → Option Value) (x : Str) (u : Value) : Prop :=
  (env.kindOf x = some .local ∧ m x = some u) ∨ ((env.kindOf x = some .cell ∨ env.kindOf x = some .free) ∧ ∃ c, env.cells.lookup x = some c ∧ h.IsCell c (some u))

structure Cx.Ok (X : Cx) : Prop where
  mod : Mod X.K X.mg X.base
  kind : X.env.scope.kind = .function
  glob : X.env.globals = mainGlobals
  blt : X.env.builtins = builtinsNs
  above : X.s₀.heap.objs.size ≤ X.env.locals
  inj : ∀ x y c, X.env.cells.lookup x = some c → X.env.cells.lookup y = some c → x = y
  has : ∀ x, (X.env.kindOf x = some .cell ∨ X.env.kindOf x = some .free) → ∃ c, X.env.cells.lookup x = some c
  cab : ∀ x c, X.fn x = true → X.env.cells.lookup x = some c → X.s₀.heap.objs.size ≤ c
  hd : X.calm = true → X.A.handled = none
  frames : X.A.frames = some X.stack
  stk : X.stack = X.outer ∨ (X.stack = X.env :: X.outer ∧ X.env.frame = some X.env.locals)
  exf : ∀ b ∈ X.ex, b ≠ X.env.locals ∧ ∀ x c, X.env.cells.lookup x = some c → c ≠ b
  bs : ∀ b o, X.base.get? b = some o → X.s₀.heap.get? b = some o ∧ X.H₀ b = none
  bsz : X.base.objs.size ≤ X.s₀.heap.objs.size
  noex : ∀ b o, X.base.get? b = some o → b ∉ X.ex
  exfs : ∀ b ∈ X.ex, b ∉ X.fs
  funs : X.s₀.heap.FunFrames X.base X.outer
  frf : ∀ b ∈ X.fs, X.H₀ b = none

structure Inv (X : Cx) (pins : List (Addr × Obj)) (σ : List (Option V)) (H : Hp) (s : Shared) : Prop where
  ok : X.Ok
  os : s.os = X.s₀.os
  bare : AllBare s.gens
  base : Un X.fs X.ex X.H₀ H X.s₀.heap s.heap
  loc : ∃ m, s.heap.Ns X.env.locals m ∧ ∀ (i : Nat) (x : Str) (v : V), X.N[i]? = some x → σ[i]? = some (some v) → Vis X.env.scope x → ∃ u, RelV v u ∧ Look X.env s.heap m x u
  cell : ∀ x c, X.env.cells.lookup x = some c → ∃ v, s.heap.IsCell c v
  free : H X.env.locals = none
  freeC : ∀ x c, X.env.cells.lookup x = some c → H c = none
  pin : ∀ p ∈ X.pn ++ pins, s.heap.get? p.1 = some p.2 ∧ H p.1 = none ∧ p.1 ≠ X.env.locals ∧ p.1 ∉ X.fs ∧ ∀ v, p.2.data ≠ .cell v
  hok : HOk X.prog X.w H s.heap
  len : σ.length = X.N.length

section
variable {X : Cx} {pins : List (Addr × Obj)} {σ : List (Option V)} {H H' : Hp} {s : Shared} {h' : Heap}

theorem Cx.Ok.nofr (ok : X.Ok) {b : Addr} {o : Obj} (e : X.base.get? b = some o) : b ∉ X.fs := fun hb => by
  have := (ok.funs.mem hb).1
  rw [e] at this; cases this
theorem Inv.bs (I : Inv X pins σ H s) : ∀ b o, X.base.get? b = some o → s.heap.get? b = some o ∧ H b = none := fun b o e =>
  ⟨I.base.keep b o (I.ok.bs b o e).1 (I.ok.bs b o e).2 (I.ok.nofr e) (I.ok.noex b o e), I.base.free b o (I.ok.bs b o e).1 (I.ok.bs b o e).2 (I.ok.noex b o e)⟩
theorem Inv.bk (I : Inv X pins σ H s) : ∀ b o, X.base.get? b = some o → s.heap.get? b = some o := fun b o e => (I.bs b o e).1
theorem Inv.mod (I : Inv X pins σ H s) : Mod X.K X.mg X.base := I.ok.mod
theorem Inv.kIn (I : Inv X pins σ H s) : X.K.In s.heap := I.ok.mod.kin.keeps I.bk
theorem Inv.nolimit (I : Inv X pins σ H s) : s.heap.NoLimit := I.ok.mod.nolimit.keeps I.bk
/-- the frame over the base: for OpenK's rules (K.In X.base is I.mod.kin) -/
theorem Inv.fr (I : Inv X pins σ H s) : ∃ m, Fr X.base X.env.locals s.heap m :=
  let ⟨m, hn, _⟩ := I.loc
  ⟨m, hn, I.bk, Nat.le_trans I.ok.bsz I.ok.above⟩
theorem Inv.lt (I : Inv X pins σ H s) : X.env.locals < s.heap.objs.size := let ⟨_, hn, _⟩ := I.loc; hn.lt
theorem Inv.sz (I : Inv X pins σ H s) : X.s₀.heap.objs.size ≤ s.heap.objs.size := Nat.le_trans I.ok.above (Nat.le_of_lt I.lt)
theorem Inv.nofs (I : Inv X pins σ H s) {a : Addr} (h : s.heap.objs.size ≤ a) : a ∉ X.fs := fun hb => by
  obtain ⟨_, o, ho, _⟩ := I.ok.funs.mem hb
  exact absurd (Nat.lt_of_lt_of_le (Heap.lt_size ho) (Nat.le_trans I.sz h)) (Nat.lt_irrefl _)
theorem Inv.cne (I : Inv X pins σ H s) : ∀ x c, X.env.cells.lookup x = some c → c ≠ X.env.locals := fun x c e z => by
  obtain ⟨v, o, ho, hd⟩ := I.cell x c e
  obtain ⟨m, ⟨o', es, ep, ho', hd', _⟩, _⟩ := I.loc
  rw [z, ho'] at ho; cases ho; rw [hd'] at hd; cases hd
theorem Inv.funs (I : Inv X pins σ H s) : s.heap.FunFrames X.base X.outer := by
  have all : ∀ (l : List Env), (∀ b ∈ frs l, b ∈ X.fs) → X.s₀.heap.FunFrames X.base l → s.heap.FunFrames X.base l := by
    intro l
    induction l with
    | nil => intro _ _; trivial
    | cons env r ih =>
      intro hs hl
      obtain ⟨hk, ⟨L, o, hf, hn, ho, hd⟩, hr⟩ := hl
      have hL : L ∈ X.fs := hs L (by unfold frs; rw [List.filterMap_cons, hf]; exact List.mem_cons_self)
      obtain ⟨sl, e⟩ := I.base.slot L o ho (I.ok.frf L hL) hL fun z => I.ok.exfs L z hL
      exact ⟨hk, ⟨L, _, hf, hn, e, hd⟩, ih (fun b hb => hs b (by unfold frs; rw [List.filterMap_cons, hf]; exact List.mem_cons_of_mem _ hb)) hr⟩
  exact all X.outer (fun _ hb => hb) I.ok.funs

/-- the frames that run, for a call -/
theorem Inv.stack (I : Inv X pins σ H s) : s.heap.FunFrames X.base X.stack := by
  rcases I.ok.stk with e | ⟨e, hf⟩
  · rw [e]; exact I.funs
  · rw [e]
    obtain ⟨m, hn, _⟩ := I.loc
    refine .cons (by rw [I.ok.kind]; decide) hf hn ?_ I.funs
    exact Heap.get?_none_of_le (Nat.le_trans I.ok.bsz I.ok.above)
theorem Inv.stkSub (I : Inv X pins σ H s) : ∀ b ∈ frs X.stack, b ∈ X.env.locals :: X.fs := fun b hb => by
  rcases I.ok.stk with e | ⟨e, hf⟩
  · rw [e] at hb; exact List.mem_cons_of_mem _ hb
  · rw [e] at hb
    unfold frs at hb
    rw [List.filterMap_cons, hf] at hb
    exact hb
theorem Inv.stkFree (I : Inv X pins σ H s) : ∀ b ∈ frs X.stack, H b = none := fun b hb => by
  rcases List.mem_cons.mp (I.stkSub b hb) with e | hb
  · rw [e]; exact I.free
  · obtain ⟨_, o, ho, _⟩ := I.ok.funs.mem hb
    exact I.base.free b o ho (I.ok.frf b hb) fun z => I.ok.exfs b z hb

/-- THE STEP: the untracked objects but the frame and the records at ch are kept (the callers' frames up to slots), the frame's map is kept, the new abstract heap is held -/
theorem Inv.step {g' : Array GenState} {t' : Nat} {d' : Drawn} {ch : List Addr} (I : Inv X pins σ H s)
    (hch : ∀ b ∈ ch, (b ∈ X.ex ∨ X.s₀.heap.objs.size ≤ b) ∧ b ≠ X.env.locals ∧ (∀ x c, X.env.cells.lookup x = some c → c ≠ b) ∧ ∀ p ∈ X.pn ++ pins, p.1 ≠ b)
    (keep : ∀ b o, b ≠ X.env.locals → b ∉ X.fs → b ∉ ch → s.heap.get? b = some o → H b = none → h'.get? b = some o)
    (slot : ∀ b o, b ≠ X.env.locals → b ∈ X.fs → b ∉ ch → s.heap.get? b = some o → H b = none → ∃ sl, h'.get? b = some { o with slots := sl }) (free : ∀ b o, b ∉ ch → s.heap.get? b = some o → H b = none → H' b = none)
    (there : ∀ b o, b ∉ ch → s.heap.get? b = some o → ∃ o', h'.get? b = some o')
    (tups : ∀ b xs, H b = some (.tup xs) → H' b = some (.tup xs)) (frzs : ∀ b o u, H b = some (.frz o u) → H' b = some (.frz o u)) (tbls : ∀ b ps, H b = some (.tbl ps) → ∃ more, H' b = some (.tbl (ps ++ more)))
    (ns : ∀ m, s.heap.Ns X.env.locals m → h'.Ns X.env.locals m) (hok : HOk X.prog X.w H' h') (hg : AllBare g') :
    Inv X pins σ H' { s with heap := h', gens := g', drawn := d', toks := t' } := by
  have neL : ∀ b o, X.s₀.heap.get? b = some o → b ≠ X.env.locals := fun b o e => Nat.ne_of_lt (Nat.lt_of_lt_of_le (Heap.lt_size e) I.ok.above)
  have neC : ∀ b o, X.s₀.heap.get? b = some o → b ∉ X.ex → b ∉ ch := fun b o e hx hb => by
    rcases (hch b hb).1 with z | z
    · exact hx z
    · exact absurd (Nat.lt_of_lt_of_le (Heap.lt_size e) z) (Nat.lt_irrefl _)
  have cellK : ∀ x c, X.env.cells.lookup x = some c → ∀ v, s.heap.IsCell c v → h'.IsCell c v := fun x c e v ⟨o, ho, hd⟩ => by
    have nch : c ∉ ch := fun z => (hch c z).2.2.1 x c e rfl
    by_cases hc : c ∈ X.fs
    · obtain ⟨sl, q⟩ := slot c o (I.cne x c e) hc nch ho (I.freeC x c e)
      exact ⟨_, q, hd⟩
    · exact ⟨o, keep c o (I.cne x c e) hc nch ho (I.freeC x c e), hd⟩
  refine ⟨I.ok, I.os, hg, ⟨fun b o e n hb hx => ?_, fun b o e n hb hx => ?_, fun b o e n hx => ?_, fun b o e hx => ?_, fun b xs e => tups b xs (I.base.tups b xs e), fun b o xs e => frzs b o xs (I.base.frzs b o xs e), fun b ps e => ?_⟩, ?_, fun x c e => ?_, ?_, fun x c e => ?_, fun p hp => ?_, hok, I.len⟩
  · exact keep b o (neL b o e) hb (neC b o e hx) (I.base.keep b o e n hb hx) (I.base.free b o e n hx)
  · obtain ⟨sl, e1⟩ := I.base.slot b o e n hb hx
    obtain ⟨sl', e2⟩ := slot b _ (neL b o e) hb (neC b o e hx) e1 (I.base.free b o e n hx)
    exact ⟨sl', e2⟩
  · obtain ⟨o', e1⟩ := I.base.there b o e hx
    exact free b o' (neC b o e hx) e1 (I.base.free b o e n hx)
  · obtain ⟨o', e1⟩ := I.base.there b o e hx
    exact there b o' (neC b o e hx) e1
  · obtain ⟨m1, e1⟩ := I.base.tbls b ps e
    obtain ⟨m2, e2⟩ := tbls b _ e1
    exact ⟨m1 ++ m2, by rw [e2, Array.append_assoc]⟩
  · obtain ⟨m, hn, hl⟩ := I.loc
    refine ⟨m, ns m hn, fun i x v e1 e2 e3 => ?_⟩
    obtain ⟨u, r, l⟩ := hl i x v e1 e2 e3
    refine ⟨u, r, ?_⟩
    rcases l with l | ⟨k, c, e, z⟩
    · exact .inl l
    · exact .inr ⟨k, c, e, cellK x c e _ z⟩
  · obtain ⟨v, z⟩ := I.cell x c e
    exact ⟨v, cellK x c e v z⟩
  · obtain ⟨m, ⟨o, _, _, ho, _⟩, _⟩ := I.loc
    exact free _ o (fun z => (hch _ z).2.1 rfl) ho I.free
  · obtain ⟨v, o, ho, hd⟩ := I.cell x c e
    exact free c o (fun z => (hch c z).2.2.1 x c e rfl) ho (I.freeC x c e)
  · obtain ⟨e, n, ne, nf, d⟩ := I.pin p hp
    have nch : p.1 ∉ ch := fun z => (hch p.1 z).2.2.2 p hp rfl
    exact ⟨keep p.1 p.2 ne nf nch e n, free p.1 p.2 nch e n, ne, nf, d⟩
/-- .. where the frame's own object is kept too -/
theorem Inv.un {t' : Nat} (I : Inv X pins σ H s) (u : Un X.fs [] H H' s.heap h') (hok : HOk X.prog X.w H' h') : Inv X pins σ H' { s with heap := h', toks := t' } := by
  obtain ⟨m, ⟨o, es, ep, ho, r⟩, _⟩ := id I.loc
  obtain ⟨sl, hL⟩ := u.any ho I.free (by simp)
  exact I.step (g' := s.gens) (d' := s.drawn) (ch := []) (fun _ z => nomatch z) (fun b o _ hb _ e n => u.keep b o e n hb (by simp)) (fun b o _ hb _ e n => u.slot b o e n hb (by simp)) (fun b o _ e n => u.free b o e n (by simp)) (fun b o _ e => u.there b o e (by simp)) u.tups u.frzs u.tbls (fun m' hm => by
    obtain ⟨o', es', ep', ho', r'⟩ := hm
    rw [ho] at ho'; cases ho'
    exact ⟨_, es', ep', hL, r'⟩) hok I.bare
/-- behind a call (or a comprehension's block): the slots of this frame may have changed too, the records at ch may have turned -/
theorem Inv.call {g' : Array GenState} {t' : Nat} {d' : Drawn} {ch : List Addr} (I : Inv X pins σ H s) (u : Un (frs X.stack) ch H H' s.heap h') (hok : HOk X.prog X.w H' h') (hg : AllBare g')
    (hch : ∀ b ∈ ch, (b ∈ X.ex ∨ X.s₀.heap.objs.size ≤ b) ∧ b ≠ X.env.locals ∧ (∀ x c, X.env.cells.lookup x = some c → c ≠ b) ∧ ∀ p ∈ X.pn ++ pins, p.1 ≠ b) :
    Inv X pins σ H' { s with heap := h', gens := g', drawn := d', toks := t' } := by
  obtain ⟨m, ⟨o, es, ep, ho, r⟩, _⟩ := id I.loc
  obtain ⟨sl, hL⟩ := u.any ho I.free fun z => (hch _ z).2.1 rfl
  exact I.step (ch := ch) hch (fun b o hL hb hc e n => u.keep b o e n (fun z => (List.mem_cons.mp (I.stkSub b z)).elim hL hb) hc) (fun b o _ _ hc e n => u.any e n hc) (fun b o hc e n => u.free b o e n hc) (fun b o hc e => u.there b o e hc) u.tups u.frzs u.tbls (fun m' hm => by
    obtain ⟨o', es', ep', ho', r'⟩ := hm
    rw [ho] at ho'; cases ho'
    exact ⟨_, es', ep', hL, r'⟩) hok hg
/-- an untracked record of ours (an iterator) has turned -/
theorem Inv.turned {t' : Nat} {it : Addr} (I : Inv X pins σ H s) (k : ∀ b o, b ≠ it → s.heap.get? b = some o → h'.get? b = some o) (hn : H it = none) (hL : it ≠ X.env.locals)
    (h1 : it ∈ X.ex ∨ X.s₀.heap.objs.size ≤ it) (h2 : ∀ x c, X.env.cells.lookup x = some c → c ≠ it) (h3 : ∀ p ∈ X.pn ++ pins, p.1 ≠ it) : Inv X pins σ H { s with heap := h', toks := t' } := by
  have nit : ∀ b u, H b = some u → b ≠ it := fun b u e z => by rw [z, hn] at e; cases e
  refine I.step (g' := s.gens) (d' := s.drawn) (ch := [it]) (fun b hb => ?_) (fun b o _ _ hc e _ => k b o (fun z => hc (by simp [z])) e) (fun b o _ _ hc e _ => ⟨o.slots, k b o (fun z => hc (by simp [z])) e⟩) (fun _ _ _ _ n => n)
    (fun b o hc e => ⟨o, k b o (fun z => hc (by simp [z])) e⟩) (fun _ _ e => e) (fun _ _ _ e => e) (fun b ps e => ⟨#[], by rw [e]; simp⟩) (fun m hm => ?_) (fun b u e => ?_) I.bare
  · have e : b = it := by simpa using hb
    subst e
    exact ⟨h1, hL, h2, h3⟩
  · obtain ⟨o, es, ep, ho, r⟩ := hm
    exact ⟨o, es, ep, k _ o (Ne.symm hL) ho, r⟩
  · refine (I.hok b u e).stay (fun c v hc q => k c v ?_ q) (fun _ q => q) fun _ _ q => q
    rcases hc with z | z
    · rw [z]; exact nit b u e
    · exact nit c _ z
theorem Inv.tok (I : Inv X pins σ H s) (t : Nat) : Inv X pins σ H { s with toks := t } := I.un (h' := s.heap) (t' := t) Un.refl I.hok
/-- all objects kept -/
theorem Inv.kept {t' : Nat} (I : Inv X pins σ H s) (k : ∀ b u, s.heap.get? b = some u → h'.get? b = some u) : Inv X pins σ H { s with heap := h', toks := t' } := I.un (Un.kept k) (I.hok.kept k)
/-- a new object laid and tracked -/
theorem Inv.laid {a : Addr} {o : HO} {t' : Nat} (I : Inv X pins σ H s) (k : ∀ b u, s.heap.get? b = some u → h'.get? b = some u) (hp : s.heap.objs.size ≤ a) (new : ObjOk X.prog X.w (upd H a o) h' a o) :
    Inv X pins σ (upd H a o) { s with heap := h', toks := t' } := I.un (Un.laid k hp (I.hok.fresh hp)) (I.hok.laid k hp new)
/-- an object written -/
theorem Inv.write {x e : Addr} {o : HO} {t' : Nat} (I : Inv X pins σ H s) (mu : Mut (H x)) (he : e = x ∨ H e = some (.own x)) (k : ∀ b u, b ≠ e → s.heap.get? b = some u → h'.get? b = some u) (heo : ∃ u, h'.get? e = some u)
    (new : ObjOk X.prog X.w (upd H x o) h' x o) : Inv X pins σ (upd H x o) { s with heap := h', toks := t' } := I.un (Un.write mu he k heo) (I.hok.write mu he k heo new)
/-- forgetting slots, pins -/
theorem Inv.weak {σ' : List (Option V)} (I : Inv X pins σ H s) (hl : σ'.length = σ.length) (w : ∀ (i : Nat) v, σ'[i]? = some (some v) → σ[i]? = some (some v)) : Inv X pins σ' H s :=
  ⟨I.ok, I.os, I.bare, I.base, let ⟨m, hn, hl'⟩ := I.loc; ⟨m, hn, fun i x v e1 e2 e3 => hl' i x v e1 (w i v e2) e3⟩, I.cell, I.free, I.freeC, I.pin, I.hok, hl.trans I.len⟩
theorem Inv.pins_of {pins' : List (Addr × Obj)} (I : Inv X pins σ H s) (h : ∀ p ∈ pins', s.heap.get? p.1 = some p.2 ∧ H p.1 = none ∧ p.1 ≠ X.env.locals ∧ p.1 ∉ X.fs ∧ ∀ v, p.2.data ≠ .cell v) : Inv X pins' σ H s :=
  ⟨I.ok, I.os, I.bare, I.base, I.loc, I.cell, I.free, I.freeC, fun p hp => (List.mem_append.mp hp).elim (fun z => I.pin p (List.mem_append_left _ z)) (h p), I.hok, I.len⟩

theorem nodup_ix {N : List Str} (hN : N.Nodup) {i j : Nat} {x : Str} (a : N[i]? = some x) (b : N[j]? = some x) : i = j := by
  obtain ⟨h1, e1⟩ := List.getElem?_eq_some_iff.mp a
  obtain ⟨h2, e2⟩ := List.getElem?_eq_some_iff.mp b
  exact (List.getElem_inj hN).mp (e1.trans e2.symm)

/-- a name is stored; what changed -/
theorem store_ok2 {M : Model} {A : Around} {E : Value → Shared → Prop} {i : Nat} {x : Str} {v : V} {u : Value} {Q : Unit → Shared → Prop} (I : Inv X pins σ H s) (hN : X.N.Nodup) (hi : X.N[i]? = some x) (hx : Loc X.env.scope x) (r : RelV v u)
    (h : ∀ s', Inv X pins (σ.set i (some v)) H s' → (∃ a, Heap.SameBut a s.heap s'.heap ∧ (a = X.env.locals ∨ X.env.cells.lookup x = some a)) → Q () s') (hf : X.fn x = true ∨ X.env.scope.names.lookup x = some .local := by first | exact .inl rfl | exact .inr rfl | assumption) : wpAny M A (storeName X.env x u) Q E s := by
  obtain ⟨m, hn, hl⟩ := id I.loc
  have hcls : (X.env.scope.kind == .class || (X.env.scope.kind == .module && X.env.locals != X.env.globals)) = false := by rw [I.ok.kind]; rfl
  have hiσ : i < σ.length := by rw [I.len]; exact (List.getElem?_eq_some_iff.mp hi).1
  have cne := I.cne
  have tracked : ∀ {a : Addr} {h' : Heap}, (∃ o, s.heap.get? a = some o ∧ H a = none) → Heap.SameBut a s.heap h' → HOk X.prog X.w H h' := fun {a h'} ha hs b ob e => by
    obtain ⟨_, _, hfree⟩ := ha
    refine (I.hok b ob e).stay (fun c w' hc q => (hs.2 c ?_).trans q) (fun _ q => q) fun _ _ q => q
    rintro rfl
    rcases hc with rfl | hc
    · rw [hfree] at e; cases e
    · rw [hfree] at hc; cases hc
  rcases hx with hk | hk
  · refine wpAny_storeName_local hk hn (fun h' hn' hs => ?_) hcls
    obtain ⟨oL, _, _, hoL, _⟩ := id hn
    refine h _ ⟨I.ok, I.os, I.bare, ⟨fun b o e n hb hx => ?_, fun b o e n hb hx => ?_, I.base.free, fun b o e hx => ?_, I.base.tups, I.base.frzs, I.base.tbls⟩, ⟨_, hn', fun j y v' e1 e2 e3 => ?_⟩, fun y c e => ?_, I.free, I.freeC, fun p hp => ?_, tracked ⟨oL, hoL, I.free⟩ hs, by simpa using I.len⟩ ⟨_, hs, .inl rfl⟩
    · exact (hs.2 b (Nat.ne_of_lt (Nat.lt_of_lt_of_le (Heap.lt_size e) I.ok.above))).trans (I.base.keep b o e n hb hx)
    · obtain ⟨sl, e1⟩ := I.base.slot b o e n hb hx
      exact ⟨sl, (hs.2 b (Nat.ne_of_lt (Nat.lt_of_lt_of_le (Heap.lt_size e) I.ok.above))).trans e1⟩
    · obtain ⟨o', e1⟩ := I.base.there b o e hx
      exact ⟨o', (hs.2 b (Nat.ne_of_lt (Nat.lt_of_lt_of_le (Heap.lt_size e) I.ok.above))).trans e1⟩
    · by_cases hj : j = i
      · subst hj
        rw [hi] at e1; cases e1
        rw [List.getElem?_set_self hiσ] at e2
        cases e2
        exact ⟨u, r, .inl ⟨hk, by simp⟩⟩
      · rw [List.getElem?_set_ne (Ne.symm hj)] at e2
        obtain ⟨u', r', q⟩ := hl j y v' e1 e2 e3
        refine ⟨u', r', ?_⟩
        rcases q with ⟨k, e⟩ | ⟨k, c, e, z⟩
        · refine .inl ⟨k, ?_⟩
          have : y ≠ x := fun e => hj (nodup_ix hN e1 (e ▸ hi))
          simp [this, e]
        · exact .inr ⟨k, c, e, z.sameBut hs (cne y c e)⟩
    · obtain ⟨w', z⟩ := I.cell y c e
      exact ⟨w', z.sameBut hs (cne y c e)⟩
    · obtain ⟨e, n, ne, nf, d⟩ := I.pin p hp
      exact ⟨(hs.2 p.1 ne).trans e, n, ne, nf, d⟩
  · have hfn : X.fn x = true := by
      rcases hf with z | z
      · exact z
      · rw [z] at hk; cases hk
    obtain ⟨c, hc⟩ := I.ok.has x (.inl hk)
    obtain ⟨w', z⟩ := I.cell x c hc
    refine wpAny_storeName_cell I.ok.kind hk hc z (fun h' hc' hs => ?_)
    obtain ⟨oc, hoc, hocd⟩ := id z
    refine h { s with heap := h' } ⟨I.ok, I.os, I.bare, ⟨fun b o e n hb hx => ?_, fun b o e n hb hx => ?_, I.base.free, fun b o e hx => ?_, I.base.tups, I.base.frzs, I.base.tbls⟩, ⟨m, hn.sameBut hs (Ne.symm (cne x c hc)), fun j y v' e1 e2 e3 => ?_⟩, fun y c' e => ?_, I.free, I.freeC, fun p hp => ?_, tracked ⟨oc, hoc, I.freeC x c hc⟩ hs, by simpa using I.len⟩ ⟨c, hs, .inr hc⟩
    · exact (hs.2 b (Nat.ne_of_lt (Nat.lt_of_lt_of_le (Heap.lt_size e) (I.ok.cab x c hfn hc)))).trans (I.base.keep b o e n hb hx)
    · obtain ⟨sl, e1⟩ := I.base.slot b o e n hb hx
      exact ⟨sl, (hs.2 b (Nat.ne_of_lt (Nat.lt_of_lt_of_le (Heap.lt_size e) (I.ok.cab x c hfn hc)))).trans e1⟩
    · obtain ⟨o', e1⟩ := I.base.there b o e hx
      exact ⟨o', (hs.2 b (Nat.ne_of_lt (Nat.lt_of_lt_of_le (Heap.lt_size e) (I.ok.cab x c hfn hc)))).trans e1⟩
    · by_cases hj : j = i
      · subst hj
        rw [hi] at e1; cases e1
        rw [List.getElem?_set_self hiσ] at e2
        cases e2
        exact ⟨u, r, .inr ⟨.inl hk, c, hc, hc'⟩⟩
      · rw [List.getElem?_set_ne (Ne.symm hj)] at e2
        obtain ⟨u', r', q⟩ := hl j y v' e1 e2 e3
        refine ⟨u', r', ?_⟩
        rcases q with q | ⟨k, c', e, z'⟩
        · exact .inl q
        · refine .inr ⟨k, c', e, z'.sameBut hs ?_⟩
          rintro rfl
          exact hj (nodup_ix hN e1 (I.ok.inj _ _ _ e hc ▸ hi))
    · by_cases hcc : c' = c
      · subst hcc; exact ⟨_, hc'⟩
      · obtain ⟨w2, z2⟩ := I.cell y c' e
        exact ⟨w2, z2.sameBut hs hcc⟩
    · obtain ⟨e, n, ne, nf, d⟩ := I.pin p hp
      refine ⟨(hs.2 p.1 ?_).trans e, n, ne, nf, d⟩
      intro q
      rw [q, hoc] at e
      have q' : oc = p.2 := Option.some.inj e
      exact d w' (by rw [← q']; exact hocd)
theorem store_ok {M : Model} {A : Around} {E : Value → Shared → Prop} {i : Nat} {x : Str} {v : V} {u : Value} {Q : Unit → Shared → Prop} (I : Inv X pins σ H s) (hN : X.N.Nodup) (hi : X.N[i]? = some x) (hx : Loc X.env.scope x) (r : RelV v u)
    (h : ∀ s', Inv X pins (σ.set i (some v)) H s' → Q () s') (hf : X.fn x = true ∨ X.env.scope.names.lookup x = some .local := by first | exact .inl rfl | exact .inr rfl | assumption) : wpAny M A (storeName X.env x u) Q E s :=
  store_ok2 I hN hi hx r (fun s' I' _ => h s' I') hf
/-- behind a call or a block, the state as it is -/
theorem Inv.call' {s' : Shared} {ch : List Addr} (I : Inv X pins σ H s) (ho : s'.os = s.os) (u : Un (frs X.stack) ch H H' s.heap s'.heap) (hok : HOk X.prog X.w H' s'.heap) (hg : AllBare s'.gens)
    (hch : ∀ b ∈ ch, (b ∈ X.ex ∨ X.s₀.heap.objs.size ≤ b) ∧ b ≠ X.env.locals ∧ (∀ x c, X.env.cells.lookup x = some c → c ≠ b) ∧ ∀ p ∈ X.pn ++ pins, p.1 ≠ b) : Inv X pins σ H' s' := by
  obtain ⟨h', g', d', t', o'⟩ := s'
  have e : o' = s.os := ho
  subst e
  exact I.call (g' := g') (t' := t') (d' := d') u hok hg hch
end

/-! ### the judgements -/
/-- an exception: its class, its own dict's address (where it has one), the abstract heap behind it -/
abbrev XK := Value → Option Addr → Hp → Prop
abbrev St := List (Option V)
abbrev VK := V → Hp → Prop
/-- an expression's reading; a test's; an argument list's -/
abbrev TE := St → Hp → VK → Prop
abbrev TT := St → Hp → (Bool → Hp → Prop) → Prop
abbrev TA := St → Hp → (List V → Hp → Prop) → Prop
/-- what is wanted behind a statement -/
structure Ends where
  nx : St → Hp → Prop
  rt : VK
  bk : St → Hp → Prop := fun _ _ => False
  ct : St → Hp → Prop := fun _ _ => False
abbrev TS := Ends → St → Hp → Prop

def EP (X : Cx) (pins : List (Addr × Obj)) (σ : St) (Q : VK) (u : Value) (s' : Shared) : Prop := ∃ v H', Inv X pins σ H' s' ∧ RelV v u ∧ Q v H'
def TP (X : Cx) (pins : List (Addr × Obj)) (σ : St) (Q : Bool → Hp → Prop) (b : Bool) (s' : Shared) : Prop := ∃ H', Inv X pins σ H' s' ∧ Q b H'
def AP (X : Cx) (pins : List (Addr × Obj)) (σ : St) (Q : List V → Hp → Prop) (us : List Value) (s' : Shared) : Prop := ∃ vs H', Inv X pins σ H' s' ∧ Vals vs us ∧ Q vs H'
def SP (X : Cx) (pins : List (Addr × Obj)) (D : Ends) (f : Flow) (s' : Shared) : Prop :=
  match f with
  | .next => ∃ σ' H', Inv X pins σ' H' s' ∧ D.nx σ' H'
  | .brk => ∃ σ' H', Inv X pins σ' H' s' ∧ D.bk σ' H'
  | .cont => ∃ σ' H', Inv X pins σ' H' s' ∧ D.ct σ' H'
  | .ret u => ∃ v σ' H', Inv X pins σ' H' s' ∧ RelV v u ∧ D.rt v H'

def PE (X : Cx) (e : Expr) (t : TE) : Prop :=
  ∀ (pins : List (Addr × Obj)) (s : Shared) (σ : St) (H : Hp) (Q : VK), Inv X pins σ H s → t σ H Q → wpAny (model X.prog X.w) X.A (eval e X.env) (EP X pins σ Q) X.xe s
def PT (X : Cx) (e : Expr) (t : TT) : Prop :=
  ∀ (pins : List (Addr × Obj)) (s : Shared) (σ : St) (H : Hp) (Q : Bool → Hp → Prop), Inv X pins σ H s → t σ H Q → wpAny (model X.prog X.w) X.A (isTrue e X.env (eval e X.env)) (TP X pins σ Q) X.xe s
/-- a test whatever its 'whole' is (and, or) -/
def PW (X : Cx) (e : Expr) (t : TT) : Prop :=
  ∀ (whole : Sem Value) (pins : List (Addr × Obj)) (s : Shared) (σ : St) (H : Hp) (Q : Bool → Hp → Prop), Inv X pins σ H s → t σ H Q → wpAny (model X.prog X.w) X.A (isTrue e X.env whole) (TP X pins σ Q) X.xe s
theorem PW.pt {X : Cx} {e : Expr} {t : TT} (h : PW X e t) : PT X e t := h _
/-- an argument list (no star), from the left -/
def PA (X : Cx) (es : List Expr) (t : TA) : Prop :=
  ∀ (pos : Pos) (pins : List (Addr × Obj)) (s : Shared) (σ : St) (H : Hp) (Q : List V → Hp → Prop), Inv X pins σ H s → t σ H Q → wpAny (model X.prog X.w) X.A (spliced (backTo pos (starEach es X.env))) (AP X pins σ Q) X.xe s
def PS (X : Cx) (st : Stmt) (t : TS) : Prop :=
  ∀ (pins : List (Addr × Obj)) (s : Shared) (σ : St) (H : Hp) (D : Ends), Inv X pins σ H s → t D σ H → wpAny (model X.prog X.w) X.A (exec st X.env) (SP X pins D) X.xe s
def PSs (X : Cx) (st : List Stmt) (t : TS) : Prop :=
  ∀ (pins : List (Addr × Obj)) (s : Shared) (σ : St) (H : Hp) (D : Ends), Inv X pins σ H s → t D σ H → wpAny (model X.prog X.w) X.A (execs st X.env) (SP X pins D) X.xe s
/-- weaken the end -/
theorem thn {α : Type} {t : Sem α} {Q Q' : α → Shared → Prop} {M : Model} {A : Around} {E : Value → Shared → Prop} {s : Shared} (h : wpAny M A t Q E s) (hQ : ∀ a s, Q a s → Q' a s) : wpAny M A t Q' E s := wpAny_mono h hQ fun _ _ x => x
end L2

namespace L2
open PySem PySem.Spec PyProof.Rows
section
variable {X : Cx}

/-! ### names and constants -/
def tVar (i : Nat) : TE := fun σ H Q => ∃ v, σ[i]? = some (some v) ∧ Q v H
def tC (v : V) : TE := fun _ H Q => Q v H
theorem pe_var {i : Nat} {x : Str} {pos : Pos} (hN : X.N[i]? = some x) (hv : Vis X.env.scope x) (hd : (x == ("__debug__" : Str)) = false := by decide) (hcd : (x == ("__classdict__" : Str)) = false := by decide) : PE X (.Name x pos) (tVar i) := by
  intro pins s σ H Q I h
  obtain ⟨v, e, h⟩ := h
  obtain ⟨m, hn, hl⟩ := I.loc
  obtain ⟨u, r, l⟩ := hl i x v hN e hv
  have fin : EP X pins σ Q u s := ⟨v, H, I, r, h⟩
  rcases l with ⟨hk, hm⟩ | ⟨hk, c, hc, hcell⟩
  · exact wpAny_Name (wpAny_loadName_local I.ok.kind hk hn hm fin) hd
  · rcases hk with hk | hk
    · exact wpAny_Name (wpAny_loadName_cell I.ok.kind hk hc hcell fin) hd
    · exact wpAny_Name (wpAny_loadName_free I.ok.kind hk hc hcell fin hcd) hd
theorem pe_int {i j pos} : PE X (.Constant (.int i) j pos) (tC (.int i)) := fun _ _ _ H _ I h => wpAny_Constant_int ⟨.int i, H, I.tok _, ⟨_, rfl⟩, h⟩
theorem pe_bl {b j pos} : PE X (.Constant (.bool b) j pos) (tC (.bl b)) := fun _ _ _ H _ I h => Constant_bool ⟨.bl b, H, I, rfl, h⟩
theorem pe_str {x j pos} : PE X (.Constant (.str x) j pos) (tC (.str x)) := fun _ _ _ H _ I h => Calls.Constant_str ⟨.str x, H, I.tok _, ⟨_, rfl⟩, h⟩

/-- a global name of the def -/
def Gl (X : Cx) (x : Str) : Prop := X.env.kindOf x = some .globalImplicit
theorem ld_glob {E : Value → Shared → Prop} {pins : List (Addr × Obj)} {s : Shared} {σ : St} {H : Hp} {x : Str} {u : Value} {pos : Pos} {Q : Value → Shared → Prop} (I : Inv X pins σ H s) (hg : Gl X x) (hm : X.mg x = some u) (h : Q u s)
    (hd : (x == ("__debug__" : Str)) = false := by decide) : wpAny (model X.prog X.w) X.A (eval (.Name x pos) X.env) Q E s :=
  Calls.Name_function_global I.ok.kind hg (Calls.loadGlobal_global (by rw [I.ok.glob]; exact I.mod.glob.keeps I.bk) hm h) hd
theorem ld_blt {E : Value → Shared → Prop} {pins : List (Addr × Obj)} {s : Shared} {σ : St} {H : Hp} {x : Str} {u : Value} {pos : Pos} {Q : Value → Shared → Prop} (I : Inv X pins σ H s) (hg : Gl X x) (hm : X.mg x = none) (hv : bootBuiltins x = some u) (h : Q u s)
    (hn : x ≠ "__name__" := by decide) (hd : (x == ("__debug__" : Str)) = false := by decide) : wpAny (model X.prog X.w) X.A (eval (.Name x pos) X.env) Q E s := by
  obtain ⟨mb, h1, h2⟩ := I.mod.blt
  exact Calls.Name_function_global I.ok.kind hg (Calls.loadGlobal_builtin (by rw [I.ok.glob]; exact I.mod.glob.keeps I.bk) hm (by rw [I.ok.blt]; exact h1.keeps I.bk) ((h2 x hn).trans hv) h) hd
/-- a module's constant, a class, a function, as a value -/
theorem pe_glob {x : Str} {v : V} {u : Value} {pos : Pos} (hg : Gl X x) (hm : X.mg x = some u) (r : RelV v u) (hd : (x == ("__debug__" : Str)) = false := by decide) : PE X (.Name x pos) (tC v) :=
  fun _ _ _ H _ I h => ld_glob I hg hm ⟨v, H, I, r, h⟩ hd
theorem pe_bltn {x : Str} {v : V} {u : Value} {pos : Pos} (hg : Gl X x) (hm : X.mg x = none) (hv : bootBuiltins x = some u) (r : RelV v u) (hn : x ≠ "__name__" := by decide) (hd : (x == ("__debug__" : Str)) = false := by decide) : PE X (.Name x pos) (tC v) :=
  fun _ _ _ H _ I h => ld_blt I hg hm hv ⟨v, H, I, r, h⟩ hn hd

/-! ### arithmetic -/
variable {a b : Expr} {ta tb : TE} {pos : Pos}
/-! ### comparisons -/
/-- a comparison as a value, as a test -/
def tB (t : TE) : TT := fun σ H Q => t σ H fun x H1 => ∃ c, x = .bl c ∧ Q c H1
/-- an expression whose value is a bool, as a test -/
theorem pt_val {e : Expr} {t : TE} (h : PE X e t) (he : ∀ whole, isTrue e X.env whole = (do let v ← whole; standAt e.pos; holding [v] (truthy v)) := by intro _; rfl) : PT X e (tB t) := by
  intro pins s σ H Q I hw
  refine isTrue_plain (thn (h pins s σ H _ I hw) fun v s1 ⟨x, H1, I1, r1, q1⟩ => ?_) (he _)
  obtain ⟨d, rfl, q⟩ := q1
  cases r1
  exact wpAny_truthy_bool ⟨H1, I1, q⟩

/-! ### and, or, not -/
variable {tA tB' : TT} {rest : List Expr}
def tAnd (t u : TT) : TT := fun σ H Q => t σ H fun c H1 => if c = true then u σ H1 Q else Q false H1
def tOr (t u : TT) : TT := fun σ H Q => t σ H fun c H1 => if c = true then Q true H1 else u σ H1 Q
def tNot (t : TT) : TT := fun σ H Q => t σ H fun c H1 => Q (!c) H1
theorem pw_and1 (ha : PT X a tA) : PW X (.BoolOp .And [a] pos) tA := by
  intro wh pins s σ H Q I h
  refine isTrue_and (thn (ha pins s σ H Q I h) fun c s1 e => ?_)
  cases c with
  | true => exact isTrue_and_nil e
  | false => exact e
theorem pw_or1 (ha : PT X a tA) : PW X (.BoolOp .Or [a] pos) tA := by
  intro wh pins s σ H Q I h
  refine isTrue_or (thn (ha pins s σ H Q I h) fun c s1 e => ?_)
  cases c with
  | false => exact isTrue_or_nil e
  | true => exact e
theorem pw_and (ha : PT X a tA) (hb : PW X (.BoolOp .And (b :: rest) pos) tB') : PW X (.BoolOp .And (a :: b :: rest) pos) (tAnd tA tB') := by
  intro wh pins s σ H Q I h
  refine isTrue_and (thn (ha pins s σ H _ I h) fun c s1 ⟨H1, I1, q1⟩ => ?_)
  cases c with
  | true => exact hb wh pins s1 σ H1 Q I1 q1
  | false => exact ⟨H1, I1, q1⟩
theorem pw_or (ha : PT X a tA) (hb : PW X (.BoolOp .Or (b :: rest) pos) tB') : PW X (.BoolOp .Or (a :: b :: rest) pos) (tOr tA tB') := by
  intro wh pins s σ H Q I h
  refine isTrue_or (thn (ha pins s σ H _ I h) fun c s1 ⟨H1, I1, q1⟩ => ?_)
  cases c with
  | true => exact ⟨H1, I1, q1⟩
  | false => exact hb wh pins s1 σ H1 Q I1 q1
theorem pt_not (ha : PT X a tA) : PT X (.UnaryOp .Not a pos) (tNot tA) := by
  intro pins s σ H Q I h
  exact isTrue_not (ha pins s σ H (fun c H1 => Q (!c) H1) I h)
/-- .. as values (bools) -/
def tAndV (ta tb : TE) : TE := fun σ H Q => ta σ H fun x H1 => ∃ c, x = .bl c ∧ if c = true then tb σ H1 Q else Q (.bl false) H1
theorem pe_one {op} {t : TE} (h : PE X a t) : PE X (.BoolOp op [a] pos) t := fun pins s σ H Q I hw => BoolOp_one (h pins s σ H Q I hw)
theorem pe_and (ha : PE X a ta) (hb : PE X (.BoolOp .And (b :: rest) pos) tb) : PE X (.BoolOp .And (a :: b :: rest) pos) (tAndV ta tb) := by
  intro pins s σ H Q I h
  refine BoolOp_and (thn (ha pins s σ H _ I h) fun v s1 ⟨x, H1, I1, r1, q1⟩ => ?_)
  obtain ⟨c, rfl, q1⟩ := q1
  cases r1
  refine wpAny_truthy_bool ?_
  cases c with
  | true => exact hb pins s1 σ H1 Q I1 q1
  | false => exact ⟨.bl false, H1, I1, rfl, q1⟩
/-- a if t else b -/
def tIf (t : TT) (ta tb : TE) : TE := fun σ H Q => t σ H fun c H1 => if c = true then ta σ H1 Q else tb σ H1 Q
theorem pe_ifExp {c : Expr} (hc : PT X c tA) (ha : PE X a ta) (hb : PE X b tb) : PE X (.IfExp c a b pos) (tIf tA ta tb) := by
  intro pins s σ H Q I h
  refine wpAny_IfExp (thn (hc pins s σ H _ I h) fun d s1 ⟨H1, I1, q1⟩ => ?_)
  cases d with
  | true => exact ha pins s1 σ H1 Q I1 q1
  | false => exact hb pins s1 σ H1 Q I1 q1
end
end L2

namespace L2
open PySem PySem.Spec PyProof.Rows

/-! ### a list, a tuple that is read: tracked, frozen, or an object of the module -/
def SqL (K : PySem.W.Frag) (H : Hp) (a : Addr) (xs : List V) : Prop :=
  Rd H a (.lst xs) ∨
    ∃ (o : Obj) (its : Array Value) (n : Nat), K.lookup a = some o ∧ o.cls = .type "list" ∧ o.dict = none ∧ o.data = .seq its n ∧ its.size ≤ sizeLine ∧ Vals xs its.toList
def SqT (K : PySem.W.Frag) (H : Hp) (a : Addr) (xs : List V) : Prop :=
  Rd H a (.tup xs) ∨
    ∃ (o : Obj) (its : Array Value) (n : Nat), K.lookup a = some o ∧ o.cls = .type "tuple" ∧ o.data = .seq its n ∧ its.size ≤ sizeLine ∧ Vals xs its.toList
def absV : Value → Option V
  | .none => some .non
  | .bool b => some (.bl b)
  | .int i _ => some (.int i)
  | .str x _ => some (.str x)
  | .bytes b _ => some (.byt b)
  | .float b _ => some (.flt b)
  | .ref a => some (.ref a)
  | .type n => some (.ty n)
  | _ => none
theorem RelV.abs {x : V} {u : Value} (r : RelV x u) : absV u = some x := by
  cases x with
  | non => cases r; rfl
  | bl _ => cases r; rfl
  | int _ => obtain ⟨t, rfl⟩ := r; rfl
  | str _ => obtain ⟨t, rfl⟩ := r; rfl
  | byt _ => obtain ⟨t, rfl⟩ := r; rfl
  | flt _ => obtain ⟨t, rfl⟩ := r; rfl
  | ref _ => cases r; rfl
  | ty _ => cases r; rfl
theorem RelV.inj {x y : V} {u : Value} (r : RelV x u) (q : RelV y u) : x = y := Option.some.inj (r.abs.symm.trans q.abs)
theorem Vals.inj : ∀ {xs ys : List V} {us : List Value}, Vals xs us → Vals ys us → xs = ys
  | _, _, _, .nil, .nil => rfl
  | _, _, _, .cons r t, .cons r' t' => by rw [r.inj r', Vals.inj t t']
section
variable {X : Cx} {pins : List (Addr × Obj)} {σ : St} {H : Hp} {s : Shared} {a : Addr} {xs ys : List V}
theorem SqL.of {K : PySem.W.Frag} (h : H a = some (.lst xs)) : SqL K H a xs := .inl (.inl h)
theorem SqT.of {K : PySem.W.Frag} (h : H a = some (.tup xs)) : SqT K H a xs := .inl (.inl h)
theorem Inv.list (I : Inv X pins σ H s) (h : SqL X.K H a xs) : ∃ its : List Value, Vals xs its ∧ PlainL s.heap a its.toArray ∧ xs.length ≤ sizeLine := by
  rcases h with h | ⟨o, its, n, hk, hc, hd, hs, hz, r⟩
  · obtain ⟨z, its, n, r, e⟩ := h.ok I.hok
    exact ⟨its, r, ⟨_, n, e, rfl, rfl, rfl⟩, z⟩
  · refine ⟨its.toList, r, ⟨o, n, I.kIn a o hk, hc, hd, by simpa using hs⟩, ?_⟩
    have e := r.length
    simp only [Array.length_toList] at e
    omega
theorem Inv.tuple (I : Inv X pins σ H s) (h : SqT X.K H a xs) : ∃ its : List Value, Vals xs its ∧ IsTup s.heap a its.toArray ∧ xs.length ≤ sizeLine := by
  rcases h with h | ⟨o, its, n, hk, hc, hs, hz, r⟩
  · obtain ⟨z, its, r, p, _⟩ := h.ok I.hok
    exact ⟨its, r, p, z⟩
  · refine ⟨its.toList, r, ⟨o, I.kIn a o hk, hc, n, by simpa using hs⟩, ?_⟩
    have e := r.length
    simp only [Array.length_toList] at e
    omega
theorem Inv.list_inj (I : Inv X pins σ H s) (h : SqL X.K H a xs) (h' : SqL X.K H a ys) : xs = ys := by
  obtain ⟨its, r, ⟨o, n, e, _, _, d⟩, _⟩ := I.list h
  obtain ⟨its', r', ⟨o', n', e', _, _, d'⟩, _⟩ := I.list h'
  rw [e] at e'; cases e'
  rw [d] at d'
  injection d' with d1 _
  have : its = its' := by simpa using congrArg Array.toList d1
  subst this
  exact r.inj r'
theorem Inv.tuple_inj (I : Inv X pins σ H s) (h : SqT X.K H a xs) (h' : SqT X.K H a ys) : xs = ys := by
  obtain ⟨its, r, ⟨o, e, _, n, d⟩, _⟩ := I.tuple h
  obtain ⟨its', r', ⟨o', e', _, n', d'⟩, _⟩ := I.tuple h'
  rw [e] at e'; cases e'
  rw [d] at d'
  injection d' with d1 _
  have : its = its' := by simpa using congrArg Array.toList d1
  subst this
  exact r.inj r'
end

/-! ### another wish about exceptions -/
abbrev Cx.wish (X : Cx) (E : Value → Shared → Prop) : Cx := { X with xe := E }
/-- no exception leaves -/
abbrev Cx.nox (X : Cx) : Cx := X.wish fun _ _ => False
theorem Cx.Ok.wish {X : Cx} (ok : X.Ok) (E : Value → Shared → Prop) : (X.wish E).Ok :=
  ⟨ok.mod, ok.kind, ok.glob, ok.blt, ok.above, ok.inj, ok.has, ok.cab, ok.hd, ok.frames, ok.stk, ok.exf, ok.bs, ok.bsz, ok.noex, ok.exfs, ok.funs, ok.frf⟩
theorem Cx.Ok.unwish {X : Cx} {E : Value → Shared → Prop} (ok : (X.wish E).Ok) : X.Ok :=
  ⟨ok.mod, ok.kind, ok.glob, ok.blt, ok.above, ok.inj, ok.has, ok.cab, ok.hd, ok.frames, ok.stk, ok.exf, ok.bs, ok.bsz, ok.noex, ok.exfs, ok.funs, ok.frf⟩
section
variable {X : Cx} {pins : List (Addr × Obj)} {σ : St} {H : Hp} {s : Shared} {E : Value → Shared → Prop}
theorem Inv.wish (I : Inv X pins σ H s) (E : Value → Shared → Prop) : Inv (X.wish E) pins σ H s := ⟨I.ok.wish E, I.os, I.bare, I.base, I.loc, I.cell, I.free, I.freeC, I.pin, I.hok, I.len⟩
theorem Inv.unwish (I : Inv (X.wish E) pins σ H s) : Inv X pins σ H s := ⟨I.ok.unwish, I.os, I.bare, I.base, I.loc, I.cell, I.free, I.freeC, I.pin, I.hok, I.len⟩
theorem SP.unwish {D : Ends} {f : Flow} {s' : Shared} (h : SP (X.wish E) pins D f s') : SP X pins D f s' := by
  cases f with
  | next => obtain ⟨σ', H', I, q⟩ := h; exact ⟨σ', H', I.unwish, q⟩
  | brk => obtain ⟨σ', H', I, q⟩ := h; exact ⟨σ', H', I.unwish, q⟩
  | cont => obtain ⟨σ', H', I, q⟩ := h; exact ⟨σ', H', I.unwish, q⟩
  | ret u => obtain ⟨v, σ', H', I, r, q⟩ := h; exact ⟨v, σ', H', I.unwish, r, q⟩
theorem PE.nox {e : Expr} {t : TE} (h : PE X.nox e t) : PE X e t := fun pins s σ H Q I hw =>
  wpAny_mono (h pins s σ H Q (I.wish _) hw) (fun _ _ ⟨v, H', I', r, q⟩ => ⟨v, H', I'.unwish, r, q⟩) fun _ _ z => False.elim z
theorem PT.nox {e : Expr} {t : TT} (h : PT X.nox e t) : PT X e t := fun pins s σ H Q I hw =>
  wpAny_mono (h pins s σ H Q (I.wish _) hw) (fun _ _ ⟨H', I', q⟩ => ⟨H', I'.unwish, q⟩) fun _ _ z => False.elim z
theorem PSs.nox {st : List Stmt} {t : TS} (h : PSs X.nox st t) : PSs X st t := fun pins s σ H D I hw =>
  wpAny_mono (h pins s σ H D (I.wish _) hw) (fun _ _ q => q.unwish) fun _ _ z => False.elim z
end

/-! ### blocks and small statements -/
def isSt : Expr → Bool
  | .Starred _ _ => true
  | _ => false
theorem star_of {e : Expr} {es : List Expr} {env : Env} (h : isSt e = false) : starEach (e :: es) env = (false, eval e env) :: starEach es env := by
  cases e <;> first | rfl | cases h
theorem star_all {env : Env} : ∀ {es : List Expr}, es.all (fun e => !isSt e) = true → starEach es env = es.map fun e => (false, eval e env)
  | [], _ => rfl
  | e :: es, h => by
    rw [List.all_cons, Bool.and_eq_true] at h
    rw [star_of (by simpa using h.1), star_all h.2]
    rfl
theorem plain_of {es : List Expr} {env : Env} {pos : Pos} (h : es.all (fun e => !isSt e) = true) : (backTo pos (starEach es env)).any (·.1) = false := by
  rw [star_all h]
  unfold backTo
  rw [List.map_map, List.any_map, List.any_eq_false]
  intro x _
  simp
theorem few_of {e : Expr} {es : List Expr} {env : Env} {cpos : Pos} (h : (e :: es).all (fun e => !isSt e) = true) (h2 : decide ((e :: es).length < 29) = true) : ((backTo cpos (starEach (e :: es) env)).all (fun x => !x.1) && (backToKw cpos (keywordEach [] env)).all (fun x => x.1.isSome)
    && decide ((e :: es).length + ([] : List Keyword).length + (if ([] : List Keyword).isEmpty then 0 else 1) < 30)) = true := by
  rw [star_all h]
  have e1 : (backTo cpos ((e :: es).map fun e => (false, eval e env))).all (fun x => !x.1) = true := by
    unfold backTo
    rw [List.map_map, List.all_map, List.all_eq_true]
    intro x _
    simp
  have e2 : (backToKw cpos (keywordEach [] env)).all (fun x => x.1.isSome) = true := rfl
  have e3 := of_decide_eq_true h2
  rw [e1, e2]
  simp at e3 ⊢
  omega
def noComp : Expr → Bool
  | .ListComp _ _ _ _ | .SetComp _ _ _ _ | .DictComp _ _ _ _ _ => false
  | _ => true
theorem swaps_of {e : Expr} {t : Option Expr} {l : Nat} {env : Env} (h : noComp e = true) : swapsWith e t l env = pure false := by
  cases e <;> first | rfl | cases h

section
variable {X : Cx} {st : Stmt} {rest : List Stmt} {t u : TS} {e : Expr} {te : TE} {pos : Pos}
def tNext : TS := fun D σ H => D.nx σ H
def tSeq (t u : TS) : TS := fun D σ H => t { D with nx := u D } σ H
theorem pss_nil : PSs X [] tNext := fun _ _ σ H _ I h => wpAny_execs_nil ⟨σ, H, I, h⟩
theorem pss_cons (h1 : PS X st t) (h2 : PSs X rest u) : PSs X (st :: rest) (tSeq t u) := by
  intro pins s σ H D I h
  refine wpAny_execs_cons (thn (h1 pins s σ H { D with nx := u D } I h) fun f s1 q => ?_)
  cases f with
  | next =>
    obtain ⟨σ', H', I', q⟩ := q
    exact h2 pins s1 σ' H' D I' q
  | ret v => exact q
  | brk => exact q
  | cont => exact q
theorem pss_one (h1 : PS X st t) : PSs X [st] t := by
  intro pins s σ H D I h
  refine wpAny_execs_cons (thn (h1 pins s σ H D I h) fun f s1 q => ?_)
  cases f with
  | next => exact wpAny_execs_nil q
  | ret v => exact q
  | brk => exact q
  | cont => exact q
/-- in a def's body nothing is shown -/
theorem Inv.quiet {pins : List (Addr × Obj)} {σ : St} {H : Hp} {s : Shared} (I : Inv X pins σ H s) : interactive X.env = false := by simp [interactive, I.ok.kind]
/-- an expression whose value is dropped -/
def tDrop (te : TE) : TS := fun D σ H => te σ H fun _ H1 => D.nx σ H1
theorem ps_expr (he : PE X e te) (hs : swapsWith e none pos.line X.env = pure false := by first | exact swaps_of rfl | rfl) : PS X (.Expr e pos) (tDrop te) := by
  intro pins s σ H D I h
  exact wpAny_Expr_any (thn (he pins s σ H _ I h) fun v s1 ⟨x, H1, I1, r1, q1⟩ => ⟨σ, H1, I1, q1⟩) I.quiet hs
def tRet (te : TE) : TS := fun D σ H => te σ H D.rt
theorem ps_ret (he : PE X e te) : PS X (.Return (some e) pos) (tRet te) := by
  intro pins s σ H D I h
  exact wpAny_Return_some (thn (he pins s σ H _ I h) fun v s1 ⟨x, H1, I1, r1, q1⟩ => ⟨x, σ, H1, I1, r1, q1⟩)
def tIfS (c : TT) (t u : TS) : TS := fun D σ H => c σ H fun b H1 => if b = true then t D σ H1 else u D σ H1
theorem ps_if {c : Expr} {a b : List Stmt} {tc : TT} (hc : PT X c tc) (ha : PSs X a t) (hb : PSs X b u) : PS X (.If c a b pos) (tIfS tc t u) := by
  intro pins s σ H D I h
  refine wpAny_If (thn (hc pins s σ H _ I h) fun d s1 ⟨H1, I1, q1⟩ => ?_)
  cases d with
  | true => exact ha pins s1 σ H1 D I1 q1
  | false => exact hb pins s1 σ H1 D I1 q1
end

/-! ### targets -/
abbrev TG := V → St → Hp → (St → Hp → Prop) → Prop
abbrev TGs := List V → St → Hp → (St → Hp → Prop) → Prop
def PG (X : Cx) (target : Expr) (t : TG) : Prop :=
  ∀ (pins : List (Addr × Obj)) (s : Shared) (σ : St) (H : Hp) (v : V) (u : Value) (Q : St → Hp → Prop), Inv X pins σ H s → RelV v u → t v σ H Q →
    wpAny (model X.prog X.w) X.A (assign target X.env u) (fun _ s' => ∃ σ' H', Inv X pins σ' H' s' ∧ Q σ' H') X.xe s
/-- several targets, one after another -/
def PGs (X : Cx) (ts : List Expr) (t : TGs) : Prop :=
  ∀ (pins : List (Addr × Obj)) (s : Shared) (σ : St) (H : Hp) (vs : List V) (us : List Value) (Q : St → Hp → Prop), Inv X pins σ H s → Vals vs us → t vs σ H Q →
    wpAny (model X.prog X.w) X.A (assignInOrder ((assignEach ts X.env).map (·.2)) us) (fun _ s' => ∃ σ' H', Inv X pins σ' H' s' ∧ Q σ' H') X.xe s
/-- o[i] = v, by values -/
abbrev TSet := V → V → V → Hp → (Hp → Prop) → Prop
def PSet (X : Cx) (t : TSet) : Prop :=
  ∀ (pins : List (Addr × Obj)) (s : Shared) (σ : St) (H : Hp) (o i v : V) (ov iv u : Value) (Q : Hp → Prop), Inv X pins σ H s → RelV o ov → RelV i iv → RelV v u → t o i v H Q →
    wpAny (model X.prog X.w) X.A (setItem ov iv u) (fun _ s' => ∃ H', Inv X pins σ H' s' ∧ Q H') X.xe s
section
variable {X : Cx} {pos : Pos}
def gName (i : Nat) : TG := fun v σ H Q => Q (σ.set i (some v)) H
theorem pg_name {i : Nat} {x : Str} (hN : X.N.Nodup) (hi : X.N[i]? = some x) (hx : Loc X.env.scope x) (hf : X.fn x = true ∨ X.env.scope.names.lookup x = some .local := by first | exact .inl rfl | exact .inr rfl | assumption) : PG X (.Name x pos) (gName i) := by
  intro pins s σ H v u Q I r h
  exact wpAny_assign_Name (store_ok I hN hi hx r (fun s' I' => ⟨_, H, I', h⟩) hf)
def gNil : TGs := fun vs σ H Q => vs = [] ∧ Q σ H
def gCons (t : TG) (u : TGs) : TGs := fun vs σ H Q => ∃ v r, vs = v :: r ∧ t v σ H fun σ' H' => u r σ' H' Q
theorem pgs_nil : PGs X [] gNil := by
  intro pins s σ H vs us Q I r h
  obtain ⟨e, h⟩ := h
  subst e
  cases r
  exact assignInOrder_nil ⟨σ, H, I, h⟩
theorem pgs_cons {e : Expr} {es : List Expr} {t : TG} {u : TGs} (h1 : PG X e t) (h2 : PGs X es u)
    (hs : (assignEach (e :: es) X.env).map (·.2) = assign e X.env :: (assignEach es X.env).map (·.2) := by rfl) : PGs X (e :: es) (gCons t u) := by
  intro pins s σ H vs us Q I r h
  obtain ⟨v, vr, e1, h⟩ := h
  subst e1
  cases r with
  | cons r rr =>
    rw [hs]
    refine assignInOrder_cons (thn (h1 pins s σ H _ _ _ I r h) fun _ s1 ⟨σ1, H1, I1, q1⟩ => ?_)
    exact h2 pins s1 σ1 H1 _ _ Q I1 rr q1
/-- (a, b, ..) = a tuple of that length -/
def gTup (K : PySem.W.Frag) (n : Nat) (t : TGs) : TG := fun v σ H Q => ∃ a xs, v = .ref a ∧ SqT K H a xs ∧ xs.length = n ∧ t xs σ H Q
theorem pg_tup {es : List Expr} {k : Nat} {t : TGs} {n : Nat} (hc : X.calm = true) (h : PGs X es t)
    (hn : (assignEach es X.env).length = n := by rfl) (hst : (assignEach es X.env).findIdx? (·.1) = none := by rfl) : PG X (.Tuple es k pos) (gTup X.K n t) := by
  intro pins s σ H v u Q I r hw
  obtain ⟨a, xs, e1, hq, hl, hw⟩ := hw
  subst e1
  cases r
  obtain ⟨its, rv, ht, hz⟩ := I.tuple hq
  refine assign_Tuple_tuple (I.ok.hd hc) ht (by simp [hn, ← hl, rv.length]) hst fun h' hx => ?_
  have I1 : Inv X pins σ H { s with heap := h' } := I.kept (t' := s.toks) fun b o e => hx b o (Nat.ne_of_lt (Heap.lt_size e)) e
  exact h pins _ σ H xs _ Q I1 (by simpa using rv) hw
/-- o[i] = .. -/
def gSub (to ti : TE) (t : TSet) : TG := fun v σ H Q => to σ H fun o H1 => ti σ H1 fun i H2 => t o i v H2 fun H3 => Q σ H3
theorem pg_sub {o i : Expr} {to ti : TE} {t : TSet} (ho : PE X o to) (hi : PE X i ti) (hs : PSet X t)
    (ha : ∀ v, assign (.Subscript o i pos) X.env v = (do
      let ov ← holding [v] (eval o X.env)
      let iv ← holding [v, ov] (eval i X.env)
      standAt pos
      holding [v, ov, iv] (setItem ov iv v)
      release [v, ov, iv] []) := by intro _; rfl) : PG X (.Subscript o i pos) (gSub to ti t) := by
  intro pins s σ H v u Q I r h
  rw [ha]
  refine wpAny_bind (wpAny_holding (thn (ho pins s σ H _ I h) fun ov s1 ⟨x, H1, I1, r1, q1⟩ => ?_))
  refine wpAny_bind (wpAny_holding (thn (hi pins s1 σ H1 _ I1 q1) fun iv s2 ⟨y, H2, I2, r2, q2⟩ => ?_))
  refine wpAny_bind (wpAny_standAt (wpAny_bind (wpAny_holding (thn (hs pins s2 σ H2 x y v ov iv u _ I2 r1 r2 r q2) fun _ s3 ⟨H3, I3, q3⟩ => ?_))))
  exact wpAny_release ⟨σ, H3, I3, q3⟩
/-- target = value -/
def tAsg (te : TE) (g : TG) : TS := fun D σ H => te σ H fun x H1 => g x σ H1 D.nx
theorem ps_asg {tg e : Expr} {te : TE} {g : TG} (he : PE X e te) (hg : PG X tg g) (hs : swapsWithSole [tg] e pos.line X.env = pure false := by rfl) (hw : swappedStores [tg] e X.env = pure none := by rfl)
    (h1 : (assignEach [tg] X.env).map (·.2) = [assign tg X.env] := by rfl) : PS X (.Assign [tg] e pos) (tAsg te g) := by
  intro pins s σ H D I h
  refine wpAny_Assign_stores (thn (he pins s σ H _ I h) fun v s1 ⟨x, H1, I1, r1, q1⟩ => ?_) hs hw
  rw [h1]
  exact thn (hg pins s1 σ H1 x v _ I1 r1 q1) fun _ s2 q => q
/-- name = value -/
theorem ps_set {i : Nat} {x : Str} {e : Expr} {te : TE} {pos' : Pos} (hN : X.N.Nodup) (hi : X.N[i]? = some x) (hx : Loc X.env.scope x) (he : PE X e te) (hs : swapsWith e (some (.Name x pos')) pos.line X.env = pure false := by first | exact swaps_of rfl | rfl) (hf : X.fn x = true ∨ X.env.scope.names.lookup x = some .local := by first | exact .inl rfl | exact .inr rfl | assumption) :
    PS X (.Assign [.Name x pos'] e pos) (tAsg te (gName i)) := by
  intro pins s σ H D I h
  refine wpAny_Assign_Name (thn (he pins s σ H _ I h) fun v s1 ⟨y, H1, I1, r1, q1⟩ => ?_) hs
  exact store_ok I1 hN hi hx r1 (fun s2 I2 => ⟨_, H1, I2, q1⟩) hf
end

/-! ### while -/
section
variable {X : Cx} {pos : Pos}
/-- the invariant W with its measure -/
def tWhile (c : TT) (tb : TS) : TS := fun D σ H => ∃ W : Nat → St → Hp → Prop, (∃ m, W m σ H) ∧ ∀ m σ H, W m σ H →
  c σ H fun b H1 => if b = true then ∃ N : St → Hp → Prop, (∀ σ' H', N σ' H' → ∃ m', m' < m ∧ W m' σ' H') ∧ tb { D with nx := N, ct := N, bk := D.nx } σ H1 else D.nx σ H1
theorem ps_while {c : Expr} {body : List Stmt} {tc : TT} {tb : TS} (hp : PassesOwn (model X.prog X.w) X.A X.env X.xe) (hc : PT X c tc) (hb : PSs X body tb) : PS X (.While c body [] pos) (tWhile tc tb) := by
  intro pins s σ H D I h
  obtain ⟨W, ⟨m0, w0⟩, turn⟩ := h
  refine wpAny_While (codeAny_whileLoop (fun n s' => ∃ σ' H', Inv X pins σ' H' s' ∧ W n σ' H') ?_ m0 ⟨σ, H, I, w0⟩)
  rintro n s1 ⟨σ1, H1, I1, w1⟩
  refine wpAny_passesOwn hp (thn (hc pins s1 σ1 H1 _ I1 (turn n σ1 H1 w1)) fun b s2 ⟨H2, I2, q2⟩ => ?_)
  cases b with
  | true =>
    obtain ⟨N, hN, q2⟩ := q2
    rw [if_pos rfl]
    refine wpAny_passesOwn hp (thn (hb pins s2 σ1 H2 _ I2 q2) fun f s3 q3 => ?_)
    cases f with
    | next =>
      obtain ⟨σ3, H3, I3, n3⟩ := q3
      obtain ⟨m', hm, w3⟩ := hN σ3 H3 n3
      exact ⟨m', hm, σ3, H3, I3, w3⟩
    | cont =>
      obtain ⟨σ3, H3, I3, n3⟩ := q3
      obtain ⟨m', hm, w3⟩ := hN σ3 H3 n3
      exact ⟨m', hm, σ3, H3, I3, w3⟩
    | brk => exact q3
    | ret v => exact q3
  | false =>
    rw [if_neg Bool.false_ne_true]
    exact wpAny_execs_nil ⟨σ1, H2, I2, q2⟩
end

/-! ### what a loop or a comprehension walks -/
/-- at turn i: it yields x (the heap may grow), or it stops -/
structure It where
  go : Nat → Hp → Prop
  yld : Nat → Hp → V → Hp → Prop
  stop : Nat → Hp → Prop
/-- the iterator's own objects may turn: they are not the frame's, not pinned, younger than the entry (or a comprehension's own) -/
def FpOk (X : Cx) (pins : List (Addr × Obj)) (H : Hp) (b : Addr) : Prop :=
  H b = none ∧ b ≠ X.env.locals ∧ b ∉ X.fs ∧ (b ∈ X.ex ∨ X.s₀.heap.objs.size ≤ b) ∧ (∀ x c, X.env.cells.lookup x = some c → c ≠ b) ∧ ∀ p ∈ X.pn ++ pins, p.1 ≠ b
theorem Inv.fpOk {X : Cx} {pins : List (Addr × Obj)} {σ : St} {H H' : Hp} {s : Shared} {b : Addr} (I : Inv X pins σ H s) (hb : s.heap.objs.size ≤ b) (hn : H' b = none) : FpOk X pins H' b := by
  refine ⟨hn, Nat.ne_of_gt (Nat.lt_of_lt_of_le I.lt hb), I.nofs hb, .inr (Nat.le_trans I.sz hb), fun x c e z => ?_, fun p hp z => ?_⟩
  · obtain ⟨v, q⟩ := I.cell x c e
    exact absurd (Nat.lt_of_lt_of_le q.lt (by rw [z]; exact hb)) (Nat.lt_irrefl _)
  · exact absurd (Nat.lt_of_lt_of_le (Heap.lt_size (I.pin p hp).1) (by rw [z]; exact hb)) (Nat.lt_irrefl _)
structure Turn (P : Program) (w : World) (K : PySem.W.Frag) (tg : Expr) (J : It) (fp : List Addr) (it : Addr) (tn : Nat → Heap → Prop) : Prop where
  mem : it ∈ fp
  obj : ∀ i h, tn i h → ∀ b ∈ fp, ∃ o, h.get? b = some o ∧ ∀ v, o.data ≠ .cell v
  keep : ∀ i h h', tn i h → (∀ b ∈ fp, ∀ o, h.get? b = some o → h'.get? b = some o) → tn i h'
  item : ∀ (X : Cx), X.prog = P → X.w = w → X.K = K → X.calm = true → ∀ (i : Nat) (pins : List (Addr × Obj)) (s : Shared) (σ : St) (H : Hp) (E : Value → Shared → Prop), Inv X pins σ H s → (∀ b ∈ fp, FpOk X pins H b) → tn i s.heap → J.go i H →
    wpAny (model P w) X.A (pyNext (.ref it)) (fun r s1 => ∃ u, r = some u ∧
      wpAny (model P w) X.A (letOwnedTupleGo tg (.ref it) u) (fun _ s2 => ∃ x H', Inv X pins σ H' s2 ∧ RelV x u ∧ J.yld i H x H' ∧ tn (i + 1) s2.heap ∧ ∀ b ∈ fp, H' b = none) E s1) E s
  done : ∀ (X : Cx), X.prog = P → X.w = w → X.K = K → X.calm = true → ∀ (i : Nat) (pins : List (Addr × Obj)) (s : Shared) (σ : St) (H : Hp) (E : Value → Shared → Prop), Inv X pins σ H s → (∀ b ∈ fp, FpOk X pins H b) → tn i s.heap → J.stop i H →
    wpAny (model P w) X.A (pyNext (.ref it)) (fun r s1 => r = none ∧ Inv X pins σ H s1) E s
  self : ∀ (A : Around) (i : Nat) (s : Shared) (Q : Value → Shared → Prop) (E : Value → Shared → Prop), tn i s.heap → Q (.ref it) s → wpAny (model P w) A (pyIter (.ref it)) Q E s
abbrev TI := St → Hp → (It → Hp → Prop) → Prop
/-- an iterator has come -/
def PIE (X : Cx) (pins : List (Addr × Obj)) (σ : St) (tg : Expr) (R : It → Hp → Prop) (itv : Value) (s2 : Shared) : Prop :=
  ∃ (it : Addr) (fp : List Addr) (tn : Nat → Heap → Prop) (J : It) (H' : Hp), itv = .ref it ∧ Inv X pins σ H' s2 ∧ Turn X.prog X.w X.K tg J fp it tn ∧ tn 0 s2.heap ∧ (∀ b ∈ fp, FpOk X pins H' b) ∧ R J H'
def PI (X : Cx) (tg iter : Expr) (wi : TI) : Prop :=
  ∀ (pins : List (Addr × Obj)) (s : Shared) (σ : St) (H : Hp) (R : It → Hp → Prop), Inv X pins σ H s → wi σ H R →
    wpAny (model X.prog X.w) X.A (eval iter X.env) (fun v s1 => wpAny (model X.prog X.w) X.A (pyIter v) (PIE X pins σ tg R) X.xe s1) X.xe s

/-- the step ahead of the store is nothing for an iterator that keeps no tuple -/
theorem go_of {M : Model} {A : Around} {E : Value → Shared → Prop} {s : Shared} {tg : Expr} {it : Addr} {u : Value} {o : Obj} {n : String} {vs : Array Value} {Q : Unit → Shared → Prop} (ho : s.heap.get? it = some o) (hc : o.cls = .type n) (hd : o.data = .fields vs)
    (hn : ["enumerate", "zip", "dict_itemiterator", "dict_reverseitemiterator", "odict_iterator", "itertools.zip_longest", "itertools.pairwise"].contains n = false) (hQ : Q () s) : wpAny M A (letOwnedTupleGo tg (.ref it) u) Q E s := by
  unfold letOwnedTupleGo
  cases tg <;> first
    | exact wpAny_pure hQ
    | (cases u <;> first
        | exact wpAny_pure hQ
        | (refine wpAny_bind (wpAny_load ho ?_)
           rw [hc, hd]
           show wpAny M A (if (["enumerate", "zip", "dict_itemiterator", "dict_reverseitemiterator", "odict_iterator", "itertools.zip_longest", "itertools.pairwise"].contains n && vs[0]? == some (rawInt _)) = true then _ else _) Q E s
           rw [if_neg (by intro h; rw [hn, Bool.false_and] at h; cases h)]
           exact wpAny_pure hQ))

/-- the list at a, as it stands at each turn (a loop may append to it) -/
def Itl (K : PySem.W.Frag) (a : Addr) : It :=
  ⟨fun i H => ∃ xs x, SqL K H a xs ∧ xs[i]? = some x, fun i H x H' => H' = H ∧ ∀ xs, SqL K H a xs → xs[i]? = some x, fun i H => ∃ xs, SqL K H a xs ∧ xs.length ≤ i⟩
def Itt (K : PySem.W.Frag) (a : Addr) : It :=
  ⟨fun i H => ∃ xs x, SqT K H a xs ∧ xs[i]? = some x, fun i H x H' => H' = H ∧ ∀ xs, SqT K H a xs → xs[i]? = some x, fun i H => ∃ xs, SqT K H a xs ∧ xs.length ≤ i⟩
/-- lo, lo + 1, .. (n of them) -/
def Itr (lo : Int) (n : Nat) : It := ⟨fun i _ => i < n, fun i H x H' => H' = H ∧ x = .int (lo + i), fun i _ => n ≤ i⟩
theorem turn_list {P : Program} {w : World} {K : PySem.W.Frag} {tg : Expr} (a it : Addr) : Turn P w K tg (Itl K a) [it] it (fun i h => h.IsListIter it a i) where
  mem := by simp
  obj := fun i h st b hb => by
    have e : b = it := by simpa using hb
    subst e
    obtain ⟨o, e, c, d⟩ := st
    exact ⟨o, e, fun v z => by rw [d] at z; cases z⟩
  keep := fun i h h' st k => st.at fun o e => k it (by simp) o e
  item := by
    intro X hP hw hK hc i pins s σ H E I hf st hg
    subst hP hw hK
    obtain ⟨xs, x, hq, hx⟩ := hg
    obtain ⟨its, rv, p, hz⟩ := I.list hq
    obtain ⟨u, hu, ru⟩ := rv.get hx
    obtain ⟨f0, f1, f2, f3, f4, f5⟩ := hf it (by simp)
    refine wpAny_pyNext_list_item st p.isList (x := u) (by simpa using hu) fun h' st' sb => ?_
    have I1 : Inv X pins σ H { s with heap := h' } := I.turned (t' := s.toks) (fun b o hb e => (sb.2 b hb).trans e) f0 f1 f3 f4 f5
    obtain ⟨o, e, c, d⟩ := id st'
    exact ⟨u, rfl, go_of (s := { s with heap := h' }) e c d (by decide) ⟨x, H, I1, ru, ⟨rfl, fun ys hy => by rw [I.list_inj hy hq]; exact hx⟩, st', fun b hb => (hf b hb).1⟩⟩
  done := by
    intro X hP hw hK hc i pins s σ H E I hf st hg
    subst hP hw hK
    obtain ⟨xs, hq, hx⟩ := hg
    obtain ⟨its, rv, p, hz⟩ := I.list hq
    obtain ⟨f0, f1, f2, f3, f4, f5⟩ := hf it (by simp)
    have hl := rv.length
    exact wpAny_pyNext_list_end (I.ok.hd hc) st p.isList (by simp; omega) fun h' eb => ⟨rfl, I.turned (t' := s.toks) (fun b o hb e => eb b o hb e) f0 f1 f3 f4 f5⟩
  self := fun _ _ _ _ _ st h => wpAny_pyIter_listiter st h
theorem turn_tuple {P : Program} {w : World} {K : PySem.W.Frag} {tg : Expr} (a it : Addr) : Turn P w K tg (Itt K a) [it] it (fun i h => h.IsTupleIter it a i) where
  mem := by simp
  obj := fun i h st b hb => by
    have e : b = it := by simpa using hb
    subst e
    obtain ⟨o, e, c, d⟩ := st
    exact ⟨o, e, fun v z => by rw [d] at z; cases z⟩
  keep := fun i h h' st k => st.at fun o e => k it (by simp) o e
  item := by
    intro X hP hw hK hc i pins s σ H E I hf st hg
    subst hP hw hK
    obtain ⟨xs, x, hq, hx⟩ := hg
    obtain ⟨its, rv, p, hz⟩ := I.tuple hq
    obtain ⟨u, hu, ru⟩ := rv.get hx
    obtain ⟨f0, f1, f2, f3, f4, f5⟩ := hf it (by simp)
    refine wpAny_pyNext_tuple_item st (show s.heap.IsTuple a its.toArray from p) (x := u) (by simpa using hu) fun h' st' sb => ?_
    have I1 : Inv X pins σ H { s with heap := h' } := I.turned (t' := s.toks) (fun b o hb e => (sb.2 b hb).trans e) f0 f1 f3 f4 f5
    obtain ⟨o, e, c, d⟩ := id st'
    exact ⟨u, rfl, go_of (s := { s with heap := h' }) e c d (by decide) ⟨x, H, I1, ru, ⟨rfl, fun ys hy => by rw [I.tuple_inj hy hq]; exact hx⟩, st', fun b hb => (hf b hb).1⟩⟩
  done := by
    intro X hP hw hK hc i pins s σ H E I hf st hg
    subst hP hw hK
    obtain ⟨xs, hq, hx⟩ := hg
    obtain ⟨its, rv, p, hz⟩ := I.tuple hq
    obtain ⟨f0, f1, f2, f3, f4, f5⟩ := hf it (by simp)
    have hl := rv.length
    exact wpAny_pyNext_tuple_end (I.ok.hd hc) st (show s.heap.IsTuple a its.toArray from p) (by simp; omega) fun h' eb => ⟨rfl, I.turned (t' := s.toks) (fun b o hb e => eb b o hb e) f0 f1 f3 f4 f5⟩
  self := fun _ _ _ _ _ st h => wpAny_pyIter_tupleiter st h
theorem turn_range {P : Program} {w : World} {K : PySem.W.Frag} {tg : Expr} (it : Addr) (lo : Int) (n : Nat) : Turn P w K tg (Itr lo n) [it] it (fun i h => IsRangeIter h it (lo + (i : Nat) * 1) ((n : Int) - (i : Nat)) 1) where
  mem := by simp
  obj := fun i h st b hb => by
    have e : b = it := by simpa using hb
    subst e
    exact ⟨_, st, fun v z => by
      have z' : Data.fields _ = Data.cell v := z
      cases z'⟩
  keep := fun i h h' st k => k it (by simp) _ st
  item := by
    intro X hP hw hK hc i pins s σ H E I hf st hg
    subst hP hw hK
    obtain ⟨f0, f1, f2, f3, f4, f5⟩ := hf it (by simp)
    have W := Walks.range (prog := X.prog) (w := X.w) (I.ok.hd hc) it lo 1 n
    refine W.item i s _ _ hg st fun v h' tk hv st' kk => ?_
    obtain ⟨t, rfl⟩ := hv
    have I1 : Inv X pins σ H { s with heap := h', toks := tk } := I.turned (fun b o hb e => kk b o (by simpa using hb) e) f0 f1 f3 f4 f5
    refine ⟨_, rfl, go_of (s := { s with heap := h', toks := tk }) (n := "range_iterator") st' rfl rfl (by decide) ⟨.int (lo + i), H, I1, ⟨t, ?_⟩, ⟨rfl, rfl⟩, st', fun b hb => (hf b hb).1⟩⟩
    rw [Int.mul_one]
  done := by
    intro X hP hw hK hc i pins s σ H E I hf st hg
    subst hP hw hK
    obtain ⟨f0, f1, f2, f3, f4, f5⟩ := hf it (by simp)
    exact wpAny_pyNext_range_end (I.ok.hd hc) st (by have : n ≤ i := hg; omega) fun h' eb => ⟨rfl, I.turned (t' := s.toks) (fun b o hb e => eb b o hb e) f0 f1 f3 f4 f5⟩
  self := fun _ _ _ _ _ st h => wpAny_pyIter_rangeiter st h
end L2

namespace L2
open PySem PySem.Spec PyProof.Rows
section
variable {X : Cx} {tg : Expr}
def iList (K : PySem.W.Frag) (tl : TE) : TI := fun σ H R => tl σ H fun x H1 => ∃ a, x = .ref a ∧ (∃ xs, SqL K H1 a xs) ∧ R (Itl K a) H1
def iTup (K : PySem.W.Frag) (tl : TE) : TI := fun σ H R => tl σ H fun x H1 => ∃ a, x = .ref a ∧ (∃ xs, SqT K H1 a xs) ∧ R (Itt K a) H1
theorem pi_list {l : Expr} {tl : TE} (hl : PE X l tl) : PI X tg l (iList X.K tl) := by
  intro pins s σ H R I h
  refine thn (hl pins s σ H _ I h) fun v s1 ⟨x, H1, I1, r1, q1⟩ => ?_
  obtain ⟨a, e, ⟨xs, hq⟩, q⟩ := q1
  subst e
  cases r1
  obtain ⟨its, rv, p, hz⟩ := I1.list hq
  refine wpAny_pyIter_list p.isList ?_
  refine ⟨s1.heap.objs.size, [s1.heap.objs.size], _, _, H1, rfl, I1.kept (t' := s1.toks) fun b o e => Heap.get?_push_of_some _ e, turn_list a _, ⟨_, Heap.get?_push_size _ rfl, rfl, rfl⟩, fun b hb => ?_, q⟩
  have e : b = s1.heap.objs.size := by simpa using hb
  subst e
  exact I1.fpOk (Nat.le_refl _) (I1.hok.fresh (Nat.le_refl _))
theorem pi_tup {l : Expr} {tl : TE} (hl : PE X l tl) : PI X tg l (iTup X.K tl) := by
  intro pins s σ H R I h
  refine thn (hl pins s σ H _ I h) fun v s1 ⟨x, H1, I1, r1, q1⟩ => ?_
  obtain ⟨a, e, ⟨xs, hq⟩, q⟩ := q1
  subst e
  cases r1
  obtain ⟨its, rv, p, hz⟩ := I1.tuple hq
  refine wpAny_pyIter_tuple (show s1.heap.IsTuple a its.toArray from p) ?_
  refine ⟨s1.heap.objs.size, [s1.heap.objs.size], _, _, H1, rfl, I1.kept (t' := s1.toks) fun b o e => Heap.get?_push_of_some _ e, turn_tuple a _, ⟨_, Heap.get?_push_size _ rfl, rfl, rfl⟩, fun b hb => ?_, q⟩
  have e : b = s1.heap.objs.size := by simpa using hb
  subst e
  exact I1.fpOk (Nat.le_refl _) (I1.hok.fresh (Nat.le_refl _))
/-- a range object just made, walked -/
theorem range_it {pins : List (Addr × Obj)} {σ : St} {H : Hp} {s : Shared} {R : It → Hp → Prop} {E : Value → Shared → Prop} {lo hi : Int} {t u v : Tok} {tk : Nat} (I : Inv X pins σ H s) (h1 : -(2 ^ 62) ≤ lo) (h2 : lo < 2 ^ 62) (h3 : -(2 ^ 62) ≤ hi) (h4 : hi < 2 ^ 62)
    (q : R (Itr lo (hi - lo).toNat) H) : wpAny (model X.prog X.w) X.A (pyIter (.ref s.heap.objs.size)) (PIE X pins σ tg R) E { s with heap := s.heap.push { cls := .type "range", data := .fields #[.int lo t, .int hi u, .int 1 v] }, toks := tk } := by
  refine wpAny_pyIter_range (IsRange.new ..) (small_one h1 h2 h3 h4) ?_
  have I1 : Inv X pins σ H { s with heap := s.heap.push { cls := .type "range", data := .fields #[.int lo t, .int hi u, .int 1 v] }, toks := tk } := I.kept fun b o e => Heap.get?_push_of_some _ e
  refine ⟨(s.heap.push { cls := .type "range", data := .fields #[.int lo t, .int hi u, .int 1 v] }).objs.size, [(s.heap.push { cls := .type "range", data := .fields #[.int lo t, .int hi u, .int 1 v] }).objs.size], _, _, H, rfl,
    I1.kept (t' := tk) fun b o e => Heap.get?_push_of_some _ e, turn_range _ lo (hi - lo).toNat, ?_, fun b hb => ?_, q⟩
  · have e1 : lo + ((0 : Nat) : Int) * 1 = lo := by simp
    have e2 : (((hi - lo).toNat : Nat) : Int) - ((0 : Nat) : Int) = Builtin.Range.rangeSize lo hi 1 := by rw [rangeSize_one]; split <;> omega
    show IsRangeIter _ _ (lo + ((0 : Nat) : Int) * 1) ((((hi - lo).toNat : Nat) : Int) - ((0 : Nat) : Int)) 1
    rw [e1, e2]
    exact Heap.get?_push_size _ rfl
  · have e : b = (s.heap.push { cls := .type "range", data := .fields #[.int lo t, .int hi u, .int 1 v] }).objs.size := by simpa using hb
    subst e
    exact I1.fpOk (Nat.le_refl _) (I1.hok.fresh (Nat.le_refl _))
def iRng1 (ta : TA) : TI := fun σ H R => ta σ H fun vs H1 => ∃ j : Int, vs = [.int j] ∧ -(2 ^ 62) ≤ j ∧ j < 2 ^ 62 ∧ R (Itr 0 j.toNat) H1
theorem pi_range1 {a : Expr} {ta : TA} {p pos : Pos} (hg : Gl X "range") (hm : X.mg "range" = none) (ha : PA X [a] ta) (hs : starEach [a] X.env = [(false, eval a X.env)] := by rfl) : PI X tg (.Call (.Name "range" p) [a] [] pos) (iRng1 ta) := by
  intro pins s σ H R I h
  refine Call_ (ld_blt I hg hm boot_range (PyProof.Rows.callWith_type1 (thn (ha pos pins s σ H _ I h) fun us s1 ⟨vs, H1, I1, r1, q1⟩ => ?_) hs rfl))
  obtain ⟨j, e, q1, q2, q⟩ := q1
  subst e
  cases r1 with
  | cons r rr =>
    cases rr
    obtain ⟨t, rfl⟩ := r
    exact call_range_1 (range_it I1 (by omega) (by omega) q1 q2 (by simpa using q))
/-! ### for -/
/-- W: the invariant by the turn and a measure; N: what the body is to reach -/
def tFor (wi : TI) (g : TG) (tb : TS) : TS := fun D σ H => wi σ H fun J H1 => ∃ W : Nat → Nat → St → Hp → Prop, (∃ m, W 0 m σ H1) ∧ ∀ i m σ H, W i m σ H →
  (J.stop i H ∧ D.nx σ H) ∨ (J.go i H ∧ ∃ N : St → Hp → Prop, (∀ σ' H', N σ' H' → ∃ m', m' < m ∧ W (i + 1) m' σ' H') ∧ ∀ x H', J.yld i H x H' → g x σ H' fun σ2 H2 => tb { D with nx := N, ct := N, bk := D.nx } σ2 H2)
/-- the records at fp as they stand -/
def pinsAt (fp : List Addr) (h : Heap) : List (Addr × Obj) := fp.filterMap fun b => (h.get? b).map fun o => (b, o)
theorem mem_pinsAt {fp : List Addr} {h : Heap} {b : Addr} {o : Obj} (hb : b ∈ fp) (e : h.get? b = some o) : (b, o) ∈ pinsAt fp h := List.mem_filterMap.mpr ⟨b, hb, by rw [e]; rfl⟩
theorem of_pinsAt {fp : List Addr} {h : Heap} {p : Addr × Obj} (hp : p ∈ pinsAt fp h) : p.1 ∈ fp ∧ h.get? p.1 = some p.2 := by
  obtain ⟨b, hb, e⟩ := List.mem_filterMap.mp hp
  cases q : h.get? b with
  | none => rw [q] at e; cases e
  | some o =>
    rw [q] at e
    have e' : (b, o) = p := Option.some.inj e
    subst e'
    exact ⟨hb, q⟩
theorem Inv.pinned {pins : List (Addr × Obj)} {σ : St} {H : Hp} {s : Shared} {fp : List Addr} (I : Inv X pins σ H s) (hf : ∀ b ∈ fp, FpOk X pins H b) (ho : ∀ b ∈ fp, ∃ o, s.heap.get? b = some o ∧ ∀ v, o.data ≠ .cell v) : Inv X (pins ++ pinsAt fp s.heap) σ H s :=
  I.pins_of fun p hp => (List.mem_append.mp hp).elim (fun z => I.pin p (List.mem_append_right _ z)) fun z => by
    obtain ⟨hb, e⟩ := of_pinsAt z
    obtain ⟨f0, f1, f2, _⟩ := hf p.1 hb
    obtain ⟨o, e', d⟩ := ho p.1 hb
    rw [e] at e'; cases e'
    exact ⟨e, f0, f1, f2, d⟩
theorem Inv.unpinned {pins pl : List (Addr × Obj)} {σ : St} {H : Hp} {s : Shared} (I : Inv X (pins ++ pl) σ H s) : Inv X pins σ H s := I.pins_of fun p hp => I.pin p (List.mem_append_right _ (List.mem_append_left _ hp))
theorem ps_for {iter : Expr} {body : List Stmt} {wi : TI} {g : TG} {tb : TS} {pos : Pos} (hp : PassesOwn (model X.prog X.w) X.A X.env X.xe) (hc : X.calm = true) (hi : PI X tg iter wi) (hg : PG X tg g) (hb : PSs X body tb)
    (hs : ∀ x, foldedSetIterable iter X.env x = pure x := by intro _; rfl) : PS X (.For tg iter body [] pos) (tFor wi g tb) := by
  intro pins s σ H D I h
  refine wpAny_For (thn (hi pins s σ H _ I h) fun v s1 h1 => thn h1 fun itv s2 h2 => ?_) hs
  obtain ⟨it, fp, tn, J, H2, e, I2, T, st2, f2, W, ⟨m0, w0⟩, turn⟩ := h2
  subst e
  -- what stays true of the iterator's objects through the loop
  have stat : ∀ {H' : Hp}, (∀ b ∈ fp, H' b = none) → ∀ b ∈ fp, FpOk X pins H' b := fun hn b hb => ⟨hn b hb, (f2 b hb).2⟩
  refine codeAny_forLoop_any (fun n s' => ∃ i σ' H', Inv X pins σ' H' s' ∧ tn i s'.heap ∧ (∀ b ∈ fp, H' b = none) ∧ W i n σ' H') ?_ m0 ⟨0, σ, H2, I2, st2, fun b hb => (f2 b hb).1, w0⟩
  rintro n s3 ⟨i, σ3, H3, I3, st3, fr3, w3⟩
  rcases turn i n σ3 H3 w3 with ⟨stop, qn⟩ | ⟨go, N, hN, step⟩
  · refine wpAny_passesOwn hp (thn (T.done X rfl rfl rfl hc i pins s3 σ3 H3 X.xe I3 (stat fr3) st3 stop) fun r s4 ⟨hr, I4⟩ => ?_)
    subst hr
    exact wpAny_execs_nil ⟨σ3, H3, I4, qn⟩
  · refine wpAny_passesOwn hp (thn (T.item X rfl rfl rfl hc i pins s3 σ3 H3 X.xe I3 (stat fr3) st3 go) fun r s4 ⟨u, hr, h4⟩ => ?_)
    subst hr
    refine wpAny_passesOwn hp (thn h4 fun _ s5 ⟨x, H5, I5, r5, y5, st5, fr5⟩ => ?_)
    have I5' := I5.pinned (stat fr5) (T.obj _ _ st5)
    refine wpAny_passesOwn hp (thn (hg _ s5 σ3 H5 x u _ I5' r5 (step x H5 y5)) fun _ s6 ⟨σ6, H6, I6, q6⟩ => ?_)
    refine wpAny_passesOwn hp (thn (hb _ s6 σ6 H6 _ I6 q6) fun f s7 q7 => ?_)
    have again : ∀ {σ7 : St} {H7 : Hp}, Inv X (pins ++ pinsAt fp s5.heap) σ7 H7 s7 → N σ7 H7 → ∃ m, m < n ∧ ∃ i σ' H', Inv X pins σ' H' s7 ∧ tn i s7.heap ∧ (∀ b ∈ fp, H' b = none) ∧ W i m σ' H' := fun {σ7 H7} I7 n7 => by
      obtain ⟨m', hm, w7⟩ := hN σ7 H7 n7
      refine ⟨m', hm, i + 1, σ7, H7, I7.unpinned, T.keep _ _ _ st5 fun b hb o e => (I7.pin (b, o) (List.mem_append_right _ (List.mem_append_right _ (mem_pinsAt hb e)))).1, fun b hb => ?_, w7⟩
      obtain ⟨o, e, d⟩ := T.obj _ _ st5 b hb
      exact (I7.pin (b, o) (List.mem_append_right _ (List.mem_append_right _ (mem_pinsAt hb e)))).2.1
    cases f with
    | next => obtain ⟨σ7, H7, I7, n7⟩ := q7; exact again I7 n7
    | cont => obtain ⟨σ7, H7, I7, n7⟩ := q7; exact again I7 n7
    | brk => obtain ⟨σ7, H7, I7, q7⟩ := q7; exact ⟨σ7, H7, I7.unpinned, q7⟩
    | ret v => obtain ⟨x7, σ7, H7, I7, r7, q7⟩ := q7; exact ⟨x7, σ7, H7, I7.unpinned, r7, q7⟩
end

/-! ### the forms one uses -/
/-- over a list that the body leaves as it is -/
theorem for_list {K : PySem.W.Frag} {a : Addr} {xs : List V} {g : TG} {tb : TS} {D : Ends} {σ : St} {H : Hp} (Pv : Nat → St → Hp → Prop) (h0 : Pv 0 σ H) (hl : ∀ i σ H, i ≤ xs.length → Pv i σ H → SqL K H a xs)
    (hs : ∀ i x σ H, xs[i]? = some x → Pv i σ H → g x σ H fun σ2 H2 => tb { D with nx := Pv (i + 1), ct := Pv (i + 1), bk := D.nx } σ2 H2) (hd : ∀ σ H, Pv xs.length σ H → D.nx σ H) :
    ∃ W : Nat → Nat → St → Hp → Prop, (∃ m, W 0 m σ H) ∧ ∀ i m σ H, W i m σ H →
      ((Itl K a).stop i H ∧ D.nx σ H) ∨ ((Itl K a).go i H ∧ ∃ N : St → Hp → Prop, (∀ σ' H', N σ' H' → ∃ m', m' < m ∧ W (i + 1) m' σ' H') ∧ ∀ x H', (Itl K a).yld i H x H' → g x σ H' fun σ2 H2 => tb { D with nx := N, ct := N, bk := D.nx } σ2 H2) := by
  refine ⟨fun i m σ H => m = xs.length - i ∧ i ≤ xs.length ∧ Pv i σ H, ⟨xs.length, by simp, Nat.zero_le _, h0⟩, ?_⟩
  rintro i m σ H ⟨rfl, hi, p⟩
  have q := hl i σ H hi p
  by_cases hlt : i < xs.length
  · refine .inr ⟨⟨xs, xs[i], q, by simp [hlt]⟩, Pv (i + 1), fun σ' H' p' => ⟨xs.length - (i + 1), by omega, rfl, hlt, p'⟩, fun x H' y => ?_⟩
    obtain ⟨e, y⟩ := y
    subst e
    exact hs i x σ _ (y xs q) p
  · have e : i = xs.length := by omega
    subst e
    exact .inl ⟨⟨xs, q, Nat.le_refl _⟩, hd σ H p⟩
theorem for_tup {K : PySem.W.Frag} {a : Addr} {xs : List V} {g : TG} {tb : TS} {D : Ends} {σ : St} {H : Hp} (Pv : Nat → St → Hp → Prop) (h0 : Pv 0 σ H) (hl : ∀ i σ H, i ≤ xs.length → Pv i σ H → SqT K H a xs)
    (hs : ∀ i x σ H, xs[i]? = some x → Pv i σ H → g x σ H fun σ2 H2 => tb { D with nx := Pv (i + 1), ct := Pv (i + 1), bk := D.nx } σ2 H2) (hd : ∀ σ H, Pv xs.length σ H → D.nx σ H) :
    ∃ W : Nat → Nat → St → Hp → Prop, (∃ m, W 0 m σ H) ∧ ∀ i m σ H, W i m σ H →
      ((Itt K a).stop i H ∧ D.nx σ H) ∨ ((Itt K a).go i H ∧ ∃ N : St → Hp → Prop, (∀ σ' H', N σ' H' → ∃ m', m' < m ∧ W (i + 1) m' σ' H') ∧ ∀ x H', (Itt K a).yld i H x H' → g x σ H' fun σ2 H2 => tb { D with nx := N, ct := N, bk := D.nx } σ2 H2) := by
  refine ⟨fun i m σ H => m = xs.length - i ∧ i ≤ xs.length ∧ Pv i σ H, ⟨xs.length, by simp, Nat.zero_le _, h0⟩, ?_⟩
  rintro i m σ H ⟨rfl, hi, p⟩
  have q := hl i σ H hi p
  by_cases hlt : i < xs.length
  · refine .inr ⟨⟨xs, xs[i], q, by simp [hlt]⟩, Pv (i + 1), fun σ' H' p' => ⟨xs.length - (i + 1), by omega, rfl, hlt, p'⟩, fun x H' y => ?_⟩
    obtain ⟨e, y⟩ := y
    subst e
    exact hs i x σ _ (y xs q) p
  · have e : i = xs.length := by omega
    subst e
    exact .inl ⟨⟨xs, q, Nat.le_refl _⟩, hd σ H p⟩
theorem for_range {lo : Int} {n : Nat} {g : TG} {tb : TS} {D : Ends} {σ : St} {H : Hp} (Pv : Nat → St → Hp → Prop) (h0 : Pv 0 σ H)
    (hs : ∀ i σ H, i < n → Pv i σ H → g (.int (lo + i)) σ H fun σ2 H2 => tb { D with nx := Pv (i + 1), ct := Pv (i + 1), bk := D.nx } σ2 H2) (hd : ∀ σ H, Pv n σ H → D.nx σ H) :
    ∃ W : Nat → Nat → St → Hp → Prop, (∃ m, W 0 m σ H) ∧ ∀ i m σ H, W i m σ H →
      ((Itr lo n).stop i H ∧ D.nx σ H) ∨ ((Itr lo n).go i H ∧ ∃ N : St → Hp → Prop, (∀ σ' H', N σ' H' → ∃ m', m' < m ∧ W (i + 1) m' σ' H') ∧ ∀ x H', (Itr lo n).yld i H x H' → g x σ H' fun σ2 H2 => tb { D with nx := N, ct := N, bk := D.nx } σ2 H2) := by
  refine ⟨fun i m σ H => m = n - i ∧ i ≤ n ∧ Pv i σ H, ⟨n, by simp, Nat.zero_le _, h0⟩, ?_⟩
  rintro i m σ H ⟨rfl, hi, p⟩
  by_cases hlt : i < n
  · refine .inr ⟨hlt, Pv (i + 1), fun σ' H' p' => ⟨n - (i + 1), by omega, rfl, hlt, p'⟩, fun x H' y => ?_⟩
    obtain ⟨e, y⟩ := y
    subst e y
    exact hs i σ _ hlt p
  · have e : i = n := by omega
    subst e
    exact .inl ⟨Nat.le_refl _, hd σ H p⟩
end L2

namespace L2
open PySem PySem.Spec PyProof.Rows

abbrev R2 := V → V → Hp → VK → Prop
/-- a two-place operation on values: f is binaryOp op, inplaceOp op or compareOp op -/
def OpR (X : Cx) (f : Value → Value → Sem Value) (r : R2) : Prop :=
  ∀ (pins : List (Addr × Obj)) (s : Shared) (σ : St) (H : Hp) (x y : V) (v u : Value) (Q : VK), Inv X pins σ H s → RelV x v → RelV y u → r x y H Q →
    wpAny (model X.prog X.w) X.A (f v u) (EP X pins σ Q) X.xe s
/-- a one-place operation -/
def UnR (X : Cx) (f : Value → Sem Value) (r : V → Hp → VK → Prop) : Prop :=
  ∀ (pins : List (Addr × Obj)) (s : Shared) (σ : St) (H : Hp) (x : V) (v : Value) (Q : VK), Inv X pins σ H s → RelV x v → r x H Q →
    wpAny (model X.prog X.w) X.A (f v) (EP X pins σ Q) X.xe s
/-- a call of a value that is known (a builtin, a type) with values -/
def CallR (X : Cx) (f : Value) (r : List V → Hp → VK → Prop) : Prop :=
  ∀ (pins : List (Addr × Obj)) (s : Shared) (σ : St) (H : Hp) (xs : List V) (us : List Value) (Q : VK), Inv X pins σ H s → Vals xs us → r xs H Q →
    wpAny (model X.prog X.w) X.A (call f us) (EP X pins σ Q) X.xe s
/-- a value's truth -/
def TruR (X : Cx) (r : V → Hp → (Bool → Hp → Prop) → Prop) : Prop :=
  ∀ (pins : List (Addr × Obj)) (s : Shared) (σ : St) (H : Hp) (x : V) (v : Value) (Q : Bool → Hp → Prop), Inv X pins σ H s → RelV x v → r x H Q →
    wpAny (model X.prog X.w) X.A (truthy v) (TP X pins σ Q) X.xe s

def tOp (r : R2) (ta tb : TE) : TE := fun σ H Q => ta σ H fun x H1 => tb σ H1 fun y H2 => r x y H2 Q
def tUn (r : V → Hp → VK → Prop) (ta : TE) : TE := fun σ H Q => ta σ H fun x H1 => r x H1 Q
/-- ints in, under C, and a value out -/
def rI (C : Int → Int → Prop) (g : Int → Int → V) : R2 := fun x y H Q => ∃ i j, x = .int i ∧ y = .int j ∧ C i j ∧ Q (g i j) H
def rI0 (g : Int → Int → V) : R2 := fun x y H Q => ∃ i j, x = .int i ∧ y = .int j ∧ Q (g i j) H
def rU (g : Int → V) : V → Hp → VK → Prop := fun x H Q => ∃ i, x = .int i ∧ Q (g i) H

section
variable {X : Cx} {a b c : Expr} {ta tb tc : TE} {pos : Pos}

theorem binT (ha : PE X a ta) (hb : PE X b tb) {pins : List (Addr × Obj)} {s : Shared} {σ : St} {H : Hp} {R : V → V → Hp → Prop} (I : Inv X pins σ H s)
    (h : ta σ H fun x H1 => tb σ H1 fun y H2 => R x y H2) {Q : Value → Shared → Prop} {f : Value → Value → Sem Value}
    (hf : ∀ v u s2 x y H2, Inv X pins σ H2 s2 → RelV x v → RelV y u → R x y H2 → wpAny (model X.prog X.w) X.A (f v u) Q X.xe s2) :
    wpAny (model X.prog X.w) X.A (eval a X.env) (fun v s₁ => wpAny (model X.prog X.w) X.A (eval b X.env) (fun u s₂ => wpAny (model X.prog X.w) X.A (f v u) Q X.xe s₂) X.xe s₁) X.xe s := by
  refine thn (ha pins s σ H _ I h) fun v s1 ⟨x, H1, I1, r1, q1⟩ => ?_
  refine thn (hb pins s1 σ H1 _ I1 q1) fun u s2 ⟨y, H2, I2, r2, q2⟩ => ?_
  exact hf v u s2 x y H2 I2 r1 r2 q2

theorem pe_op {op : Operator} {r : R2} (ho : OpR X (binaryOp op) r) (ha : PE X a ta) (hb : PE X b tb) : PE X (.BinOp a op b pos) (tOp r ta tb) := by
  intro pins s σ H Q I h
  exact wpAny_BinOp (binT ha hb I h fun v u s2 x y H2 I2 rx ry q => ho pins s2 σ H2 x y v u Q I2 rx ry q)
theorem pe_un {op : UnaryOp} {r : V → Hp → VK → Prop} (ho : UnR X (unaryOp op) r) (ha : PE X a ta) : PE X (.UnaryOp op a pos) (tUn r ta) := by
  intro pins s σ H Q I h
  exact UnaryOp_ (thn (ha pins s σ H _ I h) fun v s1 ⟨x, H1, I1, r1, q1⟩ => ho pins s1 σ H1 x v Q I1 r1 q1)
/-! ### ints -/
theorem opI {f : Value → Value → Sem Value} {C : Int → Int → Prop} {g : Int → Int → Int}
    (rule : ∀ (i j : Int) (t u : Tok) (s : Shared) (Q : Value → Shared → Prop) (E : Value → Shared → Prop), C i j → Q (.int (g i j) s.toks) { s with toks := s.toks + 1 } → wpAny (model X.prog X.w) X.A (f (.int i t) (.int j u)) Q E s) :
    OpR X f (rI C fun i j => .int (g i j)) := by
  intro pins s σ H x y v u Q I rx ry h
  obtain ⟨i, j, rfl, rfl, hc, q⟩ := h
  obtain ⟨t, rfl⟩ := rx
  obtain ⟨t', rfl⟩ := ry
  exact rule i j t t' s _ _ hc ⟨.int (g i j), H, I.tok _, ⟨_, rfl⟩, q⟩
theorem opI0 {f : Value → Value → Sem Value} {g : Int → Int → Int}
    (rule : ∀ (i j : Int) (t u : Tok) (s : Shared) (Q : Value → Shared → Prop) (E : Value → Shared → Prop), Q (.int (g i j) s.toks) { s with toks := s.toks + 1 } → wpAny (model X.prog X.w) X.A (f (.int i t) (.int j u)) Q E s) :
    OpR X f (rI0 fun i j => .int (g i j)) := by
  intro pins s σ H x y v u Q I rx ry h
  obtain ⟨i, j, rfl, rfl, q⟩ := h
  obtain ⟨t, rfl⟩ := rx
  obtain ⟨t', rfl⟩ := ry
  exact rule i j t t' s _ _ ⟨.int (g i j), H, I.tok _, ⟨_, rfl⟩, q⟩
theorem opB0 {f : Value → Value → Sem Value} {g : Int → Int → Bool}
    (rule : ∀ (i j : Int) (t u : Tok) (s : Shared) (Q : Value → Shared → Prop) (E : Value → Shared → Prop), Q (.bool (g i j)) s → wpAny (model X.prog X.w) X.A (f (.int i t) (.int j u)) Q E s) :
    OpR X f (rI0 fun i j => .bl (g i j)) := by
  intro pins s σ H x y v u Q I rx ry h
  obtain ⟨i, j, rfl, rfl, q⟩ := h
  obtain ⟨t, rfl⟩ := rx
  obtain ⟨t', rfl⟩ := ry
  exact rule i j t t' s _ _ ⟨.bl (g i j), H, I, rfl, q⟩

def CDiv (i j : Int) : Prop := 0 < j ∧ j < 1073741824
def CPow (i j : Int) : Prop := 0 ≤ j ∧ j ≤ 1000000 ∧ i.natAbs < 2 ^ 64
def CMul (i j : Int) : Prop := (-(2 ^ 64) < i ∧ i < 2 ^ 64) ∨ (-(2 ^ 64) < j ∧ j < 2 ^ 64)
theorem CMul.ok {i j : Int} (h : CMul i j) : IntMulOk i j := by
  rcases h with ⟨h1, h2⟩ | ⟨h1, h2⟩
  · exact .of_left (intBits_le_64 h1 h2)
  · exact .of_right (intBits_le_64 h1 h2)
theorem op_add : OpR X (binaryOp .Add) (rI0 fun i j => .int (i + j)) := opI0 fun _ _ _ _ _ _ _ q => add_int q
theorem op_sub : OpR X (binaryOp .Sub) (rI0 fun i j => .int (i - j)) := opI0 fun _ _ _ _ _ _ _ q => sub_int q
theorem op_mul : OpR X (binaryOp .Mult) (rI CMul fun i j => .int (i * j)) := opI fun _ _ _ _ _ _ _ hc q => mul_int q hc.ok
/-- // by a positive divisor -/
theorem op_fdiv : OpR X (binaryOp .FloorDiv) (rI CDiv fun i j => .int (i / j)) := opI fun i j _ _ _ _ _ hc q => by
  have h1 : (0 : Int) < j := hc.1
  have h2 : j < 1073741824 := hc.2
  exact floordiv_int (by omega) (by rw [Int.fdiv_eq_ediv_of_nonneg i (by omega)]; exact q) (.inl (PyProof.noPylong_small (by omega)))
/-- % by a positive divisor of any size -/
theorem op_mod : OpR X (binaryOp .Mod) (rI (fun _ j => 0 < j) fun i j => .int (i % j)) := opI fun i j _ _ _ _ _ hc q => by
  have h1 : (0 : Int) < j := hc
  exact mod_int' (by omega) (by rw [Int.fmod_eq_emod_of_nonneg i (by omega)]; exact q)
theorem op_pow : OpR X (binaryOp .Pow) (rI CPow fun i j => .int (i ^ j.toNat)) := opI fun _ _ _ _ _ _ _ hc q => pow_int_small hc.1 hc.2.1 hc.2.2 q
theorem unI {f : Value → Sem Value} {g : Int → Int}
    (rule : ∀ (i : Int) (t : Tok) (s : Shared) (Q : Value → Shared → Prop) (E : Value → Shared → Prop), Q (.int (g i) s.toks) { s with toks := s.toks + 1 } → wpAny (model X.prog X.w) X.A (f (.int i t)) Q E s) :
    UnR X f (rU fun i => .int (g i)) := by
  intro pins s σ H x v Q I rx h
  obtain ⟨i, rfl, q⟩ := h
  obtain ⟨t, rfl⟩ := rx
  exact rule i t s _ _ ⟨.int (g i), H, I.tok _, ⟨_, rfl⟩, q⟩
theorem un_neg : UnR X (unaryOp .USub) (rU fun i => .int (-i)) := unI fun _ _ _ _ _ q => neg_int q
/-! ### bools among ints: n += (a < b) -/
end

/-! ### comparisons -/
/-- the scalars that == tells apart as data does -/
def scal : V → V → Bool
  | .non, .non => true | .non, .int _ => true | .int _, .non => true | .non, .bl _ => true | .bl _, .non => true | .non, .str _ => true | .str _, .non => true
  | .int _, .int _ => true | .bl _, .bl _ => true | .str _, .str _ => true | .byt _, .byt _ => true
  | .int _, .str _ => true | .str _, .int _ => true | .bl _, .str _ => true | .str _, .bl _ => true
  | _, _ => false
def rEq : R2 := fun x y H Q => scal x y = true ∧ Q (.bl (decide (x = y))) H
def rNe : R2 := fun x y H Q => scal x y = true ∧ Q (.bl (!decide (x = y))) H

theorem dec_int {i j : Int} : decide (V.int i = V.int j) = (i == j) := by
  rw [Bool.eq_iff_iff]
  simp
theorem dec_bl {i j : Bool} : decide (V.bl i = V.bl j) = (i == j) := by
  rw [Bool.eq_iff_iff]
  simp
theorem dec_str {i j : Str} : decide (V.str i = V.str j) = (i == j) := by
  rw [Bool.eq_iff_iff]
  simp
theorem dec_byt {i j : Array UInt8} : decide (V.byt i = V.byt j) = (i.toList == j.toList) := by
  rw [Bool.eq_iff_iff]
  cases i
  cases j
  simp

section
variable {X : Cx} {a b c : Expr} {ta tb tc : TE} {pos : Pos}
theorem fin_bl {pins : List (Addr × Obj)} {σ : St} {H : Hp} {s : Shared} {Q : VK} {k k' : Bool} (I : Inv X pins σ H s) (q : Q (.bl k) H) (e : k = k') : EP X pins σ Q (.bool k') s := by
  subst e
  exact ⟨.bl k, H, I, rfl, q⟩
theorem op_eq : OpR X (compareOp .Eq) rEq := by
  intro pins s σ H x y v u Q I rx ry h
  obtain ⟨hs, q⟩ := h
  cases x with
  | non =>
    cases rx
    cases y with
    | non => cases ry; exact PySem.EqNone.eq_none_none (fin_bl I q (by simp))
    | bl j => cases ry; exact PySem.EqNone.eq_none_bool (fin_bl I q (by simp))
    | int j => obtain ⟨t', rfl⟩ := ry; exact PySem.EqNone.eq_none_int (fin_bl I q (by simp))
    | str j => obtain ⟨t', rfl⟩ := ry; exact PySem.EqNone.eq_none_str (fin_bl I q (by simp))
    | _ => exact absurd (show false = true from hs) Bool.false_ne_true
  | bl i =>
    cases rx
    cases y with
    | non => cases ry; exact PySem.EqNone.eq_bool_none (fin_bl I q (by simp))
    | bl j => cases ry; exact eq_bool (fin_bl I q dec_bl)
    | str j => obtain ⟨t', rfl⟩ := ry; exact PySem.EqMixed.eq_bool_str (fin_bl I q (by simp))
    | _ => exact absurd (show false = true from hs) Bool.false_ne_true
  | int i =>
    obtain ⟨t, rfl⟩ := rx
    cases y with
    | non => cases ry; exact PySem.EqNone.eq_int_none (fin_bl I q (by simp))
    | int j => obtain ⟨t', rfl⟩ := ry; exact eq_int (fin_bl I q dec_int)
    | str j => obtain ⟨t', rfl⟩ := ry; exact PySem.EqMixed.eq_int_str (fin_bl I q (by simp))
    | _ => exact absurd (show false = true from hs) Bool.false_ne_true
  | str i =>
    obtain ⟨t, rfl⟩ := rx
    cases y with
    | non => cases ry; exact PySem.EqNone.eq_str_none (fin_bl I q (by simp))
    | bl j => cases ry; exact PySem.EqMixed.eq_str_bool (fin_bl I q (by simp))
    | int j => obtain ⟨t', rfl⟩ := ry; exact PySem.EqMixed.eq_str_int (fin_bl I q (by simp))
    | str j => obtain ⟨t', rfl⟩ := ry; exact eq_str (fin_bl I q dec_str)
    | _ => exact absurd (show false = true from hs) Bool.false_ne_true
  | byt i =>
    obtain ⟨t, rfl⟩ := rx
    cases y with
    | byt j => obtain ⟨t', rfl⟩ := ry; exact PySem.W.eq_bytes (fin_bl I q dec_byt)
    | _ => exact absurd (show false = true from hs) Bool.false_ne_true
  | _ => cases y <;> exact absurd (show false = true from hs) Bool.false_ne_true
theorem op_ne : OpR X (compareOp .NotEq) rNe := by
  intro pins s σ H x y v u Q I rx ry h
  obtain ⟨hs, q⟩ := h
  cases x with
  | non =>
    cases rx
    cases y with
    | non => cases ry; exact PySem.EqNone.ne_none_none (fin_bl I q (by simp))
    | bl j => cases ry; exact PySem.EqNone.ne_none_bool (fin_bl I q (by simp))
    | int j => obtain ⟨t', rfl⟩ := ry; exact PySem.EqNone.ne_none_int (fin_bl I q (by simp))
    | str j => obtain ⟨t', rfl⟩ := ry; exact PySem.EqNone.ne_none_str (fin_bl I q (by simp))
    | _ => exact absurd (show false = true from hs) Bool.false_ne_true
  | bl i =>
    cases rx
    cases y with
    | non => cases ry; exact PySem.EqNone.ne_bool_none (fin_bl I q (by simp))
    | bl j => cases ry; exact ne_bool (fin_bl I q (congrArg not dec_bl))
    | str j => obtain ⟨t', rfl⟩ := ry; exact PySem.EqMixed.ne_bool_str (fin_bl I q (by simp))
    | _ => exact absurd (show false = true from hs) Bool.false_ne_true
  | int i =>
    obtain ⟨t, rfl⟩ := rx
    cases y with
    | non => cases ry; exact PySem.EqNone.ne_int_none (fin_bl I q (by simp))
    | int j => obtain ⟨t', rfl⟩ := ry; exact ne_int (fin_bl I q (congrArg not dec_int))
    | str j => obtain ⟨t', rfl⟩ := ry; exact PySem.EqMixed.ne_int_str (fin_bl I q (by simp))
    | _ => exact absurd (show false = true from hs) Bool.false_ne_true
  | str i =>
    obtain ⟨t, rfl⟩ := rx
    cases y with
    | non => cases ry; exact PySem.EqNone.ne_str_none (fin_bl I q (by simp))
    | bl j => cases ry; exact PySem.EqMixed.ne_str_bool (fin_bl I q (by simp))
    | int j => obtain ⟨t', rfl⟩ := ry; exact PySem.EqMixed.ne_str_int (fin_bl I q (by simp))
    | str j => obtain ⟨t', rfl⟩ := ry; exact ne_str (fin_bl I q (congrArg not dec_str))
    | _ => exact absurd (show false = true from hs) Bool.false_ne_true
  | byt i =>
    obtain ⟨t, rfl⟩ := rx
    cases y with
    | byt j => obtain ⟨t', rfl⟩ := ry; exact PySem.W.ne_bytes (fin_bl I q (congrArg not dec_byt))
    | _ => exact absurd (show false = true from hs) Bool.false_ne_true
  | _ => cases y <;> exact absurd (show false = true from hs) Bool.false_ne_true

theorem op_lt : OpR X (compareOp .Lt) (rI0 fun i j => .bl (decide (i < j))) := opB0 fun _ _ _ _ _ _ _ q => lt_int q
theorem op_gt : OpR X (compareOp .Gt) (rI0 fun i j => .bl (decide (j < i))) := opB0 fun _ _ _ _ _ _ _ q => gt_int q
/-- two rules for one operation: by cases -/
theorem OpR.or {f : Value → Value → Sem Value} {r r' : R2} (h : OpR X f r) (h' : OpR X f r') : OpR X f (fun x y H Q => r x y H Q ∨ r' x y H Q) := by
  intro pins s σ H x y v u Q I rx ry q
  rcases q with q | q
  · exact h pins s σ H x y v u Q I rx ry q
  · exact h' pins s σ H x y v u Q I rx ry q

theorem nomark (b : Expr) {op : CmpOp} (h : op ≠ .In := by decide) (h2 : op ≠ .NotIn := by decide) : behindInMarks op b = false := by
  have e1 : (op == CmpOp.In) = false := by cases op <;> first | rfl | exact absurd rfl h
  have e2 : (op == CmpOp.NotIn) = false := by cases op <;> first | rfl | exact absurd rfl h2
  cases b <;> simp [behindInMarks, e1, e2]
/-- a comparison as a value; hm: nomark b, or (for in, not in) by with_unfolding_all rfl -/
theorem pe_cmpR {op : CmpOp} {r : R2} (ho : OpR X (compareOp op) r) (ha : PE X a ta) (hb : PE X b tb) (hm : behindInMarks op b = false) : PE X (.Compare a [op] [b] pos) (tOp r ta tb) := by
  intro pins s σ H Q I h
  exact wpAny_Compare1 (binT ha hb I h fun v u s2 x y H2 I2 rx ry q => ho pins s2 σ H2 x y v u Q I2 rx ry q) hm
/-- a reading of a value as a test -/
def tTest (t : TE) : TT := fun σ H Q => t σ H fun x H' => ∃ k, x = .bl k ∧ Q k H'
theorem pt_cmpR {op : CmpOp} {r : R2} (ho : OpR X (compareOp op) r) (ha : PE X a ta) (hb : PE X b tb) (hm : behindInMarks op b = false) : PT X (.Compare a [op] [b] pos) (tTest (tOp r ta tb)) := by
  intro pins s σ H Q I h
  refine wpAny_isTrue_Compare1 (thn (ha pins s σ H _ I h) fun v s1 ⟨x, H1, I1, r1, q1⟩ => thn (hb pins s1 σ H1 _ I1 q1) fun u s2 ⟨y, H2, I2, r2, q2⟩ =>
    thn (ho pins s2 σ H2 x y v u _ I2 r1 r2 q2) fun c s3 ⟨z, H3, I3, r3, k, e, q3⟩ => ?_) hm
  subst e
  cases r3
  exact wpAny_truthy_bool ⟨H3, I3, q3⟩
/-! ### truth -/
/-- a value's truth by the abstract heap -/
def TruV (K : PySem.W.Frag) (x : V) (H : Hp) (k : Bool) : Prop :=
  match x with
  | .non => k = false
  | .bl b => k = b
  | .int i => k = (i != 0)
  | .str y => y.length ≤ sizeLine ∧ k = ((y.length : Int) != 0)
  | .byt y => y.size ≤ sizeLine ∧ k = ((y.size : Int) != 0)
  | .ref p => (∃ xs, SqL K H p xs ∧ k = !xs.isEmpty) ∨ (∃ xs, SqT K H p xs ∧ k = !xs.isEmpty) ∨ ∃ kvs, H p = some (.dK kvs) ∧ k = !kvs.isEmpty
  | _ => False
theorem isEmpty_kv {κ : Type} {kvs : List (κ × V)} {vs : List (κ × Value)} (r : KV kvs vs) : (!vs.isEmpty) = !kvs.isEmpty := by
  cases r <;> rfl
theorem isEmpty_of {xs : List V} {its : List Value} (r : Vals xs its) : (!its.toArray.isEmpty) = !xs.isEmpty := by
  cases r <;> simp
theorem line63 : (sizeLine : Nat) < 2 ^ 63 := by rw [sizeLine_eq]; decide
theorem tru_ok : TruR X (fun x H Q => ∃ k, TruV X.K x H k ∧ Q k H) := by
  intro pins s σ H x v Q I rx h
  obtain ⟨k, e, q⟩ := h
  have hl := line63
  have hs : sizeLine = 16777216 := sizeLine_eq
  cases x with
  | non =>
    cases rx
    have e' : k = false := e
    subst e'
    exact truthy_none ⟨H, I, q⟩
  | bl b =>
    cases rx
    have e' : k = b := e
    subst e'
    exact wpAny_truthy_bool ⟨H, I, q⟩
  | int i =>
    obtain ⟨t, rfl⟩ := rx
    have e' : k = (i != 0) := e
    subst e'
    exact PySem.P.truthy_int ⟨H, I, q⟩
  | str y =>
    obtain ⟨t, rfl⟩ := rx
    obtain ⟨hy, e'⟩ : y.length ≤ sizeLine ∧ k = ((y.length : Int) != 0) := e
    subst e'
    exact PySem.P.truthy_str (by omega) ⟨H, I.tok _, q⟩
  | byt y =>
    obtain ⟨t, rfl⟩ := rx
    obtain ⟨hy, e'⟩ : y.size ≤ sizeLine ∧ k = ((y.size : Int) != 0) := e
    subst e'
    exact PySem.W.truthy_bytes (by omega) ⟨H, I.tok _, q⟩
  | ref p =>
    cases rx
    have e' : (∃ xs, SqL X.K H p xs ∧ k = !xs.isEmpty) ∨ (∃ xs, SqT X.K H p xs ∧ k = !xs.isEmpty) ∨ ∃ kvs, H p = some (.dK kvs) ∧ k = !kvs.isEmpty := e
    rcases e' with ⟨xs, hx, e'⟩ | ⟨xs, hx, e'⟩ | ⟨kvs, hx, e'⟩
    · subst e'
      obtain ⟨its, r, pl, hz⟩ := I.list hx
      have hlen := r.length
      exact wpAny_truthy_list pl.isList (by simp only [List.size_toArray]; omega) ⟨H, I.tok _, by rw [isEmpty_of r]; exact q⟩
    · subst e'
      obtain ⟨its, r, pl, hz⟩ := I.tuple hx
      have hlen := r.length
      exact truthy_tuple pl (by simp only [List.size_toArray]; omega) ⟨H, I.tok _, by rw [isEmpty_of r]; exact q⟩
    · subst e'
      obtain ⟨hz, hS, vs, r, m⟩ : kvs.length ≤ sizeLine ∧ (p == sysModules) = false ∧ ∃ vs, KV kvs vs ∧ s.heap.DictOf (mixKind X.prog X.w) p vs := I.hok p _ hx
      have hlen : kvs.length = vs.length := Paired.length r
      exact wpAny_truthy_dict hS m (by omega) ⟨H, I.tok _, by rw [isEmpty_kv r]; exact q⟩
  | _ => exact (show False from e).elim
/-- any expression whose test is its value's truth (a name, a call, a subscript, a field ..: he by fun _ => rfl) -/
theorem pt_truth (ha : PE X a ta) (he : ∀ whole, isTrue a X.env whole = (do let v ← whole; standAt a.pos; holding [v] (truthy v))) :
    PT X a (fun σ H Q => ta σ H fun x H' => ∃ k, TruV X.K x H' k ∧ Q k H') := by
  intro pins s σ H Q I h
  exact isTrue_plain (thn (ha pins s σ H _ I h) fun v s1 ⟨x, H1, I1, r1, q1⟩ => tru_ok pins s1 σ H1 x v Q I1 r1 q1) (he _)

/-! ### strs and bytes -/
/-! ### scalar builtins, by CallR -/
theorem vals1 {x : V} {us : List Value} (r : Vals [x] us) : ∃ u, us = [u] ∧ RelV x u := by
  cases r with
  | cons r1 r2 => cases r2; exact ⟨_, rfl, r1⟩
theorem vals2 {x y : V} {us : List Value} (r : Vals [x, y] us) : ∃ u w', us = [u, w'] ∧ RelV x u ∧ RelV y w' := by
  cases r with
  | cons r1 r2 =>
    cases r2 with
    | cons r3 r4 => cases r4; exact ⟨_, _, rfl, r1, r3⟩
theorem call_int1 : CallR X (.type "int") (fun xs H Q => (∃ i, xs = [.int i] ∧ Q (.int i) H) ∨ ∃ k, xs = [.bl k] ∧ Q (.int (if k then 1 else 0)) H) := by
  intro pins s σ H xs us Q I r h
  rcases h with ⟨i, rfl, q⟩ | ⟨k, rfl, q⟩
  · obtain ⟨u, rfl, t, rfl⟩ := vals1 r
    exact call_int_int ⟨.int i, H, I, ⟨_, rfl⟩, q⟩
  · obtain ⟨u, rfl, r1⟩ := vals1 r
    cases r1
    exact call_int_bool ⟨.int (if k then 1 else 0), H, I.tok _, ⟨_, rfl⟩, q⟩
end
end L2

namespace L2
open PySem PySem.Spec PyProof.Rows

/-! ### an instance, its attributes a map -/
structure ObjM (h : Heap) (x dx C : Addr) (mA : Str → Option Value) : Prop where
  obj : h.get? x = some (PySem.W.instObj C dx)
  ns : h.Ns1 dx mA
  ne : dx ≠ x

theorem lookIn_ns {h : Heap} {dx : Addr} {mA : Str → Option Value} (n : h.Ns1 dx mA) : ∃ od, h.get? dx = some od ∧ ∀ name, PySem.W.lookIn name od = some (mA name) := by
  obtain ⟨o, es, ep, ho, hd, hk, _, hm⟩ := n
  refine ⟨o, ho, fun name => ?_⟩
  have e := hm name
  unfold nsFind findBy at e
  rw [← Array.find?_toList] at e
  unfold PySem.W.lookIn
  rw [hd]
  dsimp only
  split
  · rename_i y q
    rw [q] at e
    exact congrArg some e
  · rename_i q
    rw [q] at e
    have a : es.toList.any (·.refKey) = false := by
      rw [List.any_eq_false]
      intro y hy
      obtain ⟨z, t, hkey⟩ := hk y (Array.mem_toList_iff.mp hy)
      simp [DictEntry.refKey, hkey]
    have a' : ¬ es.toList.any (·.refKey) = true := by rw [a]; exact Bool.false_ne_true
    rw [if_neg a']
    exact congrArg some e

theorem ObjM.look {h : Heap} {x dx C : Addr} {mA : Str → Option Value} (I : ObjM h x dx C mA) : ∃ od, PySem.W.InstAt h x (PySem.W.instObj C dx) C (some od) ∧ ∀ name, PySem.W.lookIn name od = some (mA name) :=
  let ⟨od, ho, hl⟩ := lookIn_ns I.ns
  ⟨od, ⟨I.obj, rfl, rfl, ho⟩, hl⟩

section
variable {prog : Program} {w : World} {A : Around} {E : Value → Shared → Prop} {s : Shared} {K : PySem.W.Frag} {x dx C f : Addr} {mA : Str → Option Value} {name : Str} {v : Value}

end

/-! ### the attributes as a list of pairs -/
section
variable {P : Program} {w : World} {H H' : Hp} {h h' : Heap} {a C dx : Addr} {fs fs' : List (Str × V)}
theorem ins_get (hok : HOk P w H h) (e : H a = some (.ins C dx fs)) : ∃ mA, ObjM h a dx C mA ∧ (∀ f, RelO (fs.lookup f) (mA f)) ∧ PySem.Within mA (fs.map (·.1)) ∧ fs.length ≤ 1000 ∧ H dx = some (.own a) := by
  obtain ⟨d, z, ne, ob, mA, n, r, q⟩ := (show ObjOk P w H h a (.ins C dx fs) from hok a _ e)
  exact ⟨mA, ⟨ob, n, ne⟩, r, q, z, d⟩
end

/-! ### what of the text a class must have -/
structure Cls (K : PySem.W.Frag) (C : Addr) : Prop where
  pg : PySem.W.plainGet K C Str.empty = true
  hd : PySem.W.hasDictIn K C = true
  po : PySem.W.plainOver K C = true
  sa : PySem.W.findIn K (.ref C) "__setattr__" = some (some (.builtin "object.__setattr__"))
theorem Cls.get {K : PySem.W.Frag} {C : Addr} (c : Cls K C) (f : Str) : PySem.W.plainGet K C f = true := c.pg
/-- a constant of the class -/
structure Con (K : PySem.W.Frag) (C : Addr) (f : Str) (v : V) (u : Value) : Prop where
  at_ : PySem.W.findIn K (.ref C) f = some (some u)
  rel : RelV v u
  get : PySem.W.specialIn K u "__get__" = some none
  cp : PySem.W.copiedNames.contains f = false
/-- a method: a plain def of the class or of one above it -/
structure Meth (K : PySem.W.Frag) (C : Addr) (m : Str) (f : Addr) : Prop where
  at_ : PySem.W.findIn K (.ref C) m = some (some (.ref f))
  fn : PySem.W.isFn K (.ref f) = true
  kp : PySem.W.keepIn K (.ref f) = true

section
variable {X : Cx} {pins : List (Addr × Obj)} {σ : St} {H : Hp} {s : Shared} {a C dx : Addr} {fs : List (Str × V)} {f : Str} {v : V} {A : Around} {E : Value → Shared → Prop}

end

/-! ### readings and rules -/
section
variable {X : Cx} {o e value : Expr} {f : Str} {pos pos' tpos : Pos} {ta tv : TE}
end

/-! ### isinstance -/
section
variable {X : Cx} {pins : List (Addr × Obj)} {σ : St} {H : Hp} {s : Shared} {A : Around} {E : Value → Shared → Prop} {Q : Value → Shared → Prop} {c : Value} {b : Bool}
/-- the type of a value, as the fragment's deciders take it; for an instance its class -/
inductive TyOf (K : PySem.W.Frag) (H : Hp) : V → Value → Prop where
  | non : TyOf K H .non (.type "NoneType")
  | bl (x : Bool) : TyOf K H (.bl x) (.type "bool")
  | int (i : Int) : TyOf K H (.int i) (.type "int")
  | str (x : Str) : TyOf K H (.str x) (.type "str")
  | flt (x : UInt64) : TyOf K H (.flt x) (.type "float")
  | lst {a : Addr} {xs : List V} (e : H a = some (.lst xs)) : TyOf K H (.ref a) (.type "list")
  | frz {a : Addr} {o : Obj} {xs : List V} (e : H a = some (.frz o (.lst xs))) : TyOf K H (.ref a) (.type "list")
  | tup {a : Addr} {xs : List V} (e : H a = some (.tup xs)) : TyOf K H (.ref a) (.type "tuple")
  | dK {a : Addr} {kvs : List (Key × V)} (e : H a = some (.dK kvs)) : TyOf K H (.ref a) (.type "dict")
  | dT {a : Addr} {kvs : List (List Key × V)} (e : H a = some (.dT kvs)) : TyOf K H (.ref a) (.type "dict")
  | ins {a C dx : Addr} {fs : List (Str × V)} (e : H a = some (.ins C dx fs)) (cl : Cls K C) (ha : PySem.W.findIn K (.ref C) "__class__" = some (some (.builtin "object.__class__")))
      (hn : PySem.W.specialIn K (.builtin "object.__class__") "__get__" = some (some (.builtin "getset_descriptor.__get__"))) (htk : PySem.W.takesIn K (.builtin "object.__class__") = some true)
      (hm : PySem.W.mroIn K C (.type "object") = some true) : TyOf K H (.ref a) (.ref C)
/-- isinstance(x, c) for one class c, a built-in or an own one: kitOne's answer -/
theorem isinst_ok {x : V} {u t : Value} (I : Inv X pins σ H s) (rx : RelV x u) (ty : TyOf X.K H x t) (e : PySem.W.kitOne X.K t c = some b) (h : ∀ tk, Q (.bool b) { s with toks := tk }) :
    wpAny (model X.prog X.w) A (call (.builtin "isinstance") [u, c]) Q E s := by
  cases ty with
  | non => cases (show u = Value.none from rx); exact PySem.W.kia_one PySem.W.kitx_none I.kIn True.intro e (fun z => nomatch z) h
  | bl y => cases (show u = Value.bool y from rx); exact PySem.W.kia_one PySem.W.kitx_bool I.kIn True.intro e (fun z => nomatch z) h
  | int i => obtain ⟨t, q⟩ := (show ∃ t, u = Value.int i t from rx); cases q; exact PySem.W.kia_one PySem.W.kitx_int I.kIn True.intro e (fun z => nomatch z) h
  | str y => obtain ⟨t, q⟩ := (show ∃ t, u = Value.str y t from rx); cases q; exact PySem.W.kia_one PySem.W.kitx_str I.kIn True.intro e (fun z => nomatch z) h
  | flt y => obtain ⟨t, q⟩ := (show ∃ t, u = Value.float y t from rx); cases q; exact PySem.W.kia_one PySem.W.kitx_float I.kIn True.intro e (fun z => nomatch z) h
  | @lst a xs ea =>
    cases (show u = Value.ref a from rx)
    obtain ⟨_, _, n, _, h1⟩ := (show ObjOk X.prog X.w H s.heap a (.lst xs) from I.hok a _ ea)
    exact PySem.W.kia_one PySem.W.kitx_list I.kIn ⟨_, h1, rfl⟩ e (fun z => nomatch z) h
  | @frz a ob xs ea =>
    cases (show u = Value.ref a from rx)
    obtain ⟨_, _, _, n, _, h1⟩ := (show ObjOk X.prog X.w H s.heap a (.frz ob (.lst xs)) from I.hok a _ ea)
    exact PySem.W.kia_one PySem.W.kitx_list I.kIn ⟨_, h1, rfl⟩ e (fun z => nomatch z) h
  | @tup a xs ea =>
    cases (show u = Value.ref a from rx)
    obtain ⟨_, _, _, p, _⟩ := (show ObjOk X.prog X.w H s.heap a (.tup xs) from I.hok a _ ea)
    obtain ⟨o, h1, h2, _⟩ := p
    exact PySem.W.kia_one PySem.W.kitx_tuple I.kIn ⟨o, h1, h2⟩ e (fun z => nomatch z) h
  | @dK a kvs ea =>
    cases (show u = Value.ref a from rx)
    obtain ⟨_, _, vs, _, p⟩ := (show ObjOk X.prog X.w H s.heap a (.dK kvs) from I.hok a _ ea)
    obtain ⟨o, es, ep, h1, h2, _⟩ := p
    exact PySem.W.kia_one PySem.W.kitx_dict I.kIn ⟨o, h1, h2.1⟩ e (fun z => nomatch z) h
  | @dT a kvs ea =>
    cases (show u = Value.ref a from rx)
    obtain ⟨_, _, xs, _, o, es, ep, h1, h2, _⟩ := (show ObjOk X.prog X.w H s.heap a (.dT kvs) from I.hok a _ ea)
    exact PySem.W.kia_one PySem.W.kitx_dict I.kIn ⟨o, h1, h2.1⟩ e (fun z => nomatch z) h
  | @ins a C dx fs ea cl ha hn htk hm =>
    cases (show u = Value.ref a from rx)
    obtain ⟨mA, O, _⟩ := ins_get I.hok ea
    obtain ⟨od, J, _⟩ := O.look
    exact PySem.W.kia_one (PySem.W.kitx_own (cl.get _) cl.hd ha hn htk hm) I.kIn J e (fun z => nomatch z) h
end
end L2

namespace L2
open PySem PySem.Spec PyProof.Rows

/-! ### room -/
structure Room (k : Nat) (A : Around) : Prop where
  hd : A.handled = none
  dp : A.depth + 3 * k + 5 < recursionLimit
  un : A.units + 16 * k + 200 < cLine
  gd : A.guards = some []
theorem Room.mono {j k : Nat} {A : Around} (r : Room k A) (h : j ≤ k) : Room j A := ⟨r.hd, by have := r.dp; omega, by have := r.un; omega, r.gd⟩
theorem Room.deeper {k : Nat} {A : Around} (r : Room (k + 1) A) (env : Env) : Room k (A.deeper env) :=
  ⟨r.hd, by have := r.dp; show A.depth + 1 + 3 * k + 5 < _; omega, by have := r.un; show A.units + 3 + 16 * k + 200 < _; omega, r.gd⟩
theorem Room.in1 {k : Nat} {A : Around} (r : Room (k + 1) A) : Room k A.in1 :=
  ⟨r.hd, by have := r.dp; show A.depth + 3 * k + 5 < _; omega, by have := r.un; show A.units + 1 + 16 * k + 200 < _; omega, r.gd⟩
theorem Room.depth {k : Nat} {A : Around} (r : Room k A) : A.depth < recursionLimit := by have := r.dp; omega
theorem Room.units {k : Nat} {A : Around} (r : Room k A) : A.units + 64 < cLine := by have := r.un; omega
theorem Room.units0 {k : Nat} {A : Around} (r : Room k A) : A.units < cLine := by have := r.un; omega

/-! ### argument lists and displays -/
def tNil : TA := fun _ H Q => Q [] H
def tCons (ta : TE) (tr : TA) : TA := fun σ H Q => ta σ H fun x H1 => tr σ H1 fun xs H2 => Q (x :: xs) H2
section
variable {X : Cx} {e : Expr} {es : List Expr} {te : TE} {t : TA} {pos : Pos}
theorem pa_nil : PA X [] tNil := fun _ _ _ _ H Q I h => Calls.spliced_nil ⟨[], H, I, .nil, h⟩
theorem pa_cons (ha : PE X e te) (hr : PA X es t) (hs : starEach (e :: es) X.env = (false, eval e X.env) :: starEach es X.env := by exact star_of rfl) : PA X (e :: es) (tCons te t) := by
  intro pos pins s σ H Q I h
  rw [hs]
  show wpAny _ _ (spliced ((false, eval e X.env) :: backTo pos (starEach es X.env))) _ _ s
  refine Calls.spliced_cons (thn (ha pins s σ H _ I h) fun u s1 ⟨x, H1, I1, r1, q1⟩ => ?_)
  exact thn (hr pos pins s1 σ H1 _ I1 q1) fun us s2 ⟨xs, H2, I2, r2, q2⟩ => ⟨x :: xs, H2, I2, .cons r1 r2, q2⟩

/-- a tuple, a list of written items -/
def tTup (t : TA) : TE := fun σ H Q => t σ H fun xs H1 => xs.length ≤ sizeLine ∧ ∀ p, H1 p = none → Q (.ref p) (upd H1 p (.tup xs))
def tLst (t : TA) : TE := fun σ H Q => t σ H fun xs H1 => xs.length ≤ sizeLine ∧ ∀ p, H1 p = none → Q (.ref p) (upd H1 p (.lst xs))
theorem pe_tup {x1} (h : PA X es t) : PE X (.Tuple es x1 pos) (tTup t) := by
  intro pins s σ H Q I hq
  refine wpAny_Tuple_spliced (thn (h pos pins s σ H _ I hq) fun us s1 ⟨xs, H1, I1, r, z, q⟩ => ⟨by rw [← r.length]; exact z, ?_⟩)
  have hf : H1 s1.heap.objs.size = none := I1.hok.fresh (Nat.le_refl _)
  refine ⟨.ref s1.heap.objs.size, upd H1 s1.heap.objs.size (.tup xs), I1.laid (t' := s1.toks) (fun b u e => Heap.get?_push_of_some _ e) (Nat.le_refl _) ?_, rfl, q _ hf⟩
  exact ⟨z, us, r, ⟨_, Heap.get?_push_size _ rfl, rfl, _, rfl⟩, _, Heap.get?_push_size _ rfl, rfl⟩
theorem pe_lst (h : PA X es t) : PE X (.List es pos) (tLst t) := by
  intro pins s σ H Q I hq
  refine wpAny_List_spliced (thn (h pos pins s σ H _ I hq) fun us s1 ⟨xs, H1, I1, r, z, q⟩ => ⟨by rw [← r.length]; exact z, ?_⟩)
  have hf : H1 s1.heap.objs.size = none := I1.hok.fresh (Nat.le_refl _)
  refine ⟨.ref s1.heap.objs.size, upd H1 s1.heap.objs.size (.lst xs), I1.laid (t' := s1.toks) (fun b u e => Heap.get?_push_of_some _ e) (Nat.le_refl _) ?_, rfl, q _ hf⟩
  exact ⟨z, us, 0, r, Heap.get?_push_size _ rfl⟩
end

/-! ### what a def promises -/
/-- a def's promise: the bound arguments in the parameters' order, the heap, the wanted end, the wanted exception -/
abbrev Sp := List V → Hp → VK → XK → Prop
/-- how an exception lies behind a call (file 08 gives it): the callers' frames, abstract heap and state ahead of the call, the wish, the exception, the state -/
abbrev CXT := List Env → Hp → Shared → XK → Value → Shared → Prop

/-- the state at a call -/
structure Env0 (P : Program) (w : World) (K : PySem.W.Frag) (mg : Str → Option Value) (base : Heap) (A : Around) (outer : List Env) (s : Shared) (H : Hp) : Prop where
  frames : A.frames = some outer
  mod : Mod K mg base
  bs : ∀ b o, base.get? b = some o → s.heap.get? b = some o ∧ H b = none
  bsz : base.objs.size ≤ s.heap.objs.size
  funs : s.heap.FunFrames base outer
  frf : ∀ b ∈ frs outer, H b = none
  hok : HOk P w H s.heap
  bare : AllBare s.gens
/-- a call's end -/
def CE (outer : List Env) (P : Program) (w : World) (H : Hp) (s : Shared) (Q : VK) (u : Value) (s' : Shared) : Prop :=
  ∃ v H', s'.os = s.os ∧ AllBare s'.gens ∧ Un (frs outer) [] H H' s.heap s'.heap ∧ HOk P w H' s'.heap ∧ RelV v u ∧ Q v H'
def CR (CX : CXT) (outer : List Env) (P : Program) (w : World) (H : Hp) (s : Shared) (Q : VK) (E : XK) (r : Result) (s' : Shared) : Prop :=
  match r with
  | .ok (.ret u) => CE outer P w H s Q u s'
  | .ok _ => False
  | .error e => CX outer H s E e s'
structure FnOk (P : Program) (w : World) (K : PySem.W.Frag) (mg : Str → Option Value) (base : Heap) (CX : CXT) (k : Nat) (f : Addr) (fd : FuncData) (ps : List Str) (sp : Sp) : Prop where
  len : ∀ vs H Q E, sp vs H Q E → vs.length = ps.length
  run : ∀ (A : Around) (outer : List Env) (s : Shared) (H : Hp) (args : Args) (us : List Value) (vs : List V) (Q : VK) (E : XK), Room k A → Env0 P w K mg base A outer s H → BindsTo s fd args (ps.zip us) → Vals vs us → sp vs H Q E →
    codeAny (model P w) A (.call (.ref f) args) (CR CX outer P w H s Q E) s
theorem FnOk.mono {P : Program} {w : World} {K : PySem.W.Frag} {mg : Str → Option Value} {base : Heap} {CX : CXT} {j k : Nat} {f : Addr} {fd : FuncData} {ps : List Str} {sp : Sp} (F : FnOk P w K mg base CX j f fd ps sp) (h : j ≤ k) :
    FnOk P w K mg base CX k f fd ps sp := ⟨F.len, fun A outer s H args us vs Q E hr => F.run A outer s H args us vs Q E (hr.mono h)⟩
/-- a weaker promise -/
theorem FnOk.imp {P : Program} {w : World} {K : PySem.W.Frag} {mg : Str → Option Value} {base : Heap} {CX : CXT} {k : Nat} {f : Addr} {fd : FuncData} {ps : List Str} {sp sp' : Sp} (F : FnOk P w K mg base CX k f fd ps sp)
    (h : ∀ vs H Q E, sp' vs H Q E → sp vs H Q E) : FnOk P w K mg base CX k f fd ps sp' :=
  ⟨fun vs H Q E q => F.len vs H Q E (h _ _ _ _ q), fun A outer s H args us vs Q E hr he hb hv hs => F.run A outer s H args us vs Q E hr he hb hv (h _ _ _ _ hs)⟩

theorem Env0.in1 {P : Program} {w : World} {K : PySem.W.Frag} {mg : Str → Option Value} {base : Heap} {A : Around} {outer : List Env} {s : Shared} {H : Hp} (e : Env0 P w K mg base A outer s H) :
    Env0 P w K mg base A.in1 outer s H := ⟨e.frames, e.mod, e.bs, e.bsz, e.funs, e.frf, e.hok, e.bare⟩

section
variable {X : Cx} {pins : List (Addr × Obj)} {σ : St} {H : Hp} {s s' : Shared}
/-- from a body: what a callee wants -/
theorem Inv.env0 (I : Inv X pins σ H s) : Env0 X.prog X.w X.K X.mg X.base X.A X.stack s H :=
  ⟨I.ok.frames, I.ok.mod, I.bs, Nat.le_trans I.ok.bsz I.sz, I.stack, I.stkFree, I.hok, I.bare⟩
/-- behind a call -/
theorem Inv.after {Q : VK} {u : Value} (I : Inv X pins σ H s) (h : CE X.stack X.prog X.w H s Q u s') : EP X pins σ Q u s' := by
  obtain ⟨v, H', os, bare, un, hok, r, q⟩ := h
  obtain ⟨hh, g, d, t, os'⟩ := s'
  obtain rfl : os' = s.os := os
  exact ⟨v, H', I.call (h' := hh) (g' := g) (d' := d) (t' := t) (ch := []) un hok bare (fun b z => absurd z (by simp)), r, q⟩
end

/-! ### calls -/
/-- f(..): the written arguments, then the defaults dvs; E: what is wanted of an exception -/
def tCall (sp : Sp) (dvs : List V) (E : XK) (t : TA) : TE := fun σ H Q => t σ H fun vs H1 => sp (vs ++ dvs) H1 Q E
/-- how the parameters are bound: us the positional arguments, kw the keywords' values by name, ds the defaults that fill up -/
def Binds (K : PySem.W.Frag) (fd : FuncData) (ps : List Str) (ds : List Value) : Prop :=
  ∀ (s : Shared) (us : List Value), K.In s.heap → (us ++ ds).length = ps.length → BindsTo s fd ⟨us, []⟩ (ps.zip (us ++ ds))
/-- every parameter is given -/
theorem Binds.all {K : PySem.W.Frag} {fd : FuncData} {ps : List Str} (h : ∀ us : List Value, us.length = ps.length → bindArgs fd ⟨us, []⟩ = pure (ps.zip us)) : Binds K fd ps [] := fun s us _ hl => by
  rw [List.append_nil] at hl ⊢
  exact .of_eq (h us hl)

/-- an exception of a callee reaches what this body wants of exceptions -/
def Passes (CX : CXT) (X : Cx) (E : XK) : Prop := ∀ (pins : List (Addr × Obj)) (σ : St) (H : Hp) (s : Shared) (e : Value) (s' : Shared), Inv X pins σ H s → CX X.stack H s E e s' → X.xe e s'

section
variable {X : Cx} {CX : CXT} {k : Nat} {f C : Addr} {fd : FuncData} {ps : List Str} {sp : Sp} {dvs : List V} {ds : List Value} {E : XK} {x m : Str} {p pos apos : Pos} {e o : Expr} {es : List Expr} {ta : TE} {t : TA}

/-- the callee runs -/
theorem run_fn {pins : List (Addr × Obj)} {σ : St} {H : Hp} {s : Shared} {Q : VK} {us : List Value} {vs : List V} (F : FnOk X.prog X.w X.K X.mg X.base CX k f fd ps sp) (hr : Room k X.A) (hb : Binds X.K fd ps ds) (hd : Vals dvs ds) (hx : Passes CX X E)
    (I : Inv X pins σ H s) (r : Vals vs us) (h : sp (vs ++ dvs) H Q E) : wpAny (model X.prog X.w) X.A (call (.ref f) us) (EP X pins σ Q) X.xe s := by
  have r2 : Vals (vs ++ dvs) (us ++ ds) := r.append hd
  have hl : (us ++ ds).length = ps.length := by rw [← r2.length]; exact F.len _ _ _ _ h
  refine wpAny_call (codeAny_mono (F.run X.A X.stack s H ⟨us, []⟩ (us ++ ds) (vs ++ dvs) Q E hr I.env0 (hb s us I.kIn hl) r2 h) fun r s' hq => ?_)
  cases r with
  | error e => exact hx pins σ H s e s' I hq
  | ok fl =>
    cases fl with
    | ret u => exact I.after hq
    | next => exact False.elim hq
    | brk => exact False.elim hq
    | cont => exact False.elim hq

theorem pe_call (F : FnOk X.prog X.w X.K X.mg X.base CX k f fd ps sp) (hr : Room k X.A) (hg : Gl X x) (hm : X.mg x = some (.ref f)) (hk : PySem.W.keepIn X.K (.ref f) = true) (hb : Binds X.K fd ps ds) (hd : Vals dvs ds) (hx : Passes CX X E)
    (ha : PA X (e :: es) t) (hdb : (x == ("__debug__" : Str)) = false := by decide) (he : starEach (e :: es) X.env = (false, eval e X.env) :: starEach es X.env := by exact star_of rfl) (hpl : (backTo pos (starEach es X.env)).any (·.1) = false := by exact plain_of rfl) :
    PE X (.Call (.Name x p) (e :: es) [] pos) (tCall sp dvs E t) := by
  intro pins s σ H Q I h
  refine wpAny_Call_Name_kw (ld_glob I hg hm ?_ hdb)
  refine PySem.W.callWith_K (h₀ := X.base) I.ok.mod.kin hk (thn (ha pos pins s σ H _ I h) fun us s1 ⟨vs, H1, I1, r, q⟩ => ⟨I1.kIn, ?_⟩) he hpl
  exact run_fn F hr hb hd hx I1 r q
/-- what a class must have to be made -/
structure Mk (K : PySem.W.Frag) (C f : Addr) : Prop where
  makes : PySem.W.makesIn K C = true
  init : PySem.W.findIn K (.ref C) "__init__" = some (some (.ref f))
  fn : PySem.W.isFn K (.ref f) = true
  kp : PySem.W.keepIn K (.ref C) = true

end

/-! ### keywords -/
section
variable {X : Cx} {CX : CXT} {k : Nat} {f C : Addr} {fd : FuncData} {ps ks : List Str} {sp : Sp} {E : XK} {x m : Str} {p pos apos kpos : Pos} {e o : Expr} {es : List Expr} {kws : List Keyword} {te ta : TE} {t tk : TA} {nm : Option Str}
/-- how a call with keywords binds: g puts the positional values us and the keywords' values ws (names ks) in the parameters' order, defaults among them -/
structure KBinds (K : PySem.W.Frag) (fd : FuncData) (ps ks : List Str) (g : List Value → List Value → List Value) (gV : List V → List V → List V) : Prop where
  to : ∀ (s : Shared) (us ws : List Value), K.In s.heap → (g us ws).length = ps.length → BindsTo s fd ⟨us, ks.zip ws⟩ (ps.zip (g us ws))
  rel : ∀ {vs : List V} {us : List Value} {zs : List V} {ws : List Value}, Vals vs us → Vals zs ws → Vals (gV vs zs) (g us ws)
variable {g : List Value → List Value → List Value} {gV : List V → List V → List V}
end

/-! ### a def's body keeps its promise -/
/-- names: the parameters first -/
structure FnScope (N P : List Str) (sc : Scope) : Prop where
  kind : sc.kind = .function
  co : sc.isCoroutine = false
  gen : sc.isGenerator = false
  nd : N.Nodup
  pre : N.take P.length = P
  par : ∀ x ∈ P, sc.names.lookup x = some .local ∨ sc.names.lookup x = some .cell
  nofree : ∀ y ∈ sc.names, y.2 ≠ .free

theorem bindL_out {kindOf : Str → Option NameKind} {x : Str} : ∀ {binds : List (Str × Value)} {m : Str → Option Value}, (∀ v, (x, v) ∉ binds) → bindL kindOf binds m x = m x
  | [], _, _ => rfl
  | (n, v) :: r, m, h => by
    unfold bindL
    rw [bindL_out fun w hw => h w (List.mem_cons_of_mem _ hw)]
    split
    · have : x ≠ n := by rintro rfl; exact h v List.mem_cons_self
      simp [this]
    · rfl
theorem bindC_out {kindOf : Str → Option NameKind} {x : Str} : ∀ {binds : List (Str × Value)} {m : Str → Option Value}, (∀ v, (x, v) ∉ binds) → bindC kindOf binds m x = m x
  | [], _, _ => rfl
  | (n, v) :: r, m, h => by
    unfold bindC
    rw [bindC_out fun w hw => h w (List.mem_cons_of_mem _ hw)]
    split
    · rfl
    · have : x ≠ n := by rintro rfl; exact h v List.mem_cons_self
      simp [this]
theorem bindL_get {kindOf : Str → Option NameKind} {x : Str} {v : Value} : ∀ {P : List Str} {vs : List Value} {i : Nat} {m : Str → Option Value}, P.Nodup → P[i]? = some x → vs[i]? = some v → kindOf x = some .local →
    bindL kindOf (P.zip vs) m x = some v
  | [], _, _, _, _, h, _, _ => by simp at h
  | _ :: _, [], _, _, _, _, h, _ => by simp at h
  | p :: P, w :: vs, 0, m, nd, h1, h2, hk => by
    simp at h1 h2; subst h1; subst h2
    show bindL kindOf ((p, w) :: P.zip vs) m p = _
    unfold bindL
    rw [bindL_out fun v hv => (List.nodup_cons.mp nd).1 (List.of_mem_zip hv).1, if_pos hk]
    simp
  | p :: P, w :: vs, i + 1, m, nd, h1, h2, hk => by
    show bindL kindOf ((p, w) :: P.zip vs) m x = _
    unfold bindL
    exact bindL_get (i := i) (List.nodup_cons.mp nd).2 (by simpa using h1) (by simpa using h2) hk
theorem bindC_get {kindOf : Str → Option NameKind} {x : Str} {v : Value} : ∀ {P : List Str} {vs : List Value} {i : Nat} {m : Str → Option Value}, P.Nodup → P[i]? = some x → vs[i]? = some v → kindOf x ≠ some .local →
    bindC kindOf (P.zip vs) m x = some v
  | [], _, _, _, _, h, _, _ => by simp at h
  | _ :: _, [], _, _, _, _, h, _ => by simp at h
  | p :: P, w :: vs, 0, m, nd, h1, h2, hk => by
    simp at h1 h2; subst h1; subst h2
    show bindC kindOf ((p, w) :: P.zip vs) m p = _
    unfold bindC
    rw [bindC_out fun v hv => (List.nodup_cons.mp nd).1 (List.of_mem_zip hv).1, if_neg hk]
    simp
  | p :: P, w :: vs, i + 1, m, nd, h1, h2, hk => by
    show bindC kindOf ((p, w) :: P.zip vs) m x = _
    unfold bindC
    exact bindC_get (i := i) (List.nodup_cons.mp nd).2 (by simpa using h1) (by simpa using h2) hk

/-- the names' values at the entry -/
def start (N : List Str) (vs : List V) : St := vs.map some ++ List.replicate (N.length - vs.length) none

/-- the context of a def's body, at its entry; an exception leaves the frame, then lies as CX says -/
def cxOf (CX : CXT) (P : Program) (w : World) (K : PySem.W.Frag) (mg : Str → Option Value) (base : Heap) (N : List Str) (qual : Str) (scope : Scope) (f : Addr) (cd : Value) (A : Around) (outer : List Env) (s : Shared) (H : Hp) (E : XK) : Cx where
  prog := P
  w := w
  K := K
  mg := mg
  base := base
  A := A.deeper (envOfC qual scope s.heap.objs.size f cd)
  N := N
  s₀ := s
  H₀ := H
  env := envOfC qual scope s.heap.objs.size f cd
  outer := outer
  stack := envOfC qual scope s.heap.objs.size f cd :: outer
  ex := []
  calm := true
  fn := fun _ => true
  pn := []
  xe := fun e s' => wpAny (model P w) (A.deeper (envOfC qual scope s.heap.objs.size f cd)) (leaving (envOfC qual scope s.heap.objs.size f cd) e) (fun _ s'' => CX outer H s E e s'') (fun e' s'' => CX outer H s E e' s'') s'

theorem cell_has {sc : Scope} {n : Nat} {x : Str} (h : sc.names.lookup x = some .cell) : ∃ c, (cellsFrom n sc.names []).lookup x = some c := by
  have q := PySem.W.cellsFrom_some sc.names n [] (.inl h)
  exact Option.isSome_iff_exists.mp q

theorem inv_start {CX : CXT} {P : Program} {w : World} {K : PySem.W.Frag} {mg : Str → Option Value} {base : Heap} {N ps : List Str} {qual : Str} {scope : Scope} {f : Addr} {cd : Value} {A : Around} {outer : List Env} {s s1 : Shared} {H : Hp} {E : XK} {us : List Value} {vs : List V}
    (S : FnScope N ps scope) (hd : A.handled = none) (e0 : Env0 P w K mg base A outer s H) (hl : vs.length = ps.length) (r : Vals vs us)
    (x : InCallC s s.heap.objs.size (bindL (envOfC qual scope s.heap.objs.size f cd).kindOf (ps.zip us) fun _ => none) (cellsFrom (s.heap.objs.size + 1) scope.names []) (bindC (envOfC qual scope s.heap.objs.size f cd).kindOf (ps.zip us) fun _ => none) s1) :
    Inv (cxOf CX P w K mg base N qual scope f cd A outer s H E) [] (start N vs) H s1 := by
  have hpl : ps.length ≤ N.length := by have := congrArg List.length S.pre; rw [List.length_take] at this; omega
  obtain ⟨h1, tk, rfl, hk⟩ := x.done
  have noA : ∀ b : Addr, b ∉ (cxOf CX P w K mg base N qual scope f cd A outer s H E).ex := fun b z => absurd (show b ∈ ([] : List Addr) from z) (by simp)
  refine ⟨⟨e0.mod, S.kind, rfl, rfl, Nat.le_refl _, fun y z c h1 h2 => ?_, fun y hy => ?_, fun y c _ h => ?_, fun _ => hd, Around.frames_deeper e0.frames, .inr ⟨rfl, rfl⟩, fun b z => absurd z (noA b), e0.bs, e0.bsz, fun b _ _ => noA b, fun b z => absurd z (noA b), e0.funs, e0.frf⟩,
    rfl, e0.bare, Un.kept hk, ⟨_, x.toInCall.ns, fun i y v h1 h2 h3 => ?_⟩, fun y c h => ⟨_, x.cell y c h⟩, e0.hok.fresh (Nat.le_refl _), fun y c h => ?_, fun p hp => absurd (show p ∈ ([] : List (Addr × Obj)) from hp) (by simp), e0.hok.kept hk, ?_⟩
  · exact name_of_addr x.apart (PySem.mem_of_lookup h1) (PySem.mem_of_lookup h2)
  · have hy : scope.names.lookup y = some .cell ∨ scope.names.lookup y = some .free := hy
    rcases hy with hy | hy
    · exact cell_has hy
    · exact absurd rfl (S.nofree _ (PySem.mem_of_lookup hy))
  · exact Nat.le_of_lt (x.above y c (PySem.mem_of_lookup h))
  · have hi : i < vs.length := by
      unfold start at h2
      by_cases hi : i < vs.length
      · exact hi
      · rw [List.getElem?_append_right (by simpa using hi)] at h2
        rw [List.getElem?_replicate] at h2
        split at h2 <;> cases h2
    have ha : vs[i]? = some v := by
      unfold start at h2
      rw [List.getElem?_append_left (by simpa using hi), List.getElem?_map] at h2
      cases e : vs[i]? with
      | none => rw [e] at h2; cases h2
      | some a => rw [e] at h2; cases h2; rfl
    obtain ⟨u, hu, rv⟩ := r.get ha
    have hp : ps[i]? = some y := by
      rw [← S.pre, List.getElem?_take_of_lt (by omega)]; exact h1
    have ndP : ps.Nodup := by rw [← S.pre]; exact S.nd.sublist (List.take_sublist _ _)
    refine ⟨u, rv, ?_⟩
    rcases S.par y (List.mem_of_getElem? hp) with k | k
    · exact .inl ⟨k, bindL_get ndP hp hu k⟩
    · obtain ⟨c, e⟩ := cell_has (n := s.heap.objs.size + 1) k
      refine .inr ⟨.inl k, c, e, ?_⟩
      have q := x.cell y c e
      rw [bindC_get ndP hp hu (by show scope.names.lookup y ≠ _; rw [k]; decide)] at q
      exact q
  · exact e0.hok.fresh (Nat.le_of_lt (x.above y c (PySem.mem_of_lookup h)))
  · unfold start
    show _ = N.length
    rw [List.length_append, List.length_map, List.length_replicate]
    omega

/-- THE RULE: a def (or a method) of the text, by its body. The body's reading t is chosen for each entry; it is run at the parameters' values -/
theorem fn_of {CX : CXT} {P : Program} {w : World} {K : PySem.W.Frag} {mg : Str → Option Value} {base : Heap} {k : Nat} {f : Addr} {name qual : Str} {params : Arguments} {body : List Stmt} {scope : Scope} {dV kV doc pm cdv ct oc : Value} {an od : Option Addr}
    {osl : Array (Option Value)} {N ps : List Str} {sp : Sp} (lk : K.lookup f = some ⟨oc, od, .func (PySem.W.fnOf name qual params body scope dV kV doc pm an cdv ct), osl⟩) (hcd : PySem.W.codeIn K cdv qual = true) (S : FnScope N ps scope)
    (len : ∀ vs H Q E, sp vs H Q E → vs.length = ps.length)
    (hbody : ∀ (A : Around) (outer : List Env) (s : Shared) (H : Hp) (vs : List V) (Q : VK) (E : XK), Room k (A.deeper (envOfC qual scope s.heap.objs.size f cdv)) → sp vs H Q E →
      ∃ t, PSs (cxOf CX P w K mg base N qual scope f cdv A outer s H E) body t ∧ t { nx := fun _ H' => Q .non H', rt := Q } (start N vs) H) :
    FnOk P w K mg base CX (k + 1) f (PySem.W.fnOf name qual params body scope dV kV doc pm an cdv ct) ps sp := by
  refine ⟨len, fun A outer s H args us vs Q E hr e0 hb r hsp => ?_⟩
  have hl := len _ _ _ _ hsp
  have KX : K.In s.heap := e0.mod.kin.keeps fun b o e => (e0.bs b o e).1
  have lim : s.heap.NoLimit := e0.mod.nolimit.keeps fun b o e => (e0.bs b o e).1
  have hkind : ∀ y ∈ ps.zip us, scope.names.lookup y.1 = some .local ∨ (scope.names.lookup y.1 = some .cell ∧ ((cellsFrom (s.heap.objs.size + 1) scope.names []).lookup y.1).isSome = true) := fun ⟨n, v⟩ hy => by
    rcases S.par n (List.of_mem_zip hy).1 with q | q
    · exact .inl q
    · exact .inr ⟨q, PySem.W.cellsFrom_some _ _ _ (.inl q)⟩
  refine codeAny_call_function hr.depth (KX _ _ lk) rfl S.co S.gen rfl (PySem.W.codeRec_of KX hcd) (hb _ _ _ _ ?_)
  refine wpAny_newFunctionEnv_cells S.kind hkind fun env he s1 x => ?_
  subst he
  refine ⟨lim.keeps x.toInCall.keep, codeAny_func ?_⟩
  obtain ⟨t, ht, hq⟩ := hbody A outer s H vs Q E (hr.deeper _) hsp
  have I : Inv (cxOf CX P w K mg base N qual scope f cdv A outer s H E) [] (start N vs) H s1 := inv_start S hr.hd e0 hl r x
  refine wpAny_mono (ht [] s1 (start N vs) H _ I hq) (fun fl s' hs => ?_) fun e s' hs => hs
  have fin : ∀ {σ' : St} {H' : Hp} {v : V} {u : Value}, Inv (cxOf CX P w K mg base N qual scope f cdv A outer s H E) [] σ' H' s' → RelV v u → Q v H' → CE outer P w H s Q u s' :=
    fun {σ' H' v u} J rv q => ⟨v, H', J.os, J.bare, J.base, J.hok, rv, q⟩
  cases fl with
  | ret u =>
    obtain ⟨v, σ', H', J, rv, q⟩ := hs
    exact fin J rv q
  | next =>
    obtain ⟨σ', H', J, q⟩ := hs
    exact fin (v := V.non) (u := Value.none) J rfl q
  | brk =>
    obtain ⟨_, _, _, q⟩ := hs
    exact False.elim q
  | cont =>
    obtain ⟨_, _, _, q⟩ := hs
    exact False.elim q
end L2

namespace L2
open PySem PySem.Spec PyProof.Rows
section
variable {X : Cx} {x : Str} {p pos : Pos} {e : Expr} {es : List Expr} {t : TA} {id T : String} {r : List V → Hp → VK → Prop}

def tCB (r : List V → Hp → VK → Prop) (t : TA) : TE := fun σ H Q => t σ H fun vs H1 => r vs H1 Q
/-- f(e, ..), f a built-in function -/
theorem pe_callB (hc : CallR X (.builtin id) r) (hg : Gl X x) (hm : X.mg x = none) (hv : bootBuiltins x = some (.builtin id)) (ha : PA X (e :: es) t) (hn : x ≠ "__name__" := by decide) (hdb : (x == ("__debug__" : Str)) = false := by decide)
    (he : starEach (e :: es) X.env = (false, eval e X.env) :: starEach es X.env := by exact star_of rfl) (hpl : (backTo pos (starEach es X.env)).any (·.1) = false := by exact plain_of rfl) : PE X (.Call (.Name x p) (e :: es) [] pos) (tCB r t) := by
  intro pins s σ H Q I h
  refine wpAny_Call_Name_kw (ld_blt I hg hm hv ?_ hn hdb)
  exact PyProof.Rows.callWith_builtin1 (thn (ha pos pins s σ H _ I h) fun us s1 ⟨vs, H1, I1, r1, q1⟩ => hc pins s1 σ H1 vs us Q I1 r1 q1) he hpl
/-- T(e, ..), T a built-in type -/
theorem pe_callTy (hc : CallR X (.type T) r) (hg : Gl X x) (hm : X.mg x = none) (hv : bootBuiltins x = some (.type T)) (ha : PA X (e :: es) t) (hn : x ≠ "__name__" := by decide) (hdb : (x == ("__debug__" : Str)) = false := by decide)
    (he : starEach (e :: es) X.env = (false, eval e X.env) :: starEach es X.env := by exact star_of rfl) (hpl : (backTo pos (starEach es X.env)).any (·.1) = false := by exact plain_of rfl) : PE X (.Call (.Name x p) (e :: es) [] pos) (tCB r t) := by
  intro pins s σ H Q I h
  refine wpAny_Call_Name_kw (ld_blt I hg hm hv ?_ hn hdb)
  exact PyProof.Rows.callWith_type1 (thn (ha pos pins s σ H _ I h) fun us s1 ⟨vs, H1, I1, r1, q1⟩ => hc pins s1 σ H1 vs us Q I1 r1 q1) he hpl
end
end L2

namespace HT
open PySem PyProof.Rows

section
open PySem.SeqAt
open PySem.AutoSeq1 (wpAny_loadPart')
open PySem.MeetsSeq PySem.MeetsSeq2 PySem.MeetsSeq3

end

section
variable {prog : Program} {w : World} {A : Around} {E : Value → Shared → Prop} {s : Shared}

/-- t + u, t not empty -/
theorem cat_tup {t b : Addr} {vs ws : List Value} {Q : Value → Shared → Prop} (ht : IsTup s.heap t vs.toArray) (hb : IsTup s.heap b ws.toArray) (hv : vs ≠ [])
    (h1 : ws = [] → Q (.ref t) s) (h2 : ws ≠ [] → Q (.ref s.heap.objs.size) { s with heap := s.heap.push { cls := .type "tuple", data := .seq (vs ++ ws).toArray } })
    (hsz : vs.length + ws.length ≤ sizeLine) : wpAny (model prog w) A (binaryOp .Add (.ref t) (.ref b)) Q E s := by
  obtain ⟨⟨cls, dd, data, sl⟩, ho, hc, n, hd⟩ := id ht
  obtain ⟨⟨cls2, dd2, data2, sl2⟩, ho2, hc2, n2, hd2⟩ := id hb
  simp only at hc hd hc2 hd2
  subst hc hd hc2 hd2
  have e : vs.toArray ++ ws.toArray = (vs ++ ws).toArray := by simp
  by_cases hw : ws = []
  · exact concat_meets ⟨_, ho, rfl⟩ ⟨_, ho2, rfl⟩ noFill_tuple_add seq_tuple_add PySem.F.slot_tuple_add PySem.F.entry_tuple_add (PySem.F.args_tuple_add_2 _ _)
      (tuple_addW1 t b vs.toArray ws.toArray n n2 dd dd2 sl sl2 (by simpa using hv) (by simp [hw])) ⟨ho, ho2, h1 hw⟩
  · refine concat_meets ⟨_, ho, rfl⟩ ⟨_, ho2, rfl⟩ noFill_tuple_add seq_tuple_add PySem.F.slot_tuple_add PySem.F.entry_tuple_add (PySem.F.args_tuple_add_2 _ _)
      (tuple_addW2 t b vs.toArray ws.toArray n n2 dd dd2 sl sl2 (by simpa using hv) (by simpa using hw) (by rw [List.size_toArray, List.size_toArray]; exact hsz)) ⟨ho, ho2, ?_⟩
    rw [e]
    exact h2 hw

/-! ### t[a:b], not the whole -/
/-- a slice's bound as a place among n (d where it is left out) -/
def sIx (n d : Nat) : Option Int → Nat
  | none => d
  | some v => if v < 0 then (v + (n : Int)).toNat else min v.toNat n
theorem sIx_none (n d : Nat) : sIx n d none = d := rfl
theorem sIx_nat (n d k : Nat) : sIx n d (some (k : Int)) = min k n := by
  show (if (k : Int) < 0 then ((k : Int) + (n : Int)).toNat else min (k : Int).toNat n) = min k n
  rw [if_neg (by omega), Int.toNat_natCast]
theorem sIx_le (n d : Nat) (hd : d ≤ n) (o : Option Int) : sIx n d o ≤ n := by
  cases o with
  | none => exact hd
  | some v =>
    show (if v < 0 then (v + (n : Int)).toNat else min v.toNat n) ≤ n
    by_cases hv : v < 0
    · rw [if_pos hv]; omega
    · rw [if_neg hv]; exact Nat.min_le_right _ _
theorem clip_eq (v : Int) (n d : Nat) : (if v < 0 then max (v + (n : Int)) 0 else min v (n : Int)) = ((sIx n d (some v) : Nat) : Int) := by
  show (if v < 0 then max (v + (n : Int)) 0 else min v (n : Int)) = (((if v < 0 then (v + (n : Int)).toNat else min v.toNat n) : Nat) : Int)
  by_cases hv : v < 0
  · simp only [if_pos hv]; omega
  · simp only [if_neg hv]; omega
theorem adjust_gen (lo hi : Option Int) (n : Nat) : Builtin.Slice.sliceAdjust lo hi 1 (n : Int) = (((sIx n 0 lo : Nat) : Int), ((sIx n n hi : Nat) : Int)) := by
  have h1 : ¬ ((1 : Int) < 0) := by omega
  unfold Builtin.Slice.sliceAdjust
  simp only [h1, if_false]
  refine Prod.ext ?_ ?_
  · cases lo with
    | none => rfl
    | some v => exact clip_eq v n 0
  · cases hi with
    | none => rfl
    | some v => exact clip_eq v n n
theorem places_gen (i j : Nat) : Builtin.Slice.slicePlaces (i : Int) (j : Int) 1 = j - i := by
  unfold Builtin.Slice.slicePlaces
  have h1 : (1 : Int) > 0 := by omega
  simp only [h1, if_true, Int.ediv_one]
  split <;> omega
theorem slicePart_ {v : Value} {o : Option Int} {Q : Option Int → Shared → Prop} (p : IsPart v o) (h : Q o s) : wpAny (model prog w) A (Builtin.Slice.slicePartIndex v) Q E s := by
  cases p with
  | none => exact slicePart_none h
  | int i t => exact slicePart_int h
theorem sliceApplied_gen {sl : Addr} {vl vu : Value} {lo hi : Option Int} {n : Nat} {Q : Int × Int × Nat → Shared → Prop} (hs : s.heap.IsSliceOf sl vl vu .none) (pl : IsPart vl lo) (pu : IsPart vu hi)
    (h : Q (((sIx n 0 lo : Nat) : Int), 1, sIx n n hi - sIx n 0 lo) s) : wpAny (model prog w) A (Builtin.Slice.sliceApplied (.ref sl) (pure (n : Int))) Q E s := by
  obtain ⟨os, hos, hcs, hds⟩ := id hs
  unfold Builtin.Slice.sliceApplied Builtin.Slice.sliceFields
  refine wpAny_bind (wpAny_bind (wpAny_field hos hds (x := vl) rfl (wpAny_bind (wpAny_field hos hds (x := vu) rfl (wpAny_bind (wpAny_field hos hds (x := .none) rfl (wpAny_pure ?_)))))))
  refine wpAny_bind (slicePart_none ?_)
  show wpAny _ _ (if ((1 : Int) == 0) = true then _ else _) _ _ s
  rw [if_neg (by decide)]
  refine wpAny_bind (slicePart_ pl (wpAny_bind (slicePart_ pu (wpAny_bind (wpAny_pure ?_)))))
  show wpAny _ _ (match Builtin.Slice.sliceAdjust lo hi 1 (n : Int) with | (lo, hi) => pure (lo, (1 : Int), Builtin.Slice.slicePlaces lo hi 1)) _ _ s
  rw [adjust_gen lo hi n]
  show wpAny _ _ (pure (((sIx n 0 lo : Nat) : Int), (1 : Int), Builtin.Slice.slicePlaces ((sIx n 0 lo : Nat) : Int) ((sIx n n hi : Nat) : Int) 1)) _ _ s
  rw [places_gen]
  exact wpAny_pure h
theorem pick_gen (xs : Array Value) (i k : Nat) : ((List.range k).filterMap fun (m : Nat) => xs[((i : Int) + (m : Int) * 1).toNat]?).toArray = ((xs.toList.drop i).take k).toArray := by
  have e : (fun (m : Nat) => xs[((i : Int) + (m : Int) * 1).toNat]?) = fun m => xs[i + m]? := by
    funext m
    have : ((i : Int) + (m : Int) * 1).toNat = i + m := by omega
    rw [this]
  rw [e]
  have := pick_run xs i k
  rw [List.filterMap_map] at this
  have e2 : ((fun x => xs[x]?) ∘ fun x => i + x) = fun m => xs[i + m]? := rfl
  rw [e2] at this
  rw [this]

theorem getItem_tuple_cut {t sl : Addr} {items : Array Value} {vl vu : Value} {lo hi : Option Int} {Q : Value → Shared → Prop} (ht : IsTup s.heap t items) (hs : s.heap.IsSliceOf sl vl vu .none) (pl : IsPart vl lo) (pu : IsPart vu hi)
    (hw : ¬ (sIx items.size 0 lo = 0 ∧ sIx items.size items.size hi = items.size))
    (h : Q (.ref s.heap.objs.size) { s with heap := s.heap.push { cls := .type "tuple", data := .seq ((items.toList.drop (sIx items.size 0 lo)).take (sIx items.size items.size hi - sIx items.size 0 lo)).toArray } })
    (hsz : items.size ≤ sizeLine) : wpAny (model prog w) A (getItem (.ref t) (.ref sl)) Q E s := by
  have htake : sizeOk (.seq ((items.toList.drop (sIx items.size 0 lo)).take (sIx items.size items.size hi - sIx items.size 0 lo)).toArray) := by
    show ((items.toList.drop (sIx items.size 0 lo)).take (sIx items.size items.size hi - sIx items.size 0 lo)).toArray.size ≤ sizeLine
    rw [List.size_toArray, List.length_take, List.length_drop, Array.length_toList]
    omega
  have hj : sIx items.size items.size hi ≤ items.size := sIx_le _ _ (Nat.le_refl _) hi
  obtain ⟨os, hos, hcs, hds⟩ := id hs
  have hTs : s.TypeIs (.ref sl) "slice" := ⟨os, hos, hcs⟩
  unfold getItem
  try with_reducible refine wpAny_holding ?_
  first | refine wpAny_bind (wpAny_pure ?_) | skip
  refine wpAny_bind (wpAny_sequenceKey ht.typeIs (by decide) ?_)
  refine wpAny_bind (wpAny_callSpecial?_slot (name := Str.ofString "__getitem__") ht.typeIs PyProof.Rows.slot_tuple_getitem
    (wpAny_call_entry PyProof.Rows.slot_tuple_getitem ht.typeIs entry_tuple_getitem ?_ (args_tuple_getitem _ _)))
  show wpAny _ _ (Builtin.Tuple.tupleItemsOf (.ref t) >>= _) _ _ s
  refine wpAny_bind (tupleItemsOf_ ht ?_)
  refine wpAny_bind (wpAny_typeOf hTs ?_)
  rw [if_pos (by decide)]
  refine wpAny_bind (sliceApplied_gen hs pl pu ?_)
  have hno : ¬ ((((sIx items.size 0 lo : Nat) : Int) == 0 && (1 : Int) == 1 && (sIx items.size items.size hi - sIx items.size 0 lo) == items.size) = true) := by
    intro q
    rw [Bool.and_eq_true, Bool.and_eq_true] at q
    have q1 : ((sIx items.size 0 lo : Nat) : Int) = 0 := eq_of_beq q.1.1
    have q2 : sIx items.size items.size hi - sIx items.size 0 lo = items.size := eq_of_beq q.2
    exact hw ⟨by omega, by omega⟩
  show wpAny _ _ (if (((sIx items.size 0 lo : Nat) : Int) == 0 && (1 : Int) == 1 && (sIx items.size items.size hi - sIx items.size 0 lo) == items.size) = true then _ else _) _ _ s
  rw [if_neg hno, pick_gen]
  first
    | exact wpAny_bind (m := Builtin.Tuple.tupleExact _) (wpAny_newObj_type (wpAny_pure ⟨_, rfl, wpAny_pure h⟩) htake)
    | exact wpAny_bind (m := Builtin.Tuple.tupleExact _) (wpAny_newObj_type (wpAny_bind (wpAny_pure (wpAny_pure ⟨_, rfl, wpAny_pure h⟩))) htake)
    | exact wpAny_bind (wpAny_bind (m := Builtin.Tuple.tupleExact _) (wpAny_newObj_type (wpAny_pure (wpAny_pure ⟨_, rfl, wpAny_pure h⟩)) htake))
    | exact wpAny_bind (wpAny_bind (m := Builtin.Tuple.tupleExact _) (wpAny_newObj_type (wpAny_pure ⟨_, rfl, wpAny_pure h⟩) htake))
end
end HT

namespace L2
open PySem PySem.Spec PyProof.Rows

/-! ### the parts of a slice -/
abbrev TO := St → Hp → (Option Int → Hp → Prop) → Prop
/-- a slice's part (left out, or an int) -/
def PO (X : Cx) (e : Option Expr) (t : TO) : Prop :=
  ∀ (pins : List (Addr × Obj)) (s : Shared) (σ : St) (H : Hp) (Q : Option Int → Hp → Prop), Inv X pins σ H s → t σ H Q →
    wpAny (model X.prog X.w) X.A (evalPart e X.env) (fun u s' => ∃ o H', Inv X pins σ H' s' ∧ IsPart u o ∧ Q o H') X.xe s
def tNoPart : TO := fun _ H Q => Q none H
def tPart (t : TE) : TO := fun σ H Q => t σ H fun x H1 => ∃ i, x = .int i ∧ Q (some i) H1

section
variable {X : Cx} {e : Expr} {te : TE} {lo hi : Option Expr} {tl th : TO} {pos p2 : Pos}

theorem po_none : PO X none tNoPart := by
  intro pins s σ H Q I h
  rw [evalPart_none]
  exact wpAny_pure ⟨none, H, I, .none, h⟩
theorem po_some (h : PE X e te) : PO X (some e) (tPart te) := by
  intro pins s σ H Q I hw
  rw [evalPart_some]
  refine thn (h pins s σ H _ I hw) fun u s1 ⟨x, H1, I1, r1, q1⟩ => ?_
  obtain ⟨i, rfl, q⟩ := q1
  obtain ⟨t, rfl⟩ := r1
  exact ⟨some i, H1, I1, .int i t, q⟩

/-- what a slice of a value is, by values: the slice object stands at sl -/
def SlR (X : Cx) (r : V → Option Int → Option Int → Hp → VK → Prop) : Prop :=
  ∀ (pins : List (Addr × Obj)) (s : Shared) (σ : St) (H : Hp) (x : V) (v vl vu : Value) (lo hi : Option Int) (sl : Addr) (Q : VK), Inv X pins σ H s → RelV x v → s.heap.IsSliceOf sl vl vu .none → IsPart vl lo → IsPart vu hi → r x lo hi H Q →
    ∃ T id, typeLookup (.type T) "__getitem__" = pure (some (.builtin id)) ∧ s.TypeIs v T ∧ wpAny (model X.prog X.w) X.A (getItem v (.ref sl)) (EP X pins σ Q) X.xe s
theorem SlR.or {r r' : V → Option Int → Option Int → Hp → VK → Prop} (h : SlR X r) (h' : SlR X r') : SlR X (fun x lo hi H Q => r x lo hi H Q ∨ r' x lo hi H Q) := by
  intro pins s σ H x v vl vu lo hi sl Q I rx hs pl pu q
  rcases q with q | q
  · exact h pins s σ H x v vl vu lo hi sl Q I rx hs pl pu q
  · exact h' pins s σ H x v vl vu lo hi sl Q I rx hs pl pu q
def tSl (r : V → Option Int → Option Int → Hp → VK → Prop) (te : TE) (tl th : TO) : TE := fun σ H Q => te σ H fun x H1 => tl σ H1 fun l H2 => th σ H2 fun u H3 => r x l u H3 Q
/-- a[lo:hi], any a -/
theorem pe_slice {r : V → Option Int → Option Int → Hp → VK → Prop} (hr : SlR X r) (he : PE X e te) (hl : PO X lo tl) (hu : PO X hi th) : PE X (.Subscript e (.Slice lo hi none p2) pos) (tSl r te tl th) := by
  intro pins s σ H Q I h
  refine Subscript_ (thn (he pins s σ H _ I h) fun v s1 ⟨x, H1, I1, r1, q1⟩ => ?_)
  refine wpAny_Slice (thn (hl pins s1 σ H1 _ I1 q1) fun vl s2 ⟨l, H2, I2, pl, q2⟩ => thn (hu pins s2 σ H2 _ I2 q2) fun vu s3 ⟨u, H3, I3, pu, q3⟩ => ?_)
  rw [evalPart_none]
  refine wpAny_pure ?_
  have I4 : Inv X pins σ H3 { s3 with heap := s3.heap.push { cls := .type "slice", data := .fields #[vl, vu, .none] } } := I3.kept (t' := s3.toks) fun b ob q => Heap.get?_push_of_some _ q
  obtain ⟨T, id, hT, ht, hg⟩ := hr pins { s3 with heap := s3.heap.push { cls := .type "slice", data := .fields #[vl, vu, .none] } } σ H3 x v vl vu l u s3.heap.objs.size Q I4 r1 (Heap.IsSliceOf.new ..) pl pu q3
  show wpAny (model X.prog X.w) X.A (subscriptTail e (.Slice lo hi none p2) v (.ref s3.heap.objs.size)) (EP X pins σ Q) X.xe { s3 with heap := s3.heap.push { cls := .type "slice", data := .fields #[vl, vu, .none] } }
  exact tail_any (ops := [.ref s3.heap.objs.size, v]) ht hT hg (by with_unfolding_all rfl)

/-- the items of xs[lo:hi] -/
def cutV (xs : List V) (lo hi : Option Int) : List V := (xs.drop (HT.sIx xs.length 0 lo)).take (HT.sIx xs.length xs.length hi - HT.sIx xs.length 0 lo)
theorem cutV_length (xs : List V) (lo hi : Option Int) : (cutV xs lo hi).length ≤ xs.length := by
  unfold cutV
  rw [List.length_take, List.length_drop]
  omega
/-- t[lo:hi], not the whole of it (the whole would be t itself) -/
def rSlT (K : PySem.W.Frag) : V → Option Int → Option Int → Hp → VK → Prop := fun x lo hi H Q => ∃ a xs, x = .ref a ∧ SqT K H a xs ∧
  ¬ (HT.sIx xs.length 0 lo = 0 ∧ HT.sIx xs.length xs.length hi = xs.length) ∧ ∀ p, H p = none → Q (.ref p) (upd H p (.tup (cutV xs lo hi)))
theorem sl_tup : SlR X (rSlT X.K) := by
  intro pins s σ H x v vl vu lo hi sl Q I rx hs pl pu h
  obtain ⟨a, xs, rfl, hx, hw, q⟩ := h
  cases rx
  obtain ⟨its, r, ht, hz⟩ := I.tuple hx
  have hlen : its.toArray.size = xs.length := by rw [List.size_toArray]; exact r.length.symm
  refine ⟨"tuple", _, PyProof.Rows.slot_tuple_getitem.lookup, ht.typeIs, ?_⟩
  refine HT.getItem_tuple_cut ht hs pl pu (by rw [hlen]; exact hw) ?_ (by rw [hlen]; exact hz)
  rw [hlen]
  refine ⟨.ref s.heap.objs.size, _, I.laid (t' := s.toks) (o := .tup (cutV xs lo hi)) (fun b ob q => Heap.get?_push_of_some _ q) (Nat.le_refl _) ?_, rfl, q _ (I.hok.fresh (Nat.le_refl _))⟩
  exact ⟨Nat.le_trans (cutV_length xs lo hi) hz, _, (r.drop (HT.sIx xs.length 0 lo)).take (HT.sIx xs.length xs.length hi - HT.sIx xs.length 0 lo), IsTup.new _ _, _, Heap.get?_push_size _ rfl, rfl⟩

/-! ### t < u, t + u -/
/-- t + u, t not empty: u empty gives t itself -/
def rCatT (K : PySem.W.Frag) : R2 := fun x y H Q => ∃ a b xs ys, x = .ref a ∧ y = .ref b ∧ SqT K H a xs ∧ SqT K H b ys ∧ xs ≠ [] ∧ xs.length + ys.length ≤ sizeLine ∧
  (ys = [] → Q (.ref a) H) ∧ (ys ≠ [] → ∀ p, H p = none → Q (.ref p) (upd H p (.tup (xs ++ ys))))
theorem Vals.nil_iff {xs : List V} {us : List Value} (r : Vals xs us) : us = [] ↔ xs = [] := by
  cases r with
  | nil => simp
  | cons _ _ => simp
theorem op_catT : OpR X (binaryOp .Add) (rCatT X.K) := by
  intro pins s σ H x y v u Q I rx ry h
  obtain ⟨a, b, xs, ys, rfl, rfl, ha, hb, hx, hz, q1, q2⟩ := h
  cases rx
  cases ry
  obtain ⟨its, r1, p1, _⟩ := I.tuple ha
  obtain ⟨its2, r2, p2, _⟩ := I.tuple hb
  refine HT.cat_tup p1 p2 (fun z => hx (r1.nil_iff.mp z)) (fun z => ⟨.ref a, H, I, rfl, q1 (r2.nil_iff.mp z)⟩) (fun z => ?_) (by rw [← r1.length, ← r2.length]; exact hz)
  refine ⟨.ref s.heap.objs.size, _, I.laid (t' := s.toks) (o := .tup (xs ++ ys)) (fun b ob q => Heap.get?_push_of_some _ q) (Nat.le_refl _) ?_, rfl, q2 (fun w => z (r2.nil_iff.mpr w)) _ (I.hok.fresh (Nat.le_refl _))⟩
  exact ⟨by rw [List.length_append]; exact hz, _, r1.append r2, IsTup.new _ _, _, Heap.get?_push_size _ rfl, rfl⟩
end
end L2

namespace L2
open PySem PySem.Spec PyProof.Rows

/-! ### places -/
/-- the place that an index of any sign means -/
def ixN (n : Nat) (i : Int) : Option Nat := if 0 ≤ i then (if i < n then some i.toNat else none) else if -(n : Int) ≤ i then some (i + n).toNat else none
def atI {α : Type} (xs : List α) (i : Int) : Option α := (ixN xs.length i).bind fun j => xs[j]?
theorem ixN_seq {n : Nat} {i : Int} {j : Nat} (h : ixN n i = some j) : seqIndex? i n = some j ∧ j < n ∧ -(n : Int) ≤ i ∧ i < n := by
  unfold ixN at h
  by_cases h0 : 0 ≤ i
  · rw [if_pos h0] at h
    by_cases h1 : i < n
    · rw [if_pos h1] at h
      have e : i.toNat = j := Option.some.inj h
      exact ⟨by rw [seqIndex_of h0 h1, e], by omega, by omega, h1⟩
    · rw [if_neg h1] at h; cases h
  · rw [if_neg h0] at h
    by_cases h1 : -(n : Int) ≤ i
    · rw [if_pos h1] at h
      have e : (i + n).toNat = j := Option.some.inj h
      exact ⟨by rw [seqIndex_neg (by omega) h1, e], by omega, h1, by omega⟩
    · rw [if_neg h1] at h; cases h
theorem atI_get {α : Type} {xs : List α} {i : Int} {v : α} (h : atI xs i = some v) : ∃ j, seqIndex? i xs.length = some j ∧ xs[j]? = some v ∧ j < xs.length ∧ -(xs.length : Int) ≤ i ∧ i < xs.length := by
  unfold atI at h
  cases e : ixN xs.length i with
  | none => rw [e] at h; cases h
  | some j =>
    rw [e] at h
    obtain ⟨h1, h2, h3, h4⟩ := ixN_seq e
    exact ⟨j, h1, h, h2, h3, h4⟩
theorem atI_nat {α : Type} {xs : List α} {j : Nat} {v : α} (h : xs[j]? = some v) : atI xs (j : Int) = some v := by
  have hj : j < xs.length := (List.getElem?_eq_some_iff.mp h).1
  have e : ixN xs.length (j : Int) = some j := by
    unfold ixN
    rw [if_pos (by omega), if_pos (by omega)]; simp
  unfold atI; rw [e]; exact h
/-! ### what may be subscripted -/
/-- what stands as an index of a plain subscript -/
def PlainIx (b : Expr) : Prop := ∀ o i, subscripted b false o i = operate [o, i] (getItem o i)
/-- a subscript by values -/
def IxR (X : Cx) (r : R2) : Prop :=
  ∀ (value slice : Expr) (pins : List (Addr × Obj)) (s : Shared) (σ : St) (H : Hp) (x y : V) (v u : Value) (Q : VK), Inv X pins σ H s → RelV x v → RelV y u → r x y H Q →
    subscripted slice false v u = operate [v, u] (getItem v u) → wpAny (model X.prog X.w) X.A (subscriptTail value slice v u) (EP X pins σ Q) X.xe s
/-- a call of a builtin's method by values: the receiver, the arguments -/
def MtR (X : Cx) (id : String) (r : V → List V → Hp → VK → Prop) : Prop :=
  ∀ (pins : List (Addr × Obj)) (s : Shared) (σ : St) (H : Hp) (x : V) (xs : List V) (v : Value) (us : List Value) (Q : VK), Inv X pins σ H s → RelV x v → Vals xs us → r x xs H Q →
    wpAny (model X.prog X.w) X.A (call (.builtin id) (v :: us)) (EP X pins σ Q) X.xe s
section
variable {X : Cx} {a b : Expr} {ta tb : TE} {pos : Pos}
theorem IxR.or {r r' : R2} (h : IxR X r) (h' : IxR X r') : IxR X (fun x y H Q => r x y H Q ∨ r' x y H Q) := by
  intro value slice pins s σ H x y v u Q I rx ry q hs
  rcases q with q | q
  · exact h value slice pins s σ H x y v u Q I rx ry q hs
  · exact h' value slice pins s σ H x y v u Q I rx ry q hs
theorem MtR.or {id : String} {r r' : V → List V → Hp → VK → Prop} (h : MtR X id r) (h' : MtR X id r') : MtR X id (fun x xs H Q => r x xs H Q ∨ r' x xs H Q) := by
  intro pins s σ H x xs v us Q I rx rs q
  rcases q with q | q
  · exact h pins s σ H x xs v us Q I rx rs q
  · exact h' pins s σ H x xs v us Q I rx rs q
/-- a[b] -/
theorem pe_ix {r : R2} (hr : IxR X r) (ha : PE X a ta) (hb : PE X b tb) (hs : PlainIx b) : PE X (.Subscript a b pos) (tOp r ta tb) := by
  intro pins s σ H Q I h
  exact Subscript_ (binT ha hb I h fun v u s2 x y H2 I2 rx ry q => hr a b pins s2 σ H2 x y v u Q I2 rx ry q (hs _ _))

def rIxL (K : PySem.W.Frag) : R2 := fun x y H Q => ∃ p xs i v, x = .ref p ∧ y = .int i ∧ SqL K H p xs ∧ atI xs i = some v ∧ Q v H
def rIxT (K : PySem.W.Frag) : R2 := fun x y H Q => ∃ p xs i v, x = .ref p ∧ y = .int i ∧ SqT K H p xs ∧ atI xs i = some v ∧ Q v H
theorem ix_list : IxR X (rIxL X.K) := by
  intro value slice pins s σ H x y v u Q I rx ry h hs
  obtain ⟨p, xs, i, z, rfl, rfl, hq, he, q⟩ := h
  cases rx
  obtain ⟨t, rfl⟩ := ry
  obtain ⟨its, r, pl, hz⟩ := I.list hq
  obtain ⟨j, h1, h2, h3, h4, h5⟩ := atI_get he
  obtain ⟨w, ew, rw'⟩ := r.get h2
  have hl := r.length
  have hn := line63
  have fin : EP X pins σ Q w s := ⟨z, H, I, rw', q⟩
  by_cases h0 : 0 ≤ i
  · have hj : i.toNat = j := by
      rw [seqIndex_of h0 h5] at h1
      exact Option.some.inj h1
    exact item_listR pl.isList h0 (by omega) (by rw [hj]; simpa using ew) fin hs
  · have hj : (i + (its.toArray.size : Int)).toNat = j := by
      rw [seqIndex_neg (by omega) h4] at h1
      rw [List.size_toArray, ← hl]
      exact Option.some.inj h1
    exact subscriptTail_builtinR (x := w) pl.isList.typeIs slot_list_getitem.lookup
      (wpAny_getItem_list_neg (Q := fun r s' => r = w ∧ EP X pins σ Q r s') pl.isList (by omega) (by rw [List.size_toArray] <;> omega) (by omega) (by rw [hj]; simpa using ew) ⟨rfl, fin⟩) hs
theorem ix_tup : IxR X (rIxT X.K) := by
  intro value slice pins s σ H x y v u Q I rx ry h hs
  obtain ⟨p, xs, i, z, rfl, rfl, hq, he, q⟩ := h
  cases rx
  obtain ⟨t, rfl⟩ := ry
  obtain ⟨its, r, pl, hz⟩ := I.tuple hq
  obtain ⟨j, h1, h2, h3, h4, h5⟩ := atI_get he
  obtain ⟨w, ew, rw'⟩ := r.get h2
  have hl := r.length
  have hn := line63
  have fin : EP X pins σ Q w s := ⟨z, H, I, rw', q⟩
  exact subscriptTail_builtinR (x := w) pl.typeIs slot_tuple_getitem.lookup
    (getItem_tuple (j := j) (Q := fun r s' => r = w ∧ EP X pins σ Q r s') pl (by omega) (by omega) (by rw [List.size_toArray, ← hl]; exact h1) (by simpa using ew) ⟨rfl, fin⟩) hs
/-! ### xs[i] = v, any sign -/
/-- the list's object behind a store -/
theorem mapSeq_set (its : List Value) (n j : Nat) (u : Value) : Obj.mapSeq (·.setIfInBounds j u) { cls := .type "list", data := .seq its.toArray n } = { cls := .type "list", data := .seq (its.set j u).toArray n } := by
  simp [Obj.mapSeq]
theorem Inv.lst {pins : List (Addr × Obj)} {σ : St} {H : Hp} {s : Shared} {p : Addr} {xs : List V} (I : Inv X pins σ H s) (h : H p = some (.lst xs)) :
    ∃ (its : List Value) (n : Nat), Vals xs its ∧ s.heap.get? p = some { cls := .type "list", data := .seq its.toArray n } ∧ xs.length ≤ sizeLine := by
  obtain ⟨z, its, n, r, e⟩ := I.hok p _ h
  exact ⟨its, n, r, e, z⟩
/-- the list at p is written by an update of its object -/
theorem Inv.lstUpd {pins : List (Addr × Obj)} {σ : St} {H : Hp} {s : Shared} {p : Addr} {xs ys : List V} {its its' : List Value} {n n' : Nat} {f : Obj → Obj} (I : Inv X pins σ H s) (h : H p = some (.lst xs))
    (ho : s.heap.get? p = some { cls := .type "list", data := .seq its.toArray n }) (hf : f { cls := .type "list", data := .seq its.toArray n } = { cls := .type "list", data := .seq its'.toArray n' }) (r : Vals ys its') (hz : ys.length ≤ sizeLine) (t : Nat) :
    Inv X pins σ (upd H p (.lst ys)) { s with heap := s.heap.update p f, toks := t } := by
  have e : (s.heap.update p f).get? p = some { cls := .type "list", data := .seq its'.toArray n' } := by
    rw [Heap.get?_update_self f ho (by rw [hf] <;> rfl), hf]
  refine I.write (x := p) (e := p) (by rw [h]; trivial) (.inl rfl) (fun b u hb q => (Heap.get?_update_other _ _ (Ne.symm hb)).trans q) ⟨_, e⟩ ?_
  exact ⟨hz, its', n', r, e⟩
def rSetL : V → V → V → Hp → (Hp → Prop) → Prop := fun o i v H Q => ∃ p xs k j, o = .ref p ∧ i = .int k ∧ H p = some (.lst xs) ∧ ixN xs.length k = some j ∧ Q (upd H p (.lst (xs.set j v)))
theorem set_list : PSet X rSetL := by
  intro pins s σ H o i v ov iv u Q I ro ri rv h
  obtain ⟨p, xs, k, j, rfl, rfl, hp, hj, q⟩ := h
  cases ro
  obtain ⟨t, rfl⟩ := ri
  obtain ⟨its, n, r, ho, hz⟩ := I.lst hp
  obtain ⟨h1, h2, h3, h4⟩ := ixN_seq hj
  have hl := r.length
  have hn := line63
  have I' : Inv X pins σ (upd H p (.lst (xs.set j v))) { s with heap := s.heap.update p (Obj.mapSeq (·.setIfInBounds j u)) } :=
    I.lstUpd hp ho (mapSeq_set its n j u) (r.set rv j) (by rw [List.length_set]; exact hz) s.toks
  by_cases h0 : 0 ≤ k
  · have hk : k.toNat = j := by
      rw [seqIndex_of h0 h4] at h1
      exact Option.some.inj h1
    exact PySem.W.ki_setAt ho h0 (by omega) (by rw [List.size_toArray, ← hl]; exact h4) (by rw [hk]; exact ⟨_, I', q⟩)
  · have hk : (k + (its.toArray.size : Int)).toNat = j := by
      rw [seqIndex_neg (by omega) h3] at h1
      rw [List.size_toArray, ← hl]
      exact Option.some.inj h1
    exact PySem.W.ki_setBack ho (by omega) (by rw [List.size_toArray, ← hl]; exact h3) (by omega) (by rw [hk]; exact ⟨_, I', q⟩)

/-! ### slices -/
theorem slice_bounds (lo hi : Option Int) (n : Nat) : (sliceBounds lo hi none n).1 = ((HT.sIx n 0 lo : Nat) : Int) ∧ (sliceBounds lo hi none n).2.1 = ((HT.sIx n n hi : Nat) : Int) ∧ (sliceBounds lo hi none n).2.2 = 1 := by
  refine ⟨?_, ?_, rfl⟩
  · cases lo with
    | none => simp [sliceBounds, HT.sIx]
    | some i =>
      simp only [sliceBounds, HT.sIx, Option.getD_none, show (1 : Int) > 0 by decide, if_true]
      by_cases h : i < 0
      · simp only [h, if_true] <;> omega
      · simp only [h, if_false] <;> omega
  · cases hi with
    | none => simp [sliceBounds, HT.sIx]
    | some i =>
      simp only [sliceBounds, HT.sIx, Option.getD_none, show (1 : Int) > 0 by decide, if_true]
      by_cases h : i < 0
      · simp only [h, if_true] <;> omega
      · simp only [h, if_false] <;> omega
theorem slicePick_cut (its : List Value) (lo hi : Option Int) : slicePick its.toArray lo hi none = ((its.drop (HT.sIx its.length 0 lo)).take (HT.sIx its.length its.length hi - HT.sIx its.length 0 lo)).toArray := by
  obtain ⟨h1, h2, h3⟩ := slice_bounds lo hi its.toArray.size
  unfold slicePick
  rw [h1, h2, h3]
  simp only [sliceRange_one, pick_run, List.size_toArray] <;> rfl
/-- xs[lo:hi] of a list: a new list -/
def rSlL (K : PySem.W.Frag) : V → Option Int → Option Int → Hp → VK → Prop := fun x lo hi H Q => ∃ a xs, x = .ref a ∧ SqL K H a xs ∧ ∀ p, H p = none → Q (.ref p) (upd H p (.lst (cutV xs lo hi)))
theorem sl_list : SlR X (rSlL X.K) := by
  intro pins s σ H x v vl vu lo hi sl Q I rx hs pl pu h
  obtain ⟨a, xs, rfl, hx, q⟩ := h
  cases rx
  obtain ⟨its, r, ht, hz⟩ := I.list hx
  have hlen := r.length
  refine ⟨"list", _, slot_list_getitem.lookup, ht.isList.typeIs, ?_⟩
  refine wpAny_getItem_list_slice ht.isList hs pl pu .none (by simp) ?_ (by rw [List.size_toArray] <;> omega)
  rw [slicePick_cut, ← hlen]
  refine ⟨.ref s.heap.objs.size, _, I.laid (t' := s.toks) (o := .lst (cutV xs lo hi)) (fun b ob q => Heap.get?_push_of_some _ q) (Nat.le_refl _) ?_, rfl, q _ (I.hok.fresh (Nat.le_refl _))⟩
  exact ⟨Nat.le_trans (cutV_length xs lo hi) hz, _, 0, (r.drop (HT.sIx xs.length 0 lo)).take (HT.sIx xs.length xs.length hi - HT.sIx xs.length 0 lo), Heap.get?_push_size _ rfl⟩

/-! ### in, not in: flat items -/
def flatV : V → Bool
  | .non => true
  | .bl _ => true
  | .int _ => true
  | .str _ => true
  | _ => false
/-- == of flat values -/
def eqV : V → V → Bool
  | .non, .non => true
  | .bl a, .bl b => a == b
  | .bl a, .int b => (if a then 1 else 0) == b
  | .int a, .bl b => a == (if b then 1 else 0)
  | .int a, .int b => a == b
  | .str a, .str b => a == b
  | _, _ => false
theorem eqAt_V {A : Around} {s : Shared} {y x : V} {u v : Value} (ry : RelV y u) (rx : RelV x v) (fy : flatV y = true) (fx : flatV x = true) : SeqAt.EqAt A s u v (eqV y x) := by
  cases y with
  | non =>
    cases ry
    cases x with
    | non => cases rx; exact SeqAt.EqAt.same _
    | bl b => cases rx; exact SeqAt.EqAt.none_bool b
    | int b => obtain ⟨t, rfl⟩ := rx; exact SeqAt.EqAt.none_int b t
    | str b => obtain ⟨t, rfl⟩ := rx; exact SeqAt.EqAt.none_str b t
    | _ => exact absurd (show false = true from fx) Bool.false_ne_true
  | bl a =>
    cases ry
    cases x with
    | non => cases rx; exact SeqAt.EqAt.bool_none a
    | bl b => cases rx; exact SeqAt.EqAt.bool_bool a b
    | int b => obtain ⟨t, rfl⟩ := rx; exact SeqAt.EqAt.bool_int a b t
    | str b => obtain ⟨t, rfl⟩ := rx; exact SeqAt.EqAt.bool_str a b t
    | _ => exact absurd (show false = true from fx) Bool.false_ne_true
  | int a =>
    obtain ⟨t', rfl⟩ := ry
    cases x with
    | non => cases rx; exact SeqAt.EqAt.int_none a t'
    | bl b => cases rx; exact SeqAt.EqAt.int_bool a t' b
    | int b => obtain ⟨t, rfl⟩ := rx; exact SeqAt.EqAt.int_int a t' b t
    | str b => obtain ⟨t, rfl⟩ := rx; exact SeqAt.EqAt.int_str a t' b t
    | _ => exact absurd (show false = true from fx) Bool.false_ne_true
  | str a =>
    obtain ⟨t', rfl⟩ := ry
    cases x with
    | non => cases rx; exact SeqAt.EqAt.str_none a t'
    | bl b => cases rx; exact SeqAt.EqAt.str_bool a t' b
    | int b => obtain ⟨t, rfl⟩ := rx; exact SeqAt.EqAt.str_int a t' b t
    | str b => obtain ⟨t, rfl⟩ := rx; exact SeqAt.EqAt.str_str a t' b t
    | _ => exact absurd (show false = true from fx) Bool.false_ne_true
  | _ => exact absurd (show false = true from fy) Bool.false_ne_true
/-- the items' answers, read off the values (a value's own answer does not lean on its token) -/
def eqU (x : V) (u : Value) : Bool := match u with
  | .none => eqV .non x
  | .bool b => eqV (.bl b) x
  | .int i _ => eqV (.int i) x
  | .str z _ => eqV (.str z) x
  | _ => false
theorem eqU_of {x y : V} {u : Value} (r : RelV y u) (f : flatV y = true) : eqU x u = eqV y x := by
  cases y with
  | non => cases r; rfl
  | bl b => cases r; rfl
  | int i => obtain ⟨t, rfl⟩ := r; rfl
  | str z => obtain ⟨t, rfl⟩ := r; rfl
  | _ => exact absurd (show false = true from f) Bool.false_ne_true
theorem any_eqU {x : V} : ∀ {xs : List V} {us : List Value}, Vals xs us → xs.all flatV = true → us.any (eqU x) = xs.any fun y => eqV y x
  | _, _, .nil, _ => rfl
  | y :: xs, u :: us, .cons r t, f => by
    rw [List.all_cons, Bool.and_eq_true] at f
    rw [List.any_cons, List.any_cons, eqU_of r f.1, any_eqU t f.2]
theorem mem_eqAt {A : Around} {s : Shared} {x : V} {v : Value} (rx : RelV x v) (fx : flatV x = true) : ∀ {xs : List V} {us : List Value}, Vals xs us → xs.all flatV = true → ∀ u ∈ us, SeqAt.EqAt A s u v (eqU x u)
  | _, _, .nil, _ => fun u hu => by cases hu
  | y :: xs, u :: us, .cons r t, f => fun u' hu => by
    rw [List.all_cons, Bool.and_eq_true] at f
    rcases List.mem_cons.mp hu with rfl | hu
    · rw [eqU_of r f.1]; exact eqAt_V r rx f.1 fx
    · exact mem_eqAt rx fx t f.2 u' hu
def inV (x : V) (xs : List V) : Bool := xs.any fun y => eqV y x
/-- x in a list or tuple of flat items -/
def rIn (K : PySem.W.Frag) (neg : Bool) : R2 := fun x y H Q => ∃ p xs, y = .ref p ∧ (SqL K H p xs ∨ SqT K H p xs) ∧ flatV x = true ∧ xs.all flatV = true ∧ Q (.bl (if neg then !inV x xs else inV x xs)) H
theorem op_in_seq : OpR X (compareOp .In) (rIn X.K false) := by
  intro pins s σ H x y v u Q I rx ry h
  obtain ⟨p, xs, rfl, hq, fx, fs, q⟩ := h
  cases ry
  rcases hq with hq | hq
  · obtain ⟨its, r, pl, hz⟩ := I.list hq
    refine SeqAt.in_listAt (eqU x) pl.isList (fun w hw => mem_eqAt rx fx r fs w (by simpa using hw)) ⟨.bl _, H, I, rfl, ?_⟩
    rw [show its.toArray.any (eqU x) = its.any (eqU x) by simp, any_eqU r fs]
    exact q
  · obtain ⟨its, r, pl, hz⟩ := I.tuple hq
    refine SeqAt.in_tupleAt (eqU x) pl (fun w hw => mem_eqAt rx fx r fs w (by simpa using hw)) ⟨.bl _, H, I, rfl, ?_⟩
    rw [show its.toArray.any (eqU x) = its.any (eqU x) by simp, any_eqU r fs]
    exact q
/-! ### len, list(x), tuple(x) of any list or tuple that is read -/
theorem call_len_seq : CallR X (.builtin "len") (fun xs H Q => ∃ p ys, xs = [.ref p] ∧ (SqL X.K H p ys ∨ SqT X.K H p ys) ∧ Q (.int ys.length) H) := by
  intro pins s σ H xs us Q I r h
  obtain ⟨p, ys, rfl, hq, q⟩ := h
  obtain ⟨u, rfl, rx⟩ := vals1 r
  cases rx
  have hn := line63
  rcases hq with hq | hq
  · obtain ⟨its, r', pl, hz⟩ := I.list hq
    have hlen := r'.length
    exact Calls.call_len_list pl.isList (by simp only [List.size_toArray] <;> omega) ⟨.int ys.length, H, I.tok _, ⟨s.toks + 1, by rw [List.size_toArray, hlen]⟩, q⟩
  · obtain ⟨its, r', pl, hz⟩ := I.tuple hq
    have hlen := r'.length
    exact len_tuple pl (by simp only [List.size_toArray] <;> omega) ⟨.int ys.length, H, I.tok _, ⟨s.toks + 1, by rw [List.size_toArray, hlen]⟩, q⟩
theorem CallR.or {f : Value} {r r' : List V → Hp → VK → Prop} (h : CallR X f r) (h' : CallR X f r') : CallR X f (fun xs H Q => r xs H Q ∨ r' xs H Q) := by
  intro pins s σ H xs us Q I rs q
  rcases q with q | q
  · exact h pins s σ H xs us Q I rs q
  · exact h' pins s σ H xs us Q I rs q
theorem call_list_of : CallR X (.type "list") (fun xs H Q => ∃ p ys, xs = [.ref p] ∧ (SqL X.K H p ys ∨ SqT X.K H p ys) ∧ ∀ l, H l = none → Q (.ref l) (upd H l (.lst ys))) := by
  intro pins s σ H xs us Q I r h
  obtain ⟨p, ys, rfl, hq, q⟩ := h
  obtain ⟨u, rfl, rx⟩ := vals1 r
  cases rx
  have fin : ∀ (its : List Value), Vals ys its → ys.length ≤ sizeLine → ∀ (h' : Heap) (c' : Nat), (∀ b o', s.heap.get? b = some o' → h'.get? b = some o') →
      h'.get? s.heap.objs.size = some { cls := .type "list", dict := none, data := .seq its.toArray c', slots := #[] } → EP X pins σ Q (.ref s.heap.objs.size) { s with heap := h' } := fun its r' hz h' c' kp e =>
    ⟨.ref s.heap.objs.size, _, I.laid (t' := s.toks) kp (Nat.le_refl _) (show ObjOk X.prog X.w _ h' _ (.lst ys) from ⟨hz, its, c', r', e⟩), rfl, q _ (I.hok.fresh (Nat.le_refl _))⟩
  rcases hq with hq | hq
  · obtain ⟨its, r', pl, hz⟩ := I.list hq
    have hlen := r'.length
    obtain ⟨o, ho, hc, n, hd⟩ := pl.isList
    exact call_list_seq p (.inl rfl) ho hc hd (fun h' c' kp e => fin its r' hz h' c' kp e) (by simp only [List.size_toArray] <;> omega)
  · obtain ⟨its, r', pl, hz⟩ := I.tuple hq
    have hlen := r'.length
    obtain ⟨o, ho, hc, n, hd⟩ := pl
    exact call_list_seq p (.inr rfl) ho hc hd (fun h' c' kp e => fin its r' hz h' c' kp e) (by simp only [List.size_toArray] <;> omega)
theorem call_tuple_of : CallR X (.type "tuple") (fun xs H Q => ∃ p ys, xs = [.ref p] ∧ ((SqL X.K H p ys ∧ ∀ l, H l = none → Q (.ref l) (upd H l (.tup ys))) ∨ (SqT X.K H p ys ∧ Q (.ref p) H))) := by
  intro pins s σ H xs us Q I r h
  obtain ⟨p, ys, rfl, h⟩ := h
  obtain ⟨u, rfl, rx⟩ := vals1 r
  cases rx
  rcases h with ⟨hq, q⟩ | ⟨hq, q⟩
  · obtain ⟨its, r', pl, hz⟩ := I.list hq
    have hlen := r'.length
    refine call_tuple_list pl.isList (fun h' kp => ?_) (by simp only [List.size_toArray] <;> omega)
    have I1 : Inv X pins σ H { s with heap := h' } := I.kept (t' := s.toks) kp
    have I2 : Inv X pins σ (upd H h'.objs.size (.tup ys)) { s with heap := h'.push { cls := .type "tuple", data := .seq its.toArray } } :=
      I1.laid (t' := s.toks) (fun b o e => Heap.get?_push_of_some _ e) (Nat.le_refl _) (show ObjOk X.prog X.w _ _ _ (.tup ys) from ⟨hz, its, r', IsTup.new _ _, _, Heap.get?_push_size _ rfl, rfl⟩)
    exact ⟨.ref h'.objs.size, _, I2, rfl, q _ (I1.hok.fresh (Nat.le_refl _))⟩
  · obtain ⟨its, r', pl, hz⟩ := I.tuple hq
    exact call_tuple_same pl ⟨.ref p, H, I, rfl, q⟩

/-! ### the call of a builtin's method: o.m(..) -/
/-- the value is of that builtin type -/
def tyV (K : PySem.W.Frag) (T : String) (x : V) (H : Hp) : Prop := match x with
  | .str _ => T = "str"
  | .int _ => T = "int"
  | .ref p => (T = "list" ∧ ∃ xs, SqL K H p xs) ∨ (T = "tuple" ∧ ∃ o, K.lookup p = some o ∧ o.cls = .type "tuple" ∧ o.dict = none) ∨
      (T = "dict" ∧ ((∃ kvs, H p = some (.dK kvs)) ∨ ∃ kvs, H p = some (.dT kvs))) ∨ (T = "set" ∧ ∃ S n, H p = some (.set S n))
  | _ => False
theorem tyV_is {pins : List (Addr × Obj)} {σ : St} {H : Hp} {s : Shared} {T : String} {x : V} {v : Value} (I : Inv X pins σ H s) (r : RelV x v) (ty : tyV X.K T x H) :
    s.TypeIs v T ∧ ∀ a, v = .ref a → ∃ ob, s.heap.get? a = some ob ∧ ob.dict = none := by
  cases x with
  | str z =>
    obtain ⟨t, rfl⟩ := r
    cases (show T = "str" from ty)
    exact ⟨typeIs_str s z t, fun _ e => nomatch e⟩
  | int i =>
    obtain ⟨t, rfl⟩ := r
    cases (show T = "int" from ty)
    exact ⟨typeIs_int s i t, fun _ e => nomatch e⟩
  | ref p =>
    cases r
    rcases ty with ⟨rfl, xs, hq⟩ | ⟨rfl, o, hk, hc, hd⟩ | ⟨rfl, hk⟩ | ⟨rfl, S, n, hk⟩
    · obtain ⟨its, _, pl, _⟩ := I.list hq
      refine ⟨pl.isList.typeIs, fun a e => ?_⟩
      cases e
      obtain ⟨o, n, e, c, hd, _⟩ := pl
      exact ⟨o, e, hd⟩
    · refine ⟨⟨o, I.kIn p o hk, hc⟩, fun a e => ?_⟩
      cases e
      exact ⟨o, I.kIn _ o hk, hd⟩
    · have z : ∃ o, s.heap.get? p = some o ∧ o.ExactDict := by
        rcases hk with ⟨kvs, hk⟩ | ⟨kvs, hk⟩
        · obtain ⟨_, _, _, _, o, _, _, e, ex, _⟩ := I.hok p _ hk
          exact ⟨o, e, ex⟩
        · obtain ⟨_, _, _, _, o, _, _, e, ex, _⟩ := I.hok p _ hk
          exact ⟨o, e, ex⟩
      obtain ⟨o, e, ex⟩ := z
      refine ⟨⟨o, e, ex.1⟩, fun a e2 => ?_⟩
      cases e2
      exact ⟨o, e, ex.2.1⟩
    · obtain ⟨o, _, _, _, e, ex, _⟩ := I.hok p _ hk
      refine ⟨⟨o, e, ex.1⟩, fun a e2 => ?_⟩
      cases e2
      exact ⟨o, e, ex.2.1⟩
  | _ => exact False.elim ty
def tBM0 (K : PySem.W.Frag) (T : String) (r : V → List V → Hp → VK → Prop) (to : TE) : TE := fun σ H Q => to σ H fun x H1 => tyV K T x H1 ∧ r x [] H1 Q
def tBM (K : PySem.W.Frag) (T : String) (r : V → List V → Hp → VK → Prop) (to : TE) (t : TA) : TE := fun σ H Q => to σ H fun x H1 => tyV K T x H1 ∧ t σ H1 fun xs H2 => r x xs H2 Q
variable {o e : Expr} {es : List Expr} {to : TE} {t : TA} {name : Str} {apos cpos : Pos} {T id : String} {r : V → List V → Hp → VK → Prop}
theorem pe_bm0 (pa : PlainAttrs T) (slot : Slot T name id) (hty : typeOf (.builtin id) = pure (.type "method_descriptor")) (hm : MtR X id r) (ho : PE X o to)
    (hbase : attributeBase o name X.env (eval o X.env) = eval o X.env := by rfl) (hline : (apos.endLine == cpos.line) = true := by rfl) : PE X (.Call (.Attribute o name apos) [] [] cpos) (tBM0 X.K T r to) := by
  intro pins s σ H Q I h
  refine wpAny_Call_method0_late hbase hline (thn (ho pins s σ H _ I h) fun v s1 ⟨x, H1, I1, r1, ty, q1⟩ => ?_)
  obtain ⟨h1, h2⟩ := tyV_is I1 r1 ty
  exact ⟨T, id, pa, slot, hty, h1, h2, Calls.callWith_builtin rfl (PySem.evalArgs_none (hm pins s1 σ H1 x [] v [] Q I1 r1 .nil q1))⟩
theorem pe_bm (pa : PlainAttrs T) (slot : Slot T name id) (hty : typeOf (.builtin id) = pure (.type "method_descriptor")) (hm : MtR X id r) (ho : PE X o to) (ha : PA X (e :: es) t)
    (hbase : attributeBase o name X.env (eval o X.env) = eval o X.env := by rfl)
    (hfew : ((backTo cpos (starEach (e :: es) X.env)).all (fun x => !x.1) && (backToKw cpos (keywordEach [] X.env)).all (fun x => x.1.isSome)
      && decide ((e :: es).length + ([] : List Keyword).length + (if ([] : List Keyword).isEmpty then 0 else 1) < 30)) = true := by exact few_of rfl rfl)
    (hline : (apos.endLine == cpos.line) = true := by rfl) (hs : starEach (e :: es) X.env = (false, eval e X.env) :: starEach es X.env := by exact star_of rfl) (hplain : (backTo cpos (starEach es X.env)).any (·.1) = false := by exact plain_of rfl) :
    PE X (.Call (.Attribute o name apos) (e :: es) [] cpos) (tBM X.K T r to t) := by
  intro pins s σ H Q I h
  refine wpAny_Call_method_late hbase hfew hline rfl (thn (ho pins s σ H _ I h) fun v s1 ⟨x, H1, I1, r1, ty, q1⟩ => ?_)
  obtain ⟨h1, h2⟩ := tyV_is I1 r1 ty
  refine ⟨T, id, pa, slot, hty, h1, h2, ?_⟩
  have hA := ha cpos pins s1 σ H1 _ I1 q1
  rw [hs] at hA ⊢
  refine Calls.callWith_builtin (by show (false || (backTo cpos (starEach es X.env)).any (·.1)) = false; rw [hplain] <;> rfl) (Calls.evalArgs_plain ?_)
  exact thn hA fun us s2 ⟨vs, H2, I2, r2, q2⟩ => hm pins s2 σ H2 x vs v us Q I2 r1 r2 q2
/- xs.append(e), list.index on a module's tuple .. are MtR facts of 06m -/
end
end L2

namespace L2
open PySem PySem.Spec PyProof.Rows

def MtM (X : Cx) (id : String) (r : V → List V → Hp → VK → Prop) : Prop :=
  ∀ (pins : List (Addr × Obj)) (s : Shared) (σ : St) (H : Hp) (x : V) (xs : List V) (v : Value) (us : List Value) (Q : VK), Inv X pins σ H s → RelV x v → Vals xs us → r x xs H Q →
    wpAny (model X.prog X.w) X.A (call (.builtin id) (v :: us)) (EP X pins σ Q) X.xe s

/-! ### lists of values -/
theorem Vals.one : ∀ {x : V} {us : List Value}, Vals [x] us → ∃ u, us = [u] ∧ RelV x u
  | _, _, .cons r .nil => ⟨_, rfl, r⟩
theorem Vals.two : ∀ {x y : V} {us : List Value}, Vals [x, y] us → ∃ u v, us = [u, v] ∧ RelV x u ∧ RelV y v
  | _, _, _, .cons r (.cons q .nil) => ⟨_, _, rfl, r, q⟩
theorem Vals.zero : ∀ {us : List Value}, Vals [] us → us = []
  | _, .nil => rfl
theorem Vals.dropLast {xs : List V} {us : List Value} (h : Vals xs us) : Vals xs.dropLast us.dropLast := by
  induction h with
  | nil => exact .nil
  | cons r t ih =>
    cases t with
    | nil => exact .nil
    | cons q t' => exact .cons r ih
theorem Vals.eraseIdx : ∀ {xs : List V} {us : List Value} (i : Nat), Vals xs us → Vals (xs.eraseIdx i) (us.eraseIdx i)
  | _, _, _, .nil => .nil
  | _, _, 0, .cons _ t => t
  | _, _, i + 1, .cons r t => .cons r (Vals.eraseIdx i t)
theorem Vals.reverse {xs : List V} {us : List Value} (h : Vals xs us) : Vals xs.reverse us.reverse := by
  induction h with
  | nil => exact .nil
  | cons r t ih => rw [List.reverse_cons, List.reverse_cons]; exact Vals.append ih (.cons r .nil)
theorem erase_last {α : Type} (l : List α) : l.eraseIdx (l.length - 1) = l.dropLast := by
  induction l with
  | nil => rfl
  | cons a r ih =>
    cases r with
    | nil => rfl
    | cons b r =>
      have e : (a :: b :: r).length - 1 = ((b :: r).length - 1) + 1 := by
        have h1 : (a :: b :: r).length = r.length + 2 := rfl
        have h2 : (b :: r).length = r.length + 1 := rfl
        omega
      rw [e, List.eraseIdx_cons_succ, ih]
      all_goals rfl
section
variable {X : Cx} {pins : List (Addr × Obj)} {σ : St} {H : Hp} {s : Shared} {l b : Addr} {xs ys zs : List V}

/-! ### the two steps: a tracked list is rewritten, a new list is laid -/
theorem Inv.lset {its its' : List Value} {n : Nat} {f : Array Value → Array Value} {t' : Nat} (I : Inv X pins σ H s) (hH : H l = some (.lst xs))
    (e : s.heap.get? l = some { cls := .type "list", data := .seq its.toArray n }) (hf : f its.toArray = its'.toArray) (hv : Vals ys its') (hz : ys.length ≤ sizeLine) :
    Inv X pins σ (upd H l (.lst ys)) { s with heap := s.heap.update l (Obj.mapSeq f), toks := t' } := by
  have q := PySem.IsL.update e f
  rw [hf] at q
  refine I.write (x := l) (e := l) (by rw [hH]; exact trivial) (.inl rfl) (fun b' u hb hu => (Heap.get?_update_other s.heap (Obj.mapSeq f) (Ne.symm hb)).trans hu) ⟨_, q⟩ ?_
  exact ⟨hz, its', _, hv, q⟩
theorem Inv.lnew {its : List Value} {t' : Nat} (I : Inv X pins σ H s) (hv : Vals ys its) (hz : ys.length ≤ sizeLine) :
    Inv X pins σ (upd H s.heap.objs.size (.lst ys)) { s with heap := s.heap.push { cls := .type "list", data := .seq its.toArray }, toks := t' } :=
  I.laid (fun _ _ q => Heap.get?_push_of_some _ q) (Nat.le_refl _) ⟨hz, its, 0, hv, Heap.get?_push_size _ rfl⟩
theorem Inv.fresh (I : Inv X pins σ H s) : H s.heap.objs.size = none := I.hok.fresh (Nat.le_refl _)
theorem Inv.lstM (I : Inv X pins σ H s) (hH : H l = some (.lst xs)) : xs.length ≤ sizeLine ∧ ∃ (its : List Value) (n : Nat), Vals xs its ∧ xs.length = its.length ∧ s.heap.get? l = some { cls := .type "list", data := .seq its.toArray n } := by
  obtain ⟨z, its, n, r, e⟩ := I.hok l _ hH
  exact ⟨z, its, n, r, r.length, e⟩

theorem notLongL {n : Nat} (h : n ≤ sizeLine) : Builtin.List.listTooLong n = false := by
  unfold Builtin.List.listTooLong
  exact decide_eq_false (by omega)
end

section
variable {X : Cx}

/-! ### methods -/
def rAppend : V → List V → Hp → VK → Prop := fun x vs H Q => ∃ l xs y, x = .ref l ∧ vs = [y] ∧ H l = some (.lst xs) ∧ xs.length < sizeLine ∧ Q .non (upd H l (.lst (xs ++ [y])))
theorem mt_append : MtM X "list.append" rAppend := by
  intro pins s σ H x vs v us Q I rx rv h
  obtain ⟨l, xs, y, rfl, rfl, hH, hz, q⟩ := h
  cases rx
  obtain ⟨u, rfl, ru⟩ := rv.one
  obtain ⟨z, its, n, r, hl, e⟩ := I.lstM hH
  refine call_meets F.slot_list_append ⟨_, e, rfl⟩ F.entry_list_append (F.args_list_append_2 _ _) (PySem.list_append l its.toArray n u (by rw [List.size_toArray]; omega)) ⟨e, ?_⟩
  refine ⟨.non, _, I.lset (its' := its ++ [u]) hH e (by simp) (r.append (.cons ru .nil)) ?_, rfl, q⟩
  rw [List.length_append, List.length_singleton]
  omega

def rExtend : V → List V → Hp → VK → Prop := fun x vs H Q => ∃ l b xs zs, x = .ref l ∧ vs = [.ref b] ∧ H l = some (.lst xs) ∧ H b = some (.lst zs) ∧ xs.length + zs.length ≤ sizeLine ∧ Q .non (upd H l (.lst (xs ++ zs)))
theorem mt_extend : MtM X "list.extend" rExtend := by
  intro pins s σ H x vs v us Q I rx rv h
  obtain ⟨l, b, xs, zs, rfl, rfl, hH, hB, hz, q⟩ := h
  cases rx
  obtain ⟨u, rfl, ru⟩ := rv.one
  cases ru
  obtain ⟨z, its, n, r, hl, e⟩ := I.lstM hH
  obtain ⟨z2, its2, n2, r2, hl2, e2⟩ := I.lstM hB
  have hsz : its.toArray.size + its2.toArray.size ≤ sizeLine := by rw [List.size_toArray, List.size_toArray]; omega
  have hlong : ¬ (!its.toArray.isEmpty && Builtin.List.listTooLong (its.toArray.size + its2.toArray.size)) = true := by
    rw [notLongL hsz, Bool.and_false]
    exact Bool.false_ne_true
  refine call_meets F.slot_list_extend ⟨_, e, rfl⟩ F.entry_list_extend (F.args_list_extend_2 _ _)
    (AutoSeq1.list_extend_list_list_0 l its.toArray n b its2.toArray n2 hlong (by rw [List.size_toArray]; omega) (by omega)) ⟨e, e2, ?_⟩
  refine ⟨.non, _, I.lset (its' := its ++ its2) hH e (by simp) (r.append r2) ?_, rfl, q⟩
  rw [List.length_append]
  omega

def rPop : V → List V → Hp → VK → Prop := fun x vs H Q => ∃ l xs y, x = .ref l ∧ vs = [] ∧ H l = some (.lst xs) ∧ xs[xs.length - 1]? = some y ∧ Q y (upd H l (.lst xs.dropLast))
theorem mt_pop : MtM X "list.pop" rPop := by
  intro pins s σ H x vs v us Q I rx rv h
  obtain ⟨l, xs, y, rfl, rfl, hH, hy, q⟩ := h
  cases rx
  have hus := rv.zero
  subst hus
  obtain ⟨z, its, n, r, hl, e⟩ := I.lstM hH
  obtain ⟨u, hu, ru⟩ := r.get hy
  have hy' : its.toArray[its.toArray.size - 1]? = some u := by
    show its.toArray[its.length - 1]? = some u
    rw [← Array.getElem?_toList, ← hl]
    exact hu
  refine call_meets F.slot_list_pop ⟨_, e, rfl⟩ F.entry_list_pop (F.args_list_pop_1 _) (MeetsSeq.list_pop_last l its.toArray n u hy' (by rw [List.size_toArray]; omega)) ⟨e, ?_⟩
  refine ⟨y, _, I.lset (its' := its.dropLast) hH e ?_ r.dropLast ?_, ru, q⟩
  · show its.toArray.eraseIdxIfInBounds (its.toArray.size - 1) = its.dropLast.toArray
    rw [List.size_toArray, List.eraseIdxIfInBounds_toArray, erase_last]
  · rw [List.length_dropLast]
    omega

def rClear : V → List V → Hp → VK → Prop := fun x vs H Q => ∃ l xs, x = .ref l ∧ vs = [] ∧ H l = some (.lst xs) ∧ Q .non (upd H l (.lst []))
theorem mt_clear : MtM X "list.clear" rClear := by
  intro pins s σ H x vs v us Q I rx rv h
  obtain ⟨l, xs, rfl, rfl, hH, q⟩ := h
  cases rx
  have hus := rv.zero
  subst hus
  obtain ⟨z, its, n, r, hl, e⟩ := I.lstM hH
  refine call_meets F.slot_list_clear ⟨_, e, rfl⟩ F.entry_list_clear (F.args_list_clear_1 _) (AutoSeq1.list_clear_list_0 l its.toArray n (by rw [List.size_toArray]; omega)) ⟨e, ?_⟩
  exact ⟨.non, _, I.lset (its' := []) (ys := []) hH e rfl .nil (Nat.zero_le _), rfl, q⟩

/-! ### list + list, list += list, list * int -/
def rCat : R2 := fun x y H Q => ∃ l b xs zs, x = .ref l ∧ y = .ref b ∧ H l = some (.lst xs) ∧ H b = some (.lst zs) ∧ xs.length + zs.length ≤ sizeLine ∧ ∀ p, H p = none → Q (.ref p) (upd H p (.lst (xs ++ zs)))
theorem op_cat : OpR X (binaryOp .Add) rCat := by
  intro pins s σ H x y v u Q I rx ry h
  obtain ⟨l, b, xs, zs, rfl, rfl, hH, hB, hz, q⟩ := h
  cases rx
  cases ry
  obtain ⟨z, its, n, r, hl, e⟩ := I.lstM hH
  obtain ⟨z2, its2, n2, r2, hl2, e2⟩ := I.lstM hB
  refine PySem.P.add_list e e2 ?_ (by rw [List.size_toArray, List.size_toArray]; omega)
  have ea : its.toArray ++ its2.toArray = (its ++ its2).toArray := by simp
  rw [ea]
  exact ⟨.ref _, _, I.lnew (t' := s.toks) (r.append r2) (by rw [List.length_append]; omega), rfl, q _ I.fresh⟩
/-! ### del xs[i] -/
end

/-! ### xs[a:b] = ys -/
section
variable {prog : Program} {w : World} {A : Around} {E : Value → Shared → Prop} {s : Shared}
end

section
variable {X : Cx}
end
end L2

namespace Att
open PySem PySem.W PySem.Calls PyProof.Rows

/-! ### the script -/
theorem ints_of_wellAll {P : Params} {h : Heap} : ∀ (ns : List Int) (vs : List Value), WellAll P h vs (ns.map WData.int) → IntsAre vs ns := by
  intro ns
  induction ns with
  | nil =>
    intro vs w
    rw [List.map_nil] at w
    cases w
    exact .nil
  | cons n ns ih =>
    intro vs w
    rw [List.map_cons] at w
    cases w with
    | cons a b =>
      cases a
      exact .cons _ _ (ih _ b)

theorem script_of {l : OpenLaw} {n : Nat} (hn : l.most = some n) {P : Params} {h : Heap} {args : List WData} {vals : List Value}
    (hpre : l.row.toRowW.claim.pre args = true) (hwl : WellAll P h vals args) :
    ∃ a vs ns, vals = [Value.ref a] ∧ args = [WData.list (ns.map WData.int)] ∧ h.get? a = some { cls := .type "list", data := .seq vs.toArray } ∧ IntsAre vs ns ∧ ns.length ≤ n := by
  have hsh : WShape.hasAll [] args [.list .int] = true := (pre_splitW hpre).1
  have hc : l.pre.holds [] { args := args } = true := (pre_splitW hpre).2
  obtain ⟨d, r, rfl, h1, h2⟩ := hasAllW_cons hsh
  obtain rfl := hasAllW_nil h2
  obtain ⟨xs, rfl, h3⟩ := hasW_list h1
  obtain ⟨ns, rfl⟩ := items_int h3
  have hlen : ns.length ≤ n := by
    unfold OpenLaw.pre at hc
    have h4 : (WTm.not (.lt (.lit (.int (n : Int))) (.len (.arg 0)))).holds [] { args := [.list (ns.map .int)] } = true := by
      have h4 := (holds_andW hc).1
      rw [hn] at h4
      exact h4
    have h5 := condW_of h4 (w_not (w_lt w_lit (w_len_list (w_arg rfl))))
    rw [List.length_map] at h5
    refine Nat.le_of_not_lt fun q => ?_
    have q' : (n : Int) < ((ns.length : Nat) : Int) := by omega
    first
      | (rw [decide_eq_true q'] at h5; exact absurd h5 (by decide))
      | (simp at h5; omega)
  cases hwl with
  | cons w1 w2 =>
    cases w2
    cases w1 with
    | list ho hall => exact ⟨_, _, ns, rfl, rfl, ho, ints_of_wellAll ns _ hall, hlen⟩

theorem post_true (l : OpenLaw) (args : List WData) : l.row.toRowW.claim.post args (.bool true) args = true :=
  postW_of (r := l.row.toRowW) (X := (true == true))
    (show WShape.has [] (.bool true) .bool = true by first | rfl | decide | simp [WShape.has, WShape.arms, WShape.armsAll])
    (show (WTm.eq .res (.lit (.bool true))).value [] { args := args, res := some (.bool true), after := args } = some (.bool (true == true)) from w_eq_bool (w_res rfl) w_lit) rfl

/-! ### the attachment: holds_open's last premise (the goal 'hc' behind k_head) from a wpAny of the law's body -/
/-- the same from a codeAny of the CALL (for a layer whose function contracts speak of calls) -/
theorem attach_call {l : OpenLaw} {n : Nat} {q : Program} {loose : List Str} {XP : (Str → Option Value) → Heap → Prop} {YP : World → Heap → Prop} {d : DefRec}
    (hn : l.most = some n) (hdf : d.params.defaults = [])
    (call : ∀ (w : World) (s₀ s₁ : Shared) (mg mb : Str → Option Value) (fa : Addr) (o : Obj) (pm cd doc : Value) (a : Addr) (vs : List Value) (ns : List Int),
      Ground q loose [] XP w s₀ mg mb s₁.heap → YP w s₁.heap →
      s₁.heap.get? fa = some o → o.data = .func (docDef d.name d.params d.body d.scope pm cd doc) → s₁.heap.CodeRec cd d.name → mg d.name = some (.ref fa) →
      s₁.heap.get? a = some { cls := .type "list", data := .seq vs.toArray } → IntsAre vs ns → ns.length ≤ n → s₁.gens = #[] →
      codeAny (model l.prog w) callerA (.call (.ref fa) ⟨[.ref a], []⟩) (fun r s' => r = .ok (.ret (.bool true)) ∧ OldK s₁.heap s'.heap ∧ s'.os = s₁.os ∧ AllBare s'.gens) s₁) :
    WalkO q loose XP YP l.row.toRowW d [] (fun f vs => PySem.call f vs) := by
  intro w s₀ s₁ mg mb G Y fa o pm cd doc dV kV ho hd hcd hD hmg hg args vals as hpre hlay hrd hwl hlo
  obtain rfl : dV = .none := Dflts.none hD hdf
  obtain rfl : kV = .none := Dflts.noKw hD
  obtain ⟨a, vs, ns, rfl, rfl, hobj, hints, hlen⟩ := script_of hn hpre hwl
  refine enter_call (codeAny_mono (call w s₀ s₁ mg mb fa o pm cd doc a vs ns G Y ho (fd_plain hd) hcd hmg hobj hints hlen hg) fun r s' hq => ?_)
  obtain ⟨rfl, h2, h3, h4⟩ := hq
  exact ⟨.inl ⟨.bool true, .bool true, [], rfl, fun _ => rfl, .bool true, post_true l _, fun _ => ⟨List.Pairwise.nil, fun _ hm => (nomatch hm)⟩⟩, h2, h3, h4⟩

/-! ### rules over ANY heap (no ledger) from facts about the written part K: the library's own take a ledger (News) for what they write -/
section
variable {prog : Program} {w : World} {A : Around} {E : Value → Shared → Prop} {s : Shared} {K : Frag}

/-! the whole heap as the ledger: makes every rule that writes through a ledger a rule over any heap -/
def ledger (h : Heap) (L d : Addr) : List (Addr × Obj) := (List.range h.objs.size).filterMap fun a => if a = L ∨ a = d then none else (h.get? a).map fun o => (a, o)
end
end Att

namespace L2
open PySem PySem.Spec PyProof.Rows

theorem vals_ints : ∀ {vs : List Value} {ns : List Int}, IntsAre vs ns → Vals (ns.map V.int) vs
  | _, _, .nil => .nil
  | _, _, .cons n t h => .cons ⟨t, rfl⟩ (vals_ints h)

/-- nothing is tracked but the script, known to the object (or it is an object of the module) -/
def Only (H : Hp) : Prop := ∀ b, H b = none ∨ ∃ o xs, H b = some (.frz o (.lst xs))

/-- THE HEAD: the law's promise, at the heap behind the top. F, the promise of the law's def, may use that base is part of the heap (so K.In base, base.Ns mainGlobals mg stand in Mod) -/
theorem law_call {P : Program} {w : World} {K : PySem.W.Frag} {mg mb : Str → Option Value} {CX : CXT} {k : Nat} {fa a : Addr} {fd : FuncData} {x : Str} {sp : Sp} {s₁ : Shared} {vs : List Value} {ns : List Int}
    (KX : K.In s₁.heap) (hns : s₁.heap.Ns mainGlobals mg) (hb : s₁.heap.Ns builtinsNs mb) (hbb : ∀ x : Str, x ≠ "__name__" → mb x = bootBuiltins x) (hlim : s₁.heap.NoLimit) (hg : s₁.gens = #[])
    (ha : s₁.heap.get? a = some { cls := .type "list", data := .seq vs.toArray }) (hi : IntsAre vs ns) (hl : ns.length ≤ sizeLine) (hr : Room k callerA)
    (F : ∀ base : Heap, K.In base → base.Ns mainGlobals mg → FnOk P w K mg base CX k fa fd [x] sp) (hbind : ∀ (s : Shared) (u : Value), BindsTo s fd ⟨[u], []⟩ [(x, u)])
    (hsp : ∀ H : Hp, Only H → SqL K H a (ns.map V.int) → sp [.ref a] H (fun v _ => v = .bl true) fun _ _ _ => False)
    (hCX : ∀ H e s', CX [] H s₁ (fun _ _ _ => False) e s' → False) :
    codeAny (model P w) callerA (.call (.ref fa) ⟨[.ref a], []⟩) (fun r s' => r = .ok (.ret (.bool true)) ∧ OldK s₁.heap s'.heap ∧ s'.os = s₁.os ∧ AllBare s'.gens) s₁ := by
  have rv := vals_ints hi
  have lenV := hi.length
  -- from an abstract heap in which nothing but the script may be tracked
  have core : ∀ H : Hp, Only H → SqL K H a (ns.map V.int) → HOk P w H s₁.heap → (∀ b, H b ≠ none → b = a) → (H a ≠ none → K.lookup a = none) →
      codeAny (model P w) callerA (.call (.ref fa) ⟨[.ref a], []⟩) (fun r s' => r = .ok (.ret (.bool true)) ∧ OldK s₁.heap s'.heap ∧ s'.os = s₁.os ∧ AllBare s'.gens) s₁ := by
    intro H hO hS hok hA hK
    have base_of : ∀ {b : Addr} {o : Obj}, s₁.heap.get? b = some o → H b = none → (hidT s₁.heap H).get? b = some o := fun e n => hidT_get e n
    have noA : ∀ {b : Addr} {o : Obj} {es : Array DictEntry} {ep : Nat}, s₁.heap.get? b = some o → o.data = .dict es ep → H b = none := fun {b o es ep} e d => by
      cases q : H b with
      | none => rfl
      | some u =>
        have e' : b = a := hA b (by rw [q]; simp)
        subst e'
        rw [ha] at e; cases e
        have d' : Data.seq vs.toArray _ = Data.dict es ep := d
        cases d'
    have nsK : ∀ {b : Addr} {m : Str → Option Value}, s₁.heap.Ns b m → (hidT s₁.heap H).Ns b m := fun {b m} ⟨o, es, ep, e, d, r⟩ => ⟨o, es, ep, base_of e (noA e d), d, r⟩
    have hKb : K.In (hidT s₁.heap H) := fun b o e => base_of (KX b o e) (by
      cases q : H b with
      | none => rfl
      | some u =>
        have e' : b = a := hA b (by rw [q]; simp)
        subst e'
        rw [hK (by rw [q]; simp)] at e; cases e)
    have hM : Mod K mg (hidT s₁.heap H) := ⟨hKb, nsK hns, ⟨mb, nsK hb, hbb⟩, let ⟨mc, h1, h2⟩ := hlim; ⟨mc, nsK h1, h2⟩⟩
    have e0 : Env0 P w K mg (hidT s₁.heap H) callerA [] s₁ H := ⟨rfl, hM, fun b o e => of_hidT e, Nat.le_of_eq (hidT_size _ _), trivial, fun b hb => absurd (show b ∈ ([] : List Addr) from hb) (by simp), hok, .of_eq hg⟩
    refine codeAny_mono ((F _ hKb (nsK hns)).run callerA [] s₁ H ⟨[.ref a], []⟩ [.ref a] [.ref a] _ _ hr e0 (hbind s₁ (.ref a)) (.cons rfl .nil) (hsp H hO hS)) fun r s' h => ?_
    cases r with
    | error e => exact (hCX H e s' h).elim
    | ok fl =>
      cases fl with
      | next => exact False.elim h
      | brk => exact False.elim h
      | cont => exact False.elim h
      | ret u =>
        obtain ⟨v, H', os, bare, un, hok', r', q⟩ := h
        have q' : v = .bl true := q
        subst q'
        obtain rfl : u = Value.bool true := r'
        refine ⟨rfl, OldK.of_keep fun b o e => ?_, os, bare⟩
        cases q : H b with
        | none => exact un.keep b o e q (by intro z; exact absurd (show b ∈ ([] : List Addr) from z) (by simp)) (by simp)
        | some u =>
          rcases hO b with z | ⟨ob, xs, z⟩
          · rw [q] at z; cases z
          · have z2 := un.frzs b ob _ z
            obtain ⟨e1, _⟩ := hok b _ z
            obtain ⟨e2, _⟩ := hok' b _ z2
            rw [e] at e1; cases e1
            exact e2
  cases hk : K.lookup a with
  | some o =>
    -- the script is one of the module's own objects
    have e := KX a o hk
    rw [ha] at e
    cases e
    refine core (fun _ => none) (fun _ => .inl rfl) (.inr ⟨_, vs.toArray, _, hk, rfl, rfl, rfl, by rw [List.size_toArray, lenV]; exact hl, by simpa using rv⟩) (fun b u z => by have z' : (none : Option HO) = some u := z; cases z') (fun b z => absurd rfl z) fun z => absurd rfl z
  | none =>
    refine core (fun b => if b = a then some (.frz { cls := .type "list", data := .seq vs.toArray } (.lst (ns.map V.int))) else none) (fun b => ?_) (.inl (.inr ⟨{ cls := .type "list", data := .seq vs.toArray }, if_pos rfl⟩)) (fun b u z => ?_) (fun b z => ?_) fun _ => hk
    · by_cases hb : b = a
      · exact .inr ⟨_, _, if_pos hb⟩
      · exact .inl (if_neg hb)
    · by_cases hb : b = a
      · have z' := (if_pos hb).symm.trans z
        cases z'
        subst hb
        exact ⟨ha, by rw [List.length_map]; exact hl, vs, _, rv, ha⟩
      · have z' := (if_neg hb).symm.trans z
        cases z'
    · by_cases hb : b = a
      · exact hb
      · exact absurd (if_neg hb) z
end L2

namespace L2
open PySem PySem.Spec PyProof.Rows

/-- the goal that k_head leaves (case hc), from the law's promise. F gives the function object fd (K's own) once, then the promise over every base -/
theorem walk_of {l : PySem.W.OpenLaw} {n k : Nat} {q : Program} {loose : List Str} {XP : (Str → Option Value) → Heap → Prop} {YP : World → Heap → Prop} {d : DefRec} {K : Params → PySem.W.Frag} {CX : World → CXT} {sp : World → Sp} {x : Str}
    (hn : l.most = some n) (hn2 : n ≤ sizeLine) (hdf : d.params.defaults = []) (hr : Room k callerA)
    (hY : ∀ (w : World) (h : Heap), YP w h → (K w.params).In h)
    (F : ∀ (w : World) (mg : Str → Option Value) (fa : Addr) (h : Heap), (K w.params).In h → h.Ns mainGlobals mg → mg d.name = some (.ref fa) →
      ∃ fd : FuncData, (∀ (s : Shared) (u : Value), BindsTo s fd ⟨[u], []⟩ [(x, u)]) ∧
        ∀ base : Heap, (K w.params).In base → base.Ns mainGlobals mg → FnOk l.prog w (K w.params) mg base (CX w) k fa fd [x] (sp w))
    (hsp : ∀ (w : World) (H : Hp) (a : Addr) (ns : List Int), ns.length ≤ n → Only H → SqL (K w.params) H a (ns.map V.int) → sp w [.ref a] H (fun v _ => v = .bl true) fun _ _ _ => False)
    (hCX : ∀ (w : World) (H : Hp) (s : Shared) (e : Value) (s' : Shared), CX w [] H s (fun _ _ _ => False) e s' → False) :
    PySem.W.WalkO q loose XP YP l.row.toRowW d [] (fun f vs => PySem.call f vs) := by
  refine Att.attach_call hn hdf fun w s₀ s₁ mg mb fa o pm cd doc a vs ns G Y ho hd hcd hmg hobj hints hlen hg => ?_
  have KX := hY w _ Y
  obtain ⟨fd, hb, hF⟩ := F w mg fa _ KX G.T.g hmg
  exact law_call KX G.T.g G.T.b G.T.builtins G.T.nolimit hg hobj hints (Nat.le_trans hlen hn2) hr hF hb (fun H hO hS => hsp w H a ns hlen hO hS) fun H e s' => hCX w H s₁ e s'
end L2

/- THE LAST THEOREM (shape; LID, My.* are yours):
   My.Adr: a structure of the addresses that your layer names (classes, functions); My.Txt K t: a structure (Prop) of the equations over K;
   My.txt_mk : {K} {implicit addresses ..} (e1 : nsIn K mainGlobals "law" = some (some (.ref f))) (e2 : K.lookup f = some ⟨oc, od, .func (fnOf "law" "law" params body scope dV kV doc pm an cdv ct), sl⟩) (e3 : codeIn K cdv "law" = true) .. : ∃ t, My.Txt K t

(the tactic k_is has no namespace: write k_is) -/

/-! SHORT WORDS over the layer: a def of the text, its body, what a loop and a test want. -/
namespace L2
open PySem PySem.Spec PyProof.Rows

/-! ### the text by places -/
def defArgs (s : Stmt) : Arguments := match s with
  | .FunctionDef _ a _ _ _ _ _ _ _ _ => a
  | _ => { posonlyargs := [], args := [], vararg := none, kwonlyargs := [], kw_defaults := [], kwarg := none, defaults := [] }
def defBody (s : Stmt) : List Stmt := match s with
  | .FunctionDef _ _ b _ _ _ _ _ _ _ => b
  | _ => []
def defScope (s : Stmt) : Scope := match s with
  | .FunctionDef _ _ _ _ _ _ sc _ _ _ => sc
  | _ => { kind := .function, names := [], isGenerator := false, isCoroutine := false }

/-! ### no exception leaves a def -/
abbrev CX0 : CXT := fun _ _ _ _ _ _ => False
abbrev E0 : XK := fun _ _ _ => False
theorem pass0 {X : Cx} : Passes CX0 X E0 := fun _ _ _ _ _ _ _ h => h.elim

/-! ### a def (or method) of the text as it stands behind the top -/
structure Fun (K : PySem.W.Frag) (x qual : Str) (st : Stmt) (f : Addr) (fd : FuncData) : Prop where
  ex : ∃ (oc : Value) (od : Option Addr) (kV doc pm : Value) (an : Option Addr) (cdv ct : Value) (osl : Array (Option Value)),
    fd = PySem.W.fnOf x qual (defArgs st) (defBody st) (defScope st) .none kV doc pm an cdv ct ∧ K.lookup f = some ⟨oc, od, .func fd, osl⟩ ∧ PySem.W.codeIn K cdv qual = true
  kp : PySem.W.keepIn K (.ref f) = true
section
variable {P : Program} {w : World} {K : PySem.W.Frag} {mg : Str → Option Value} {base : Heap}
/-- THE RULE for a def: its body as a term of rules, and the reading of that term -/
theorem Fun.ok {x qual : Str} {st : Stmt} {f : Addr} {fd : FuncData} {N ps : List Str} {k : Nat} {sp : Sp} (F : Fun K x qual st f fd) (S : FnScope N ps (defScope st)) (len : ∀ vs H Q E, sp vs H Q E → vs.length = ps.length)
    (hbody : ∀ (cdv : Value) (A : Around) (outer : List Env) (s : Shared) (H : Hp) (vs : List V) (Q : VK) (E : XK), Room k (A.deeper (envOfC qual (defScope st) s.heap.objs.size f cdv)) → sp vs H Q E →
      ∃ t, PSs (cxOf CX0 P w K mg base N qual (defScope st) f cdv A outer s H E).nox (defBody st) t ∧ t { nx := fun _ H' => Q .non H', rt := Q } (start N vs) H) : FnOk P w K mg base CX0 (k + 1) f fd ps sp := by
  obtain ⟨oc, od, kV, doc, pm, an, cdv, ct, osl, rfl, lk, hcd⟩ := F.ex
  refine fn_of lk hcd S len fun A outer s H vs Q E hr hsp => ?_
  obtain ⟨t, h, q⟩ := hbody cdv A outer s H vs Q E hr hsp
  exact ⟨t, h.nox, q⟩
/-- how its arguments bind (no defaults): h is «fun _ _ _ _ _ _ us hl => match us, hl with | [_, _], _ => rfl», one _ a parameter -/
theorem Fun.binds {x qual : Str} {st : Stmt} {f : Addr} {fd : FuncData} {ps : List Str} (F : Fun K x qual st f fd)
    (h : ∀ (kV doc pm : Value) (an : Option Addr) (cdv ct : Value) (us : List Value), us.length = ps.length → bindArgs (PySem.W.fnOf x qual (defArgs st) (defBody st) (defScope st) .none kV doc pm an cdv ct) ⟨us, []⟩ = pure (ps.zip us)) : Binds K fd ps [] := by
  obtain ⟨oc, od, kV, doc, pm, an, cdv, ct, osl, rfl, lk, hcd⟩ := F.ex
  exact .all (h kV doc pm an cdv ct)
theorem fun_mk {x qual : Str} {st : Stmt} {f : Addr} {oc : Value} {od an : Option Addr} {osl : Array (Option Value)} {kV doc pm cdv ct : Value} (l : K.lookup f = some ⟨oc, od, .func (PySem.W.fnOf x qual (defArgs st) (defBody st) (defScope st) .none kV doc pm an cdv ct), osl⟩)
    (c : PySem.W.codeIn K cdv qual = true) (k : PySem.W.keepIn K (.ref f) = true) : Fun K x qual st f (PySem.W.fnOf x qual (defArgs st) (defBody st) (defScope st) .none kV doc pm an cdv ct) := ⟨⟨oc, od, kV, doc, pm, an, cdv, ct, osl, rfl, l, c⟩, k⟩
end
theorem hu_of {A : Around} {k : Nat} (hr : Room k A) : A.units + 1 < cLine := Nat.lt_of_le_of_lt (Nat.add_le_add_left (by decide : 1 ≤ 64) _) hr.units
theorem small1000 {n : Nat} (h : n ≤ 1000) : n < sizeLine := Nat.lt_of_le_of_lt h (by decide)

/-! ### expressions in short: the name that stands in the i-th slot -/
section
variable {X : Cx}
theorem pv (i : Nat) {x : Str} {pos : Pos} (hN : X.N[i]? = some x := by rfl) (hv : Vis X.env.scope x := by first | exact Or.inl rfl | exact Or.inr (Or.inl rfl) | exact Or.inr (Or.inr rfl)) (hd : (x == ("__debug__" : Str)) = false := by decide)
    (hcd : (x == ("__classdict__" : Str)) = false := by decide) : PE X (.Name x pos) (tVar i) := pe_var hN hv hd hcd
end

/-! ### tests -/
theorem iteF {A B : Prop} (h : B) : if false = true then A else B := by
  rw [if_neg Bool.false_ne_true]
  exact h
theorem iteT {A B : Prop} (h : A) : if true = true then A else B := by
  rw [if_pos rfl]
  exact h
theorem ite2 {c A B : Prop} [Decidable c] (h1 : c → A) (h2 : ¬ c → B) : if c then A else B := by
  by_cases h : c
  · rw [if_pos h]
    exact h1 h
  · rw [if_neg h]
    exact h2 h
/-! ### heaps -/
/-- all that was tracked is as it was -/
def Same (H H' : Hp) : Prop := ∀ b o, H b = some o → H' b = some o
theorem Same.refl (H : Hp) : Same H H := fun _ _ h => h
theorem Same.trans {H H1 H2 : Hp} (a : Same H H1) (b : Same H1 H2) : Same H H2 := fun c o h => b c o (a c o h)
theorem Same.free {H H' : Hp} (e : Same H H') {l : Addr} (h : H' l = Option.none) : H l = Option.none := by
  cases q : H l with
  | none => rfl
  | some o =>
    rw [e l o q] at h
    cases h
theorem Same.seq {K : PySem.W.Frag} {H H' : Hp} {a : Addr} {xs : List V} (e : Same H H') (h : SqL K H a xs) : SqL K H' a xs := by
  rcases h with (h | ⟨o, h⟩) | h
  · exact .inl (.inl (e _ _ h))
  · exact .inl (.inr ⟨o, e _ _ h⟩)
  · exact .inr h

end L2

set_option Elab.async false
set_option linter.all false
set_option maxRecDepth 100000
namespace L2
open PySem PySem.Spec PyProof.Rows

/-! ### a comprehension's turns, with the step ahead of the store -/
section
variable {prog : Program} {w : World} {A : Around} {R : Result → Shared → Prop} {s : Shared}
theorem compLoop_go {elt target iter : Expr} {ifs : List Expr} {scope : Scope} {pos : Pos} {it acc : Value} {env : Env} (I : Nat → Shared → Prop)
    (turn : ∀ n s, I n s → wpAny (model prog w) A (pyNext it) (fun r s₁ => match r with
      | none => R (.ok .next) s₁
      | some v => wpAny (model prog w) A (letOwnedTupleGo target it v) (fun _ s₁' => wpAny (model prog w) A (assign target env v) (fun _ s₂ =>
          wpAny (model prog w) A (forIn ifs true fun c r => if r = true then do let ok ← isTrue c env (eval c env); pure (ForInStep.yield ok) else pure (ForInStep.yield r)) (fun ok s₃ =>
            if ok = true then wpAny (model prog w) A (eval elt env) (fun x s₄ =>
              wpAny (model prog w) A (call (.builtin "list.append") [acc, x]) (fun _ s₅ => ∃ m, m < n ∧ I m s₅) (fun _ _ => False) s₄) (fun _ _ => False) s₃
            else ∃ m, m < n ∧ I m s₃) (fun _ _ => False) s₂) (fun _ _ => False) s₁') (fun _ _ => False) s₁) (fun _ _ => False) s)
    (n : Nat) (h : I n s) :
    codeAny (model prog w) A (.compLoop (.ListComp elt [⟨target, iter, ifs, 0⟩] scope pos) 0 it acc env) R s := by
  refine codeAny_loop rfl I (fun n s hI => ?_) n h
  show wpAny _ A ((compTurn (.ListComp elt [⟨target, iter, ifs, 0⟩] scope pos) 0 it acc env).onRaise (fun x => do noteFrame x env; theTreesLotGoes x)) _ _ s
  refine wpAny_noted ?_
  rw [compTurn_list]
  refine wpAny_bind (wpAny_standAt (wpAny_bind (wpAny_mono (turn n s hI) (fun r s₁ h₁ => ?_) fun _ _ h' => h'.elim)))
  cases r with
  | none => exact wpAny_pure h₁
  | some v =>
    refine wpAny_bind (wpAny_mono h₁ (fun _ s₁' h₁' => ?_) fun _ _ h' => h'.elim)
    refine wpAny_bind (wpAny_mono h₁' (fun _ s₂ h₂ => wpAny_bind (wpAny_mono h₂ (fun ok s₃ h₃ => ?_) fun _ _ h' => h'.elim)) fun _ _ h' => h'.elim)
    cases ok with
    | false => exact wpAny_pure ⟨rfl, h₃⟩
    | true =>
      exact wpAny_bind (wpAny_bind (wpAny_mono h₃ (fun x s₄ h₄ => wpAny_bind (wpAny_mono h₄ (fun _ s₅ h₅ => wpAny_pure (wpAny_pure ⟨rfl, h₅⟩)) fun _ _ h' => h'.elim)) fun _ _ h' => h'.elim))
end

/-! ### the cells that a block takes over -/
def clo (env : Env) : List (Str × NameKind) → List (Str × Addr) → List (Str × Addr)
  | [], cs => cs
  | (n, k) :: r, cs => if k == .free then (match env.cells.lookup n with
    | some c => clo env r ((n, c) :: cs)
    | none => clo env r cs) else clo env r cs
theorem closureFor_clo {scope : Scope} {env : Env} (h : ∀ x ∈ scope.names, x.2 = .free → ∃ c, env.cells.lookup x.1 = some c) : closureFor scope env = pure (clo env scope.names []) := by
  have go : ∀ (l : List (Str × NameKind)) (cs : List (Str × Addr)), (∀ x ∈ l, x.2 = .free → ∃ c, env.cells.lookup x.1 = some c) →
      (forIn (m := Sem) l cs fun x r => if (x.2 == NameKind.free) = true then do let c ← cellOf env x.1; pure (ForInStep.yield ((x.1, c) :: r)) else pure (ForInStep.yield r)) = pure (clo env l cs) := by
    intro l
    induction l with
    | nil => intro cs _; rfl
    | cons x r ih =>
      intro cs hx
      obtain ⟨n, k⟩ := x
      rw [List.forIn_cons]
      unfold clo
      cases hk : k == NameKind.free with
      | true =>
        obtain ⟨c, hc⟩ := hx (n, k) List.mem_cons_self (by simpa using hk)
        simp only [hk, if_true, cellOf, hc]
        exact ih _ fun y hy => hx y (List.mem_cons_of_mem _ hy)
      | false =>
        simp only [hk, Bool.false_eq_true, if_false]
        exact ih _ fun y hy => hx y (List.mem_cons_of_mem _ hy)
  have e := go scope.names [] h
  unfold closureFor
  exact congrArg (fun t : Sem (List (Str × Addr)) => t >>= fun r => pure r) e
theorem clo_sub {env : Env} : ∀ (l : List (Str × NameKind)) (cs : List (Str × Addr)), (∀ p ∈ cs, env.cells.lookup p.1 = some p.2) → ∀ p ∈ clo env l cs, env.cells.lookup p.1 = some p.2
  | [], cs, h, p, hp => h p hp
  | (n, k) :: r, cs, h, p, hp => by
    unfold clo at hp
    split at hp
    · split at hp
      · next c hc =>
        refine clo_sub r _ (fun q hq => ?_) p hp
        rcases List.mem_cons.mp hq with e | hq
        · subst e; exact hc
        · exact h q hq
      · exact clo_sub r cs h p hp
    · exact clo_sub r cs h p hp
theorem clo_keep {env : Env} : ∀ (l : List (Str × NameKind)) (cs : List (Str × Addr)), ∀ p ∈ cs, p ∈ clo env l cs
  | [], _, _, hp => hp
  | (n, k) :: r, cs, p, hp => by
    unfold clo
    split
    · split
      · exact clo_keep r _ p (List.mem_cons_of_mem _ hp)
      · exact clo_keep r _ p hp
    · exact clo_keep r _ p hp
theorem clo_has {env : Env} {x : Str} {c : Addr} (hc : env.cells.lookup x = some c) : ∀ (l : List (Str × NameKind)) (cs : List (Str × Addr)), (x, NameKind.free) ∈ l → (x, c) ∈ clo env l cs
  | [], _, h => nomatch h
  | (n, k) :: r, cs, h => by
    unfold clo
    rcases List.mem_cons.mp h with e | h
    · cases e
      simp only [beq_self_eq_true, if_true, hc]
      exact clo_keep r _ _ List.mem_cons_self
    · split
      · split
        · exact clo_has hc r _ h
        · exact clo_has hc r _ h
      · exact clo_has hc r _ h
theorem lookup_of_all {cs : List (Str × Addr)} {f : Str → Option Addr} (h : ∀ p ∈ cs, f p.1 = some p.2) {x : Str} {c : Addr} (e : cs.lookup x = some c) : f x = some c := h _ (PySem.mem_of_lookup e)
theorem lookup_mem {x : Str} {c : Addr} : ∀ {cs : List (Str × Addr)}, (∀ p ∈ cs, p.1 = x → p.2 = c) → (x, c) ∈ cs → cs.lookup x = some c
  | [], _, h => nomatch h
  | (n, d) :: r, ha, h => by
    rw [List.lookup_cons]
    cases e : x == n with
    | true =>
      have e' : x = n := by simpa using e
      have := ha (n, d) List.mem_cons_self e'.symm
      simp at this ⊢
      exact this
    | false =>
      rcases List.mem_cons.mp h with z | h
      · cases z; simp at e
      · exact lookup_mem (fun p hp => ha p (List.mem_cons_of_mem _ hp)) h
theorem clo_lookup {env : Env} {names : List (Str × NameKind)} {x : Str} {c : Addr} (hc : env.cells.lookup x = some c) (h : (x, NameKind.free) ∈ names) : (clo env names []).lookup x = some c :=
  lookup_mem (fun p hp e => by have := clo_sub names [] (fun _ z => nomatch z) p hp; rw [e, hc] at this; exact (Option.some.inj this).symm) (clo_has hc names [] h)

/-! ### a block's context -/
/-- the names of the block N', for each of them its slot outside (none: the block's own) -/
def slots (ρ : List (Option Nat)) (σ : St) : St := ρ.map fun o => o.bind fun j => (σ[j]?).join
def blk (X : Cx) (scope : Scope) (N' : List Str) (C : Addr) (s₀ : Shared) (H₀ : Hp) (ex : List Addr) : Cx :=
  { X with N := N', s₀ := s₀, H₀ := H₀, env := compEnvC scope (clo X.env scope.names []) C X.env, outer := X.stack, stack := X.stack, ex := ex, fn := fun _ => false, pn := [], xe := fun _ _ => False }
structure BlkOk (X : Cx) (scope : Scope) (N' : List Str) (ρ : List (Option Nat)) (m : Nat) : Prop where
  kind : scope.kind = .function
  nocell : ∀ x ∈ scope.names, x.2 ≠ .cell
  names : ∀ x ∈ scope.names, x.2 = .local → scope.names.lookup x.1 = some .local
  frees : ∀ x ∈ scope.names, x.2 = .free → X.env.kindOf x.1 = some .cell ∨ X.env.kindOf x.1 = some .free
  len : ρ.length = N'.length
  own : ∀ (i j : Nat), ρ[i]? = some (some j) → m ≤ i
  slot : ∀ (i j : Nat) (x : Str), ρ[i]? = some (some j) → N'[i]? = some x → X.N[j]? = some x ∧ (x, NameKind.free) ∈ scope.names
  slotNoLocal : ∀ (i j : Nat) (x : Str), ρ[i]? = some (some j) → N'[i]? = some x → (relabel scope X.env).names.lookup x ≠ some .local
theorem relabel_free {env : Env} : ∀ {names : List (Str × NameKind)} {x : Str} {k : NameKind}, (names.map fun (n, k) => if (k == NameKind.free && env.scope.kind == .function && env.kindOf n == some .cell) then (n, NameKind.cell) else (n, k)).lookup x = some k → (k = .cell ∨ k = .free) → (∀ y ∈ names, y.2 ≠ .cell) → (x, NameKind.free) ∈ names
  | [], _, _, h, _, _ => by simp at h
  | (n, k0) :: r, x, k, h, hk, hn => by
    rw [List.map_cons] at h
    by_cases hc : (k0 == NameKind.free && env.scope.kind == .function && env.kindOf n == some .cell) = true
    · simp only [hc, if_true, List.lookup_cons] at h
      cases e : x == n with
      | true =>
        have e' : x = n := by simpa using e
        have hk0 : k0 = .free := by simp [Bool.and_eq_true] at hc; exact hc.1.1
        subst e'; subst hk0
        exact List.mem_cons_self
      | false =>
        rw [e] at h
        exact List.mem_cons_of_mem _ (relabel_free h hk fun y hy => hn y (List.mem_cons_of_mem _ hy))
    · simp only [hc, Bool.false_eq_true, if_false, List.lookup_cons] at h
      cases e : x == n with
      | true =>
        rw [e] at h
        have e' : x = n := by simpa using e
        subst e'
        have h' : k0 = k := by simpa using h
        subst h'
        rcases hk with z | z
        · exact absurd z (hn (x, k0) List.mem_cons_self)
        · subst z; exact List.mem_cons_self
      | false =>
        rw [e] at h
        exact List.mem_cons_of_mem _ (relabel_free h hk fun y hy => hn y (List.mem_cons_of_mem _ hy))
theorem slots_get {ρ : List (Option Nat)} {σ : St} {i : Nat} {v : V} (h : (slots ρ σ)[i]? = some (some v)) : ∃ j, ρ[i]? = some (some j) ∧ σ[j]? = some (some v) := by
  unfold slots at h
  rw [List.getElem?_map] at h
  cases e : ρ[i]? with
  | none => rw [e] at h; cases h
  | some o =>
    rw [e] at h
    cases o with
    | none => simp at h
    | some j =>
      refine ⟨j, rfl, ?_⟩
      simp at h
      cases q : σ[j]? with
      | none => rw [q] at h; simp at h
      | some z => rw [q] at h; simp at h; rw [h]

section
variable {X : Cx} {pins : List (Addr × Obj)} {σ : St} {H : Hp} {s : Shared} {scope : Scope} {N' : List Str} {ρ : List (Option Nat)} {m : Nat}
/-- the state at the block's beginning: its list at D, its names at C -/
theorem blk_start (I : Inv X pins σ H s) (B : BlkOk X scope N' ρ m) {fp : List Addr} (hfp : ∀ b ∈ fp, FpOk X pins H b) {C D : Addr} {h1 : Heap} {tk : Nat} {oD : Obj} {mC : Str → Option Value} (hC : s.heap.objs.size ≤ C) (hD : s.heap.objs.size ≤ D) (hDC : D ≠ C)
    (hfs : ∀ b ∈ fp, b < s.heap.objs.size) (old : ∀ b o, s.heap.get? b = some o → h1.get? b = some o) (hns : h1.Ns C mC) (hoD : h1.get? D = some oD) (hdD : ∀ v, oD.data ≠ .cell v) :
    Inv (blk X scope N' C s H fp) [(D, oD)] (slots ρ σ) H { s with heap := h1, toks := tk } := by
  have hcl : ∀ x c, (clo X.env scope.names []).lookup x = some c → X.env.cells.lookup x = some c := fun x c e => lookup_of_all (f := fun y => X.env.cells.lookup y) (clo_sub scope.names [] fun _ z => nomatch z) e
  have nofs : ∀ b, s.heap.objs.size ≤ b → b ∉ frs X.stack := fun b hb z => by
    rcases List.mem_cons.mp (I.stkSub b z) with e | z
    · exact absurd (Nat.lt_of_lt_of_le I.lt hb) (by rw [e]; exact Nat.lt_irrefl _)
    · exact I.nofs hb z
  have lk : ∀ x, ((relabel scope X.env).names.lookup x = some .cell ∨ (relabel scope X.env).names.lookup x = some .free) → (x, NameKind.free) ∈ scope.names := fun x hx => by
    rcases hx with hx | hx
    · exact relabel_free hx (.inl rfl) B.nocell
    · exact relabel_free hx (.inr rfl) B.nocell
  refine ⟨⟨I.ok.mod, B.kind, I.ok.glob, I.ok.blt, hC, fun x y c h1 h2 => I.ok.inj x y c (hcl x c h1) (hcl y c h2), fun x hx => ?_, fun x c hf _ => absurd hf Bool.false_ne_true, I.ok.hd, I.ok.frames, .inl rfl, fun b hb => ⟨Nat.ne_of_lt (Nat.lt_of_lt_of_le (hfs b hb) hC), fun x c e => (hfp b hb).2.2.2.2.1 x c (hcl x c e)⟩, I.bs, Nat.le_trans I.ok.bsz I.sz, fun b o e hb => ?_, fun b hb z => ?_, I.stack, I.stkFree⟩,
    rfl, I.bare, Un.kept old, ⟨mC, hns, fun i x v h1 h2 h3 => ?_⟩, fun x c e => ?_, I.hok.fresh hC, fun x c e => I.freeC x c (hcl x c e), fun p hp => ?_, I.hok.kept old, ?_⟩
  · have hm := lk x hx
    obtain ⟨c, hc⟩ := I.ok.has x (B.frees _ hm rfl)
    exact ⟨c, clo_lookup hc hm⟩
  · rcases (hfp b hb).2.2.2.1 with z | z
    · exact I.ok.noex b o e z
    · exact absurd (Nat.lt_of_lt_of_le (Heap.lt_size (I.ok.bs b o e).1) z) (Nat.lt_irrefl _)
  · rcases List.mem_cons.mp (I.stkSub b z) with e | z
    · exact (hfp b hb).2.1 e
    · exact (hfp b hb).2.2.1 z
  · obtain ⟨j, hj, hσ⟩ := slots_get h2
    obtain ⟨hN, hm⟩ := B.slot i j x hj h1
    have hk := B.frees _ hm rfl
    obtain ⟨m0, hn0, hl⟩ := I.loc
    obtain ⟨u, r, l⟩ := hl j x v hN hσ (hk.elim (fun z => .inr (.inl z)) fun z => .inr (.inr z))
    rcases l with ⟨z, _⟩ | ⟨_, c, hc, hcell⟩
    · rcases hk with q | q
      · rw [q] at z; cases z
      · rw [q] at z; cases z
    · refine ⟨u, r, .inr ⟨?_, c, clo_lookup hc hm, ?_⟩⟩
      · rcases h3 with z | z | z
        · -- a free name is no local of the block
          exfalso
          have q : (relabel scope X.env).names.lookup x = some .local := z
          exact (B.slotNoLocal i j x hj h1 q)
        · exact .inl z
        · exact .inr z
      · obtain ⟨o, ho, hd⟩ := hcell
        exact ⟨o, old _ _ ho, hd⟩
  · obtain ⟨v, o, ho, hd⟩ := I.cell x c (hcl x c e)
    exact ⟨v, o, old _ _ ho, hd⟩
  · have e : p = (D, oD) := by
      have hp' : p ∈ ([] : List (Addr × Obj)) ++ [(D, oD)] := hp
      simpa using hp'
    subst e
    exact ⟨hoD, I.hok.fresh hD, hDC, nofs D hD, hdD⟩
  · show (slots ρ σ).length = N'.length
    unfold slots
    rw [List.length_map]
    exact B.len
end

/-! ### the reading -/
def PTs (Y : Cx) (ifs : List Expr) (t : TT) : Prop :=
  ∀ (pins : List (Addr × Obj)) (s : Shared) (σ : St) (H : Hp) (Q : Bool → Hp → Prop), Inv Y pins σ H s → t σ H Q →
    wpAny (model Y.prog Y.w) Y.A (forIn ifs true fun c r => if r = true then do let ok ← isTrue c Y.env (eval c Y.env); pure (ForInStep.yield ok) else pure (ForInStep.yield r)) (TP Y pins σ Q) Y.xe s
def tTrue : TT := fun _ H Q => Q true H
theorem pts_nil {Y : Cx} : PTs Y [] tTrue := fun _ _ _ H _ I h => wpAny_tests_nil ⟨H, I, h⟩
theorem pts_one {Y : Cx} {c : Expr} {t : TT} (h : PT Y c t) : PTs Y [c] t := fun pins s σ H Q I q => wpAny_tests_one (h pins s σ H Q I q)
def cLoop (J : It) (m : Nat) (g : TG) (tt : TT) (te : TE) (σ' : St) (Z : List V → Hp → Prop) (H1 : Hp) : Prop :=
  ∃ W : Nat → Nat → List V → Hp → Prop, (∃ k, W 0 k [] H1) ∧ ∀ i k acc H, W i k acc H → acc.length ≤ sizeLine ∧
    ((J.stop i H ∧ Z acc H) ∨ (J.go i H ∧ ∀ x H', J.yld i H x H' → g x σ' H' fun σ2 H2 => (σ2.drop m = σ'.drop m ∧ σ2.length = σ'.length) ∧
      tt σ2 H2 fun b H3 => if b = true then te σ2 H3 fun v H4 => acc.length < sizeLine ∧ ∃ k', k' < k ∧ W (i + 1) k' (acc ++ [v]) H4 else ∃ k', k' < k ∧ W (i + 1) k' acc H3))
def tComp (wi : TI) (ρ : List (Option Nat)) (m : Nat) (g : TG) (tt : TT) (te : TE) : TE := fun σ H Q => wi σ H fun J H1 =>
  cLoop J m g tt te (slots ρ σ) (fun acc H => ∀ D, H D = none → Q (.ref D) (upd H D (.lst acc))) H1

theorem drop_get {σ σ' : St} {m : Nat} (h : σ.drop m = σ'.drop m) {i : Nat} (hi : m ≤ i) : σ[i]? = σ'[i]? := by
  have e : (σ.drop m)[i - m]? = (σ'.drop m)[i - m]? := by rw [h]
  rw [List.getElem?_drop, List.getElem?_drop] at e
  rwa [show m + (i - m) = i by omega] at e
section
variable {X : Cx} {pins : List (Addr × Obj)} {σ : St} {H2 : Hp} {s2 : Shared} {scope : Scope} {N' : List Str} {ρ : List (Option Nat)} {m : Nat} {elt tg iter : Expr} {ifs : List Expr} {g : TG} {tt : TT} {te : TE} {pos : Pos}
theorem blk_run (hc : X.calm = true) (B : BlkOk X scope N' ρ m) (hg : ∀ C s₀ H₀ ex, PG (blk X scope N' C s₀ H₀ ex) tg g) (ht : ∀ C s₀ H₀ ex, PTs (blk X scope N' C s₀ H₀ ex) ifs tt) (he : ∀ C s₀ H₀ ex, PE (blk X scope N' C s₀ H₀ ex) elt te)
    {J : It} {fp : List Addr} {it : Addr} {tn : Nat → Heap → Prop} {Z : List V → Hp → Prop} (I : Inv X pins σ H2 s2) (T : Turn X.prog X.w X.K tg J fp it tn) (st : tn 0 s2.heap) (hfp : ∀ b ∈ fp, FpOk X pins H2 b) (hL : cLoop J m g tt te (slots ρ σ) Z H2)
    {RR : Value → Addr → Result → Shared → Prop} {E : Value → Shared → Prop}
    (fin : ∀ (D C : Addr) (H' : Hp) (acc : List V) (s' : Shared) (mC : Str → Option Value), s'.heap.Ns C mC → Inv X pins σ (upd H' D (.lst acc)) s' → FpOk X pins (upd H' D (.lst acc)) C → H' D = none → Z acc H' → RR (.ref D) C (.ok .next) s') :
    wpAny (model X.prog X.w) X.A (newList []) (fun acc s₃ => wpAny (model X.prog X.w) X.A (newFunctionEnv scope X.env.globals (clo X.env scope.names []) [] X.env.qual none .none (some X.env)) (fun cenv s₄ =>
      codeAny (model X.prog X.w) X.A (.compStart (.ListComp elt [⟨tg, iter, ifs, 0⟩] scope pos) 0 (.ref it) acc { cenv with scope := relabel scope X.env }) (RR acc cenv.locals) s₄) E s₃) E s2 := by
  refine wpAny_newObj_type (wpAny_newFunctionEnv B.nocell (by intro y hy; simp at hy) (fun h₁ hns₁ hsb₁ => ?_) B.kind)
  dsimp only at hns₁ hsb₁ ⊢
  generalize hHp : s2.heap.push { cls := .type "list", dict := none, data := .seq ([] : List Value).toArray } = Hp2 at hns₁ hsb₁ ⊢
  have hCe : Hp2.objs.size = s2.heap.objs.size + 1 := by rw [← hHp, Heap.size_push]
  have hDC : s2.heap.objs.size ≠ Hp2.objs.size := by rw [hCe]; exact Nat.ne_of_lt (Nat.lt_succ_self _)
  have hCle : s2.heap.objs.size ≤ Hp2.objs.size := by rw [hCe]; exact Nat.le_succ _
  have below : ∀ b, b < s2.heap.objs.size → b ≠ Hp2.objs.size ∧ b ≠ s2.heap.objs.size := fun b hb => ⟨by rw [hCe]; exact Nat.ne_of_lt (Nat.lt_succ_of_lt hb), Nat.ne_of_lt hb⟩
  have old : ∀ b o, s2.heap.get? b = some o → h₁.get? b = some o := fun b o e => hsb₁.extBut b o (below b (Heap.lt_size e)).1 (Heap.get?_push_of_some _ (hHp ▸ Heap.get?_push_of_some _ e))
  have hfs : ∀ b ∈ fp, b < s2.heap.objs.size := fun b hb => let ⟨o, e, _⟩ := T.obj 0 _ st b hb; Heap.lt_size e
  generalize hDn : s2.heap.objs.size = D at *
  generalize hCn : Hp2.objs.size = C at *
  have hacc : h₁.get? D = some { cls := .type "list", data := .seq ([] : List Value).toArray } := hsb₁.extBut _ _ hDC (Heap.get?_push_of_some _ (by rw [← hHp, ← hDn]; exact Heap.get?_push_size _ rfl))
  have st₁ : tn 0 h₁ := T.keep _ _ _ st fun b _ o e => old b o e
  obtain ⟨W, ⟨k0, w0⟩, turn⟩ := hL
  have cellLt : ∀ x c, (clo X.env scope.names []).lookup x = some c → c < s2.heap.objs.size := fun x c e => by
    have e' : X.env.cells.lookup x = some c := lookup_of_all (f := fun y => X.env.cells.lookup y) (clo_sub scope.names [] fun _ z => nomatch z) e
    obtain ⟨v, o, ho, _⟩ := I.cell x c e'
    exact Heap.lt_size ho
  have stat : ∀ {H' : Hp} {o : Obj}, (∀ b ∈ fp, H' b = none) → ∀ b ∈ fp, FpOk (blk X scope N' C s2 H2 fp) [(D, o)] H' b := fun {H' o} hn b hb => by
    obtain ⟨_, f1, f2, _, f4, _⟩ := hfp b hb
    refine ⟨hn b hb, (below b (hfs b hb)).1, fun z => ?_, .inl hb, fun x c e => f4 x c (lookup_of_all (f := fun y => X.env.cells.lookup y) (clo_sub scope.names [] fun _ z => nomatch z) e), fun p hp => ?_⟩
    · rcases List.mem_cons.mp (I.stkSub b z) with e | z
      · exact f1 e
      · exact f2 z
    · have e : p = (D, o) := by
        have hp' : p ∈ ([] : List (Addr × Obj)) ++ [(D, o)] := hp
        simpa using hp'
      subst e
      exact Ne.symm (below b (hfs b hb)).2
  have loop : ∀ s₃ : Shared, s₃ = { s2 with heap := h₁, toks := s2.toks + ([] : List (Str × Value)).length } →
      codeAny (model X.prog X.w) X.A (.compLoop (.ListComp elt [⟨tg, iter, ifs, 0⟩] scope pos) 0 (.ref it) (.ref D) (compEnvC scope (clo X.env scope.names []) C X.env)) (RR (.ref D) C) s₃ := by
    rintro s₃ rfl
    have I₁ : Inv (blk X scope N' C s2 H2 fp) [(D, { cls := .type "list", data := .seq ([] : List Value).toArray })] (slots ρ σ) H2 { s2 with heap := h₁, toks := s2.toks + ([] : List (Str × Value)).length } :=
      blk_start I B hfp (by rw [hDn]; exact hCle) (by rw [hDn]; exact Nat.le_refl _) hDC (fun b hb => by rw [hDn]; exact hfs b hb) old hns₁ hacc (fun v z => by cases z)
    refine compLoop_go (fun n s' => ∃ (i : Nat) (acc : List V) (H' : Hp) (its : List Value) (kk : Nat), Inv (blk X scope N' C s2 H2 fp) [(D, { cls := .type "list", data := .seq its.toArray kk })] (slots ρ σ) H' s' ∧ Vals acc its ∧ tn i s'.heap ∧ (∀ b ∈ fp, H' b = none) ∧ W i n acc H') ?_ k0
      ⟨0, [], H2, [], _, I₁, .nil, st₁, fun b hb => (hfp b hb).1, w0⟩
    rintro n s3 ⟨i, acc, H3, its, kk, I3, rv, st3, fr3, w3⟩
    obtain ⟨hlen, cs⟩ := turn i n acc H3 w3
    rcases cs with ⟨stop, z⟩ | ⟨go, step⟩
    · refine thn (T.done (blk X scope N' C s2 H2 fp) rfl rfl rfl hc i _ s3 (slots ρ σ) H3 (fun _ _ => False) I3 (stat fr3) st3 stop) fun r s4 ⟨hr, I4⟩ => ?_
      subst hr
      obtain ⟨eD, nD, _, _, _⟩ := I4.pin (D, _) (List.mem_append_right _ (List.mem_singleton.mpr rfl))
      obtain ⟨mC, hnsC, _⟩ := I4.loc
      have hD2 : H2 D = none := I.hok.fresh (by rw [hDn]; exact Nat.le_refl _)
      have u : Un (frs X.stack) fp H2 (upd H3 D (.lst acc)) s2.heap s4.heap :=
        ⟨I4.base.keep, I4.base.slot, fun b o e n hx => by rw [upd_ne (below b (by rw [← hDn]; exact Heap.lt_size e)).2]; exact I4.base.free b o e n hx, I4.base.there,
          fun b xs e => by rw [upd_ne (ne_of_none e hD2)]; exact I4.base.tups b xs e, fun b o u e => by rw [upd_ne (ne_of_none e hD2)]; exact I4.base.frzs b o u e,
          fun b ps e => by rw [upd_ne (ne_of_none e hD2)]; exact I4.base.tbls b ps e⟩
      have hok : HOk X.prog X.w (upd H3 D (.lst acc)) s4.heap := fun b o e => by
        by_cases hb : b = D
        · subst hb
          rw [upd_same] at e; cases e
          exact ⟨hlen, its, kk, rv, eD⟩
        · rw [upd_ne hb] at e
          exact (I4.hok b o e).stay (fun c v _ q => q) (fun c q => by rw [upd_ne (ne_of_none q nD)]; exact q) fun c xs q => by rw [upd_ne (ne_of_none q nD)]; exact q
      have IX : Inv X pins σ (upd H3 D (.lst acc)) s4 := Inv.call' (ch := fp) I I4.os u hok I4.bare fun b hb => ⟨(hfp b hb).2.2.2.1, (hfp b hb).2.1, (hfp b hb).2.2.2.2.1, (hfp b hb).2.2.2.2.2⟩
      have nC : (upd H3 D (.lst acc)) C = none := by rw [upd_ne (Ne.symm hDC)]; exact I4.free
      exact fin D C H3 acc s4 mC hnsC IX (I.fpOk (by rw [hDn]; exact hCle) nC) nD z
    · refine thn (T.item (blk X scope N' C s2 H2 fp) rfl rfl rfl hc i _ s3 (slots ρ σ) H3 (fun _ _ => False) I3 (stat fr3) st3 go) fun r s4 ⟨u, hr, h4⟩ => ?_
      subst hr
      refine thn h4 fun _ s5 ⟨x, H5, I5, r5, y5, st5, fr5⟩ => ?_
      have I5' := I5.pinned (stat fr5) (T.obj _ _ st5)
      refine thn (hg C s2 H2 fp _ s5 (slots ρ σ) H5 x u _ I5' r5 (step x H5 y5)) fun _ s6 ⟨σ6, H6, I6, ⟨d6, l6⟩, q6⟩ => ?_
      refine thn (ht C s2 H2 fp _ s6 σ6 H6 _ I6 q6) fun b s7 ⟨H7, I7, q7⟩ => ?_
      have le6 : ∀ (j : Nat) v, (slots ρ σ)[j]? = some (some v) → σ6[j]? = some (some v) := fun j v e => by
        obtain ⟨k, hk, _⟩ := slots_get e
        rw [drop_get d6 (B.own j k hk)]
        exact e
      have kept : ∀ {H8 : Hp} {s8 : Shared}, Inv (blk X scope N' C s2 H2 fp) ([(D, { cls := .type "list", data := .seq its.toArray kk })] ++ pinsAt fp s5.heap) σ6 H8 s8 →
          (∀ b ∈ fp, ∀ o, s5.heap.get? b = some o → s8.heap.get? b = some o) ∧ ∀ b ∈ fp, H8 b = none := fun {H8 s8} I8 =>
        ⟨fun b hb o e => (I8.pin (b, o) (List.mem_append_right _ (List.mem_append_right _ (mem_pinsAt hb e)))).1, fun b hb => by
          obtain ⟨o, e, d⟩ := T.obj _ _ st5 b hb
          exact (I8.pin (b, o) (List.mem_append_right _ (List.mem_append_right _ (mem_pinsAt hb e)))).2.1⟩
      cases b with
      | false =>
        rw [if_neg Bool.false_ne_true] at q7 ⊢
        obtain ⟨k', hk, w7⟩ := q7
        exact ⟨k', hk, i + 1, acc, H7, its, kk, I7.unpinned.weak l6.symm le6, rv, T.keep _ _ _ st5 (kept I7).1, (kept I7).2, w7⟩
      | true =>
        rw [if_pos rfl] at q7 ⊢
        refine thn (he C s2 H2 fp _ s7 σ6 H7 _ I7 q7) fun xv s8 ⟨v, H8, I8, r8, q8⟩ => ?_
        obtain ⟨hlt, k', hk, w8⟩ := q8
        obtain ⟨eD, nD, neD, nfD, _⟩ := I8.pin (D, _) (List.mem_append_right _ (List.mem_append_left _ (List.mem_singleton.mpr rfl)))
        have hsz : its.toArray.size ≤ sizeLine := by rw [List.size_toArray, ← rv.length]; exact hlen
        refine wpAny_list_append_plain (hsz := hsz) ⟨kk, eD⟩ fun h₉ hl₉ hs₉ => ?_
        obtain ⟨kk', e9⟩ := hl₉
        have I8' : Inv (blk X scope N' C s2 H2 fp) [] σ6 H8 s8 := I8.pins_of fun p hp => nomatch hp
        have I9 : Inv (blk X scope N' C s2 H2 fp) [] σ6 H8 { s8 with heap := h₉, toks := s8.toks } := I8'.turned (it := D) (fun b o hb e => hs₉.extBut b o hb e) nD hDC (.inr (Nat.le_of_eq hDn))
          (fun x c e z => by have q := cellLt x c e; rw [hDn, z] at q; exact Nat.lt_irrefl _ q) fun p hp => nomatch (show p ∈ ([] : List (Addr × Obj)) from hp)
        have e9' : h₉.get? D = some { cls := .type "list", data := .seq (its ++ [xv]).toArray kk' } := by rw [e9, List.push_toArray]
        have I9' : Inv (blk X scope N' C s2 H2 fp) [(D, { cls := .type "list", data := .seq (its ++ [xv]).toArray kk' })] (slots ρ σ) H8 { s8 with heap := h₉, toks := s8.toks } :=
          (I9.weak l6.symm le6).pins_of fun p hp => by
            have e : p = (D, _) := List.mem_singleton.mp hp
            subst e
            exact ⟨e9', nD, hDC, nfD, fun v z => by cases z⟩
        refine ⟨k', hk, i + 1, acc ++ [v], H8, its ++ [xv], kk', I9', rv.append (.cons r8 .nil), T.keep _ _ _ st5 fun b hb o e => ?_, (kept I8).2, w8⟩
        exact hs₉.extBut b o (below b (hfs b hb)).2 ((kept I8).1 b hb o e)
  exact codeAny_compStart_list (loop _ rfl) (T.self _ 0 _ _ _ st₁ (loop _ rfl))

/-- [elt for tg in iter if ..] -/
theorem pe_comp {wi : TI} (B : BlkOk X scope N' ρ m) (hc : X.calm = true) (hi : PI X tg iter wi) (hg : ∀ C s₀ H₀ ex, PG (blk X scope N' C s₀ H₀ ex) tg g) (ht : ∀ C s₀ H₀ ex, PTs (blk X scope N' C s₀ H₀ ex) ifs tt) (he : ∀ C s₀ H₀ ex, PE (blk X scope N' C s₀ H₀ ex) elt te)
    (hs : ∀ x, foldedSetIterable iter X.env x = pure x := by intro _; rfl) : PE X (.ListComp elt [⟨tg, iter, ifs, 0⟩] scope pos) (tComp wi ρ m g tt te) := by
  intro pins s σ H Q I h
  rw [eval_ListComp]
  refine wpAny_comprehension_free (use := none) rfl hs (closureFor_clo fun x hx hf => I.ok.has x.1 (B.frees x hx hf)) B.kind B.names (thn (hi pins s σ H _ I h) fun v s1 h1 => thn h1 fun itv s2 h2 => ?_)
  obtain ⟨it, fp, tn, J, H2, e, I2, T, st2, f2, hL⟩ := h2
  subst e
  refine blk_run (RR := fun acc C => compPost (model X.prog X.w) X.A X.xe none (EP X pins σ Q) acc C) hc B hg ht he I2 T st2 f2 hL fun D C H' acc s' mC hns IX fC nD z => ?_
  refine ⟨mC, hns, fun h' hs' => ⟨.ref D, _, IX.turned (t' := s'.toks) (it := C) (fun b o hb e => hs'.extBut b o hb e) fC.1 fC.2.1 fC.2.2.2.1 fC.2.2.2.2.1 fC.2.2.2.2.2, rfl, z D nD⟩⟩
/-- y = [elt for tg in iter if ..] -/
theorem ps_comp {wi : TI} {i : Nat} {y : Str} {py spos : Pos} (B : BlkOk X scope N' ρ m) (hN : X.N.Nodup) (hi' : X.N[i]? = some y) (hy : Loc X.env.scope y) (hc : X.calm = true) (hi : PI X tg iter wi) (hg : ∀ C s₀ H₀ ex, PG (blk X scope N' C s₀ H₀ ex) tg g) (ht : ∀ C s₀ H₀ ex, PTs (blk X scope N' C s₀ H₀ ex) ifs tt) (he : ∀ C s₀ H₀ ex, PE (blk X scope N' C s₀ H₀ ex) elt te)
    (hsw : swapsWith (.ListComp elt [⟨tg, iter, ifs, 0⟩] scope pos) (some (.Name y py)) spos.line X.env = pure true := by rfl)
    (hs : ∀ x, foldedSetIterable iter X.env x = pure x := by intro _; rfl) (hf : X.fn y = true ∨ X.env.scope.names.lookup y = some .local := by first | exact .inl rfl | exact .inr rfl | assumption) :
    PS X (.Assign [.Name y py] (.ListComp elt [⟨tg, iter, ifs, 0⟩] scope pos) spos) (tAsg (tComp wi ρ m g tt te) (gName i)) := by
  intro pins s σ H D I h
  rw [exec_Assign_Name_used _ _ _ _ hsw]
  refine wpAny_bind (wpAny_standAt (wpAny_bind ?_))
  show wpAny _ X.A (do let _ ← comprehension (.ListComp elt [⟨tg, iter, ifs, 0⟩] scope pos) scope X.env _ (newList []) false (eval iter X.env) (some (assign (.Name y py) X.env))) _ _ s
  refine wpAny_bind (wpAny_mono (wpAny_comprehension_free (use := some (assign (.Name y py) X.env)) (Q := fun _ s' => SP X pins D .next s') rfl hs (closureFor_clo fun x hx hf => I.ok.has x.1 (B.frees x hx hf)) B.kind B.names
    (thn (hi pins s σ H _ I h) fun v s1 h1 => thn h1 fun itv s2 h2 => ?_)) (fun _ s' hq => wpAny_pure (wpAny_pure hq)) fun _ _ e => e)
  obtain ⟨it, fp, tn, J, H2, e, I2, T, st2, f2, hL⟩ := h2
  subst e
  refine blk_run (RR := fun acc C => compPost (model X.prog X.w) X.A X.xe (some (assign (.Name y py) X.env)) (fun _ s' => SP X pins D .next s') acc C) hc B hg ht he I2 T st2 f2 hL fun Dl C H' acc s' mC hns IX fC nD z => ?_
  show wpAny _ X.A (assign (.Name y py) X.env (.ref Dl)) _ _ _
  obtain ⟨oC, es, ep, hoC, hdC, hrC⟩ := id hns
  have IX' : Inv X (pins ++ pinsAt [C] s'.heap) σ (upd H' Dl (.lst acc)) s' := IX.pinned (fp := [C]) (fun b hb => by rw [List.mem_singleton.mp hb]; exact fC) fun b hb => by
    rw [List.mem_singleton.mp hb]
    exact ⟨oC, hoC, fun v q => by rw [hdC] at q; cases q⟩
  refine wpAny_assign_Name (store_ok IX' hN hi' hy (v := .ref Dl) rfl (fun s'' I'' => ?_) hf)
  have pC := I''.pin (C, oC) (List.mem_append_right _ (List.mem_append_right _ (mem_pinsAt (List.mem_singleton.mpr rfl) hoC)))
  refine ⟨mC, ⟨oC, es, ep, pC.1, hdC, hrC⟩, fun h' hs' => ?_⟩
  exact ⟨_, _, I''.unpinned.turned (t' := s''.toks) (it := C) (fun b o hb e => hs'.extBut b o hb e) fC.1 fC.2.1 fC.2.2.2.1 fC.2.2.2.2.1 fC.2.2.2.2.2, z Dl nD⟩
end
end L2

set_option Elab.async false
set_option linter.all false
set_option maxRecDepth 100000
namespace L2
open PySem PySem.Spec PyProof.Rows

/-! ### data -/
mutual
inductive RdD (K : PySem.W.Frag) (H : Hp) : V → PyData → Prop
  | non : RdD K H .non .none
  | bl (b : Bool) : RdD K H (.bl b) (.bool b)
  | int (i : Int) : RdD K H (.int i) (.int i)
  | str (x : Str) : RdD K H (.str x) (.str x)
  | lst {a : Addr} {xs : List V} {ds : List PyData} : SqL K H a xs → RdAll K H xs ds → RdD K H (.ref a) (.list ds)
  | tup {a : Addr} {xs : List V} {ds : List PyData} : SqT K H a xs → RdAll K H xs ds → RdD K H (.ref a) (.tuple ds)
inductive RdAll (K : PySem.W.Frag) (H : Hp) : List V → List PyData → Prop
  | nil : RdAll K H [] []
  | cons {x : V} {xs : List V} {d : PyData} {ds : List PyData} : RdD K H x d → RdAll K H xs ds → RdAll K H (x :: xs) (d :: ds)
end
section
variable {X : Cx} {pins : List (Addr × Obj)} {σ : St} {H : Hp} {s : Shared}
mutual
theorem RdD.reads (I : Inv X pins σ H s) : ∀ {x : V} {d : PyData} {u : Value}, RdD X.K H x d → RelV x u → ∃ as, Reads s.heap u d as
  | _, _, _, .non, r => by cases r; exact ⟨_, .none⟩
  | _, _, _, .bl b, r => by cases r; exact ⟨_, .bool b⟩
  | _, _, _, .int i, r => by obtain ⟨t, rfl⟩ := r; exact ⟨_, .int i t⟩
  | _, _, _, .str x, r => by obtain ⟨t, rfl⟩ := r; exact ⟨_, .str x t⟩
  | _, _, _, .lst h q, r => by
    cases r
    obtain ⟨its, rv, p, _⟩ := I.list h
    obtain ⟨as, ra⟩ := RdAll.reads I q rv
    obtain ⟨o, ho, hc, n, hd⟩ := p.isList
    exact ⟨_, .list ho hc hd (by simpa using ra)⟩
  | _, _, _, .tup h q, r => by
    cases r
    obtain ⟨its, rv, p, _⟩ := I.tuple h
    obtain ⟨as, ra⟩ := RdAll.reads I q rv
    obtain ⟨o, ho, hc, n, hd⟩ := p
    exact ⟨_, .tuple ho hc hd (by simpa using ra)⟩
theorem RdAll.reads (I : Inv X pins σ H s) : ∀ {xs : List V} {ds : List PyData} {us : List Value}, RdAll X.K H xs ds → Vals xs us → ∃ as, ReadsAll s.heap us ds as
  | _, _, _, .nil, .nil => ⟨_, .nil⟩
  | _, _, _, .cons q r, .cons q' r' => by
    obtain ⟨as, ra⟩ := RdD.reads I q q'
    obtain ⟨bs, rb⟩ := RdAll.reads I r r'
    exact ⟨_, .cons ra rb⟩
end
end
section
variable {X : Cx}
/-- repr of a list or tuple -/
def rRepr (K : PySem.W.Frag) : List V → Hp → VK → Prop := fun xs H Q => ∃ a d, xs = [.ref a] ∧ RdD K H (.ref a) d ∧ d.showable = true ∧ d.hasDict = false ∧ d.depth ≤ 60 ∧ d.shown.length ≤ sizeLine ∧ Q (.str d.shown) H
theorem call_repr (hu : X.A.units + 64 < cLine) (hg : X.A.guards = some []) : CallR X (.builtin "repr") (rRepr X.K) := by
  intro pins s σ H xs us Q I r h
  obtain ⟨a, d, rfl, hd, hs, hn, hp, hz, q⟩ := h
  obtain ⟨u, rfl, ru⟩ := vals1 r
  cases ru
  obtain ⟨as, ra⟩ := hd.reads I rfl
  exact repr_of_reads' ra hs (PyData.noDict_hsm hn) hg (by omega) (fun b o e => e) (fun h' u tk k => ⟨.str d.shown, H, I.kept k, ⟨u, rfl⟩, q⟩) hz
/-- () + t is t -/
def rCatT0 (K : PySem.W.Frag) : R2 := fun x y H Q => ∃ a b ys, x = .ref a ∧ y = .ref b ∧ SqT K H a [] ∧ SqT K H b ys ∧ Q (.ref b) H
theorem op_catT0 : OpR X (binaryOp .Add) (rCatT0 X.K) := by
  intro pins s σ H x y v u Q I rx ry h
  obtain ⟨a, b, ys, rfl, rfl, ha, hb, q⟩ := h
  cases rx
  cases ry
  obtain ⟨its, r1, p1, _⟩ := I.tuple ha
  obtain ⟨its2, r2, p2, _⟩ := I.tuple hb
  cases r1
  obtain ⟨⟨cls, dd, data, sl⟩, ho, hc, n, hd⟩ := id p1
  obtain ⟨⟨cls2, dd2, data2, sl2⟩, ho2, hc2, n2, hd2⟩ := id p2
  simp only at hc hd hc2 hd2
  subst hc hd hc2 hd2
  exact concat_meets ⟨_, ho, rfl⟩ ⟨_, ho2, rfl⟩ noFill_tuple_add seq_tuple_add PySem.F.slot_tuple_add PySem.F.entry_tuple_add (PySem.F.args_tuple_add_2 _ _)
    (tuple_addW0 a b _ its2.toArray n n2 dd dd2 sl sl2 rfl) ⟨ho, ho2, ⟨.ref b, H, I, rfl, q⟩⟩
/-- isinstance(x, T), T a built-in type -/
def rIsi (K : PySem.W.Frag) : List V → Hp → VK → Prop := fun xs H Q => ∃ x T t b, xs = [x, .ty T] ∧ TyOf K H x t ∧ PySem.W.kitOne K t (.type T) = some b ∧ Q (.bl b) H
theorem call_isi : CallR X (.builtin "isinstance") (rIsi X.K) := by
  intro pins s σ H xs us Q I r h
  obtain ⟨x, T, t, b, rfl, ht, hk, q⟩ := h
  obtain ⟨u, c, rfl, ru, rc⟩ := vals2 r
  cases (show c = Value.type T from rc)
  exact isinst_ok I ru ht hk fun tk => ⟨.bl b, H, I.tok tk, rfl, q⟩
end

/-! ### a text walked sign by sign -/
section
variable {X : Cx} {tg : Expr}
end
end L2

set_option Elab.async false
set_option linter.all false
set_option maxRecDepth 100000
namespace L2
open PySem PySem.Spec PyProof.Rows

/-! ### a block's facts by one look -/
def relNames (fs scope : Scope) : List (Str × NameKind) := scope.names.map fun (n, k) => if (k == NameKind.free && fs.kind == .function && fs.names.lookup n == some .cell) then (n, NameKind.cell) else (n, k)
def blkB (fs : Scope) (N : List Str) (scope : Scope) (N' : List Str) (ρ : List (Option Nat)) (m : Nat) : Bool :=
  (scope.kind == .function) && scope.names.all (fun x => x.2 != .cell) && scope.names.all (fun x => x.2 != .local || scope.names.lookup x.1 == some .local)
    && scope.names.all (fun x => x.2 != .free || fs.names.lookup x.1 == some .cell || fs.names.lookup x.1 == some .free) && (ρ.length == N'.length)
    && (List.range ρ.length).all fun i => match ρ[i]?, N'[i]? with
      | some (some j), some x => decide (m ≤ i) && N[j]? == some x && scope.names.any (fun y => y.1 == x && y.2 == .free) && (relNames fs scope).lookup x != some .local
      | some (some _), none => false
      | _, _ => true
theorem BlkOk.of {X : Cx} {fs scope : Scope} {N N' : List Str} {ρ : List (Option Nat)} {m : Nat} (hs : X.env.scope = fs) (hN : X.N = N) (h : blkB fs N scope N' ρ m = true) : BlkOk X scope N' ρ m := by
  unfold blkB at h
  simp only [Bool.and_eq_true] at h
  obtain ⟨⟨⟨⟨⟨h1, h2⟩, h3⟩, h4⟩, h5⟩, h6⟩ := h
  have at6 : ∀ (i j : Nat), ρ[i]? = some (some j) → ∃ x, N'[i]? = some x ∧ m ≤ i ∧ N[j]? = some x ∧ (x, NameKind.free) ∈ scope.names ∧ (relNames fs scope).lookup x ≠ some .local := fun i j e => by
    have hi : i < ρ.length := (List.getElem?_eq_some_iff.mp e).1
    have q := List.all_eq_true.mp h6 i (List.mem_range.mpr hi)
    rw [e] at q
    cases e2 : N'[i]? with
    | none => rw [e2] at q; cases q
    | some x =>
      rw [e2] at q
      simp only [Bool.and_eq_true, decide_eq_true_eq, beq_iff_eq, bne_iff_ne, List.any_eq_true] at q
      obtain ⟨⟨⟨q1, q2⟩, ⟨y, hy, q3, q4⟩⟩, q5⟩ := q
      refine ⟨x, rfl, q1, q2, ?_, q5⟩
      obtain ⟨a, b⟩ := y
      simp only at q3 q4
      subst q3 q4
      exact hy
  refine ⟨by simpa using h1, fun x hx => by simpa using List.all_eq_true.mp h2 x hx, fun x hx hl => ?_, fun x hx hf => ?_, by simpa using h5, fun i j e => ?_, fun i j x e e2 => ?_, fun i j x e e2 => ?_⟩
  · have q := List.all_eq_true.mp h3 x hx
    simpa [hl] using q
  · have q := List.all_eq_true.mp h4 x hx
    show X.env.scope.names.lookup x.1 = _ ∨ X.env.scope.names.lookup x.1 = _
    rw [hs]
    simpa [hf] using q
  · obtain ⟨_, _, q, _⟩ := at6 i j e; exact q
  · obtain ⟨y, q1, _, q2, q3, _⟩ := at6 i j e
    rw [e2] at q1; cases q1
    exact ⟨by rw [hN]; exact q2, q3⟩
  · obtain ⟨y, q1, _, _, _, q4⟩ := at6 i j e
    rw [e2] at q1; cases q1
    have e3 : (relabel scope X.env).names = relNames fs scope := by
      unfold relabel relNames Env.kindOf
      rw [hs]
    rw [e3]
    exact q4

/-! ### rules with K written -/
section
variable {X : Cx} {K : PySem.W.Frag}
theorem ix_listK (h : X.K = K) : IxR X (rIxL K) := h ▸ ix_list
theorem ix_tupK (h : X.K = K) : IxR X (rIxT K) := h ▸ ix_tup
theorem pg_tupK {pos : Pos} {es : List Expr} {k : Nat} {t : TGs} {n : Nat} (hK : X.K = K) (hc : X.calm = true) (h : PGs X es t)
    (hn : (assignEach es X.env).length = n := by rfl) (hst : (assignEach es X.env).findIdx? (·.1) = none := by rfl) : PG X (.Tuple es k pos) (gTup K n t) := hK ▸ pg_tup hc h hn hst
end

/-! ### the forms one uses -/
section
variable {m : Nat} {g : TG} {tt : TT} {te : TE} {σ' : St} {Z : List V → Hp → Prop} {H1 : Hp} {K : PySem.W.Frag}
def NxT (n : Nat) (Pv : Nat → List V → Hp → Prop) (i : Nat) (acc : List V) (v : V) (H : Hp) : Prop := acc.length < sizeLine ∧ ∃ k', k' < n - i ∧ (k' = n - (i + 1) ∧ i + 1 ≤ n ∧ (acc ++ [v]).length ≤ i + 1 ∧ Pv (i + 1) (acc ++ [v]) H)
def NxF (n : Nat) (Pv : Nat → List V → Hp → Prop) (i : Nat) (acc : List V) (H : Hp) : Prop := ∃ k', k' < n - i ∧ (k' = n - (i + 1) ∧ i + 1 ≤ n ∧ acc.length ≤ i + 1 ∧ Pv (i + 1) acc H)
theorem nxT {n : Nat} {Pv : Nat → List V → Hp → Prop} {i : Nat} {acc : List V} {v : V} {H : Hp} (hn : n ≤ 1000) (hi : i < n) (hl : acc.length ≤ i) (p : Pv (i + 1) (acc ++ [v]) H) : NxT n Pv i acc v H :=
  ⟨small1000 (by omega), n - (i + 1), by omega, rfl, hi, by rw [List.length_append, List.length_singleton]; omega, p⟩
theorem nxF {n : Nat} {Pv : Nat → List V → Hp → Prop} {i : Nat} {acc : List V} {H : Hp} (hi : i < n) (hl : acc.length ≤ i) (p : Pv (i + 1) acc H) : NxF n Pv i acc H :=
  ⟨n - (i + 1), by omega, rfl, hi, by omega, p⟩
theorem comp_by {J : It} (n : Nat) (hn : n ≤ 1000) (Pv : Nat → List V → Hp → Prop) (h0 : Pv 0 [] H1)
    (hs : ∀ i acc H, i < n → acc.length ≤ i → Pv i acc H → J.go i H ∧ ∀ x H', J.yld i H x H' → g x σ' H' fun σ2 H2 => (σ2.drop m = σ'.drop m ∧ σ2.length = σ'.length) ∧ tt σ2 H2 fun b H3 => if b = true then te σ2 H3 fun v H4 => NxT n Pv i acc v H4 else NxF n Pv i acc H3)
    (hd : ∀ acc H, Pv n acc H → acc.length ≤ n → J.stop n H ∧ Z acc H) : cLoop J m g tt te σ' Z H1 := by
  refine ⟨fun i k acc H => k = n - i ∧ i ≤ n ∧ acc.length ≤ i ∧ Pv i acc H, ⟨n, by simp, Nat.zero_le _, Nat.le_refl _, h0⟩, ?_⟩
  rintro i k acc H ⟨rfl, hi, la, p⟩
  refine ⟨Nat.le_of_lt (small1000 (by omega)), ?_⟩
  by_cases hlt : i < n
  · exact .inr (hs i acc H hlt la p)
  · have e : i = n := by omega
    subst e
    exact .inl (hd acc H p la)
theorem comp_range {lo : Int} (n : Nat) (hn : n ≤ 1000) (Pv : Nat → List V → Hp → Prop) (h0 : Pv 0 [] H1)
    (hs : ∀ i acc H, i < n → acc.length ≤ i → Pv i acc H → g (.int (lo + i)) σ' H fun σ2 H2 => (σ2.drop m = σ'.drop m ∧ σ2.length = σ'.length) ∧ tt σ2 H2 fun b H3 => if b = true then te σ2 H3 fun v H4 => NxT n Pv i acc v H4 else NxF n Pv i acc H3)
    (hd : ∀ acc H, Pv n acc H → acc.length ≤ n → Z acc H) : cLoop (Itr lo n) m g tt te σ' Z H1 :=
  comp_by n hn Pv h0 (fun i acc H hi la p => ⟨hi, fun x H' y => by obtain ⟨e, y⟩ := y; subst e y; exact hs i acc _ hi la p⟩) fun acc H p la => ⟨Nat.le_refl _, hd acc H p la⟩
theorem comp_tup {a : Addr} {xs : List V} (n : Nat) (hz : n = xs.length) (hn : n ≤ 1000) (Pv : Nat → List V → Hp → Prop) (h0 : Pv 0 [] H1) (hq : ∀ i acc H, Pv i acc H → SqT K H a xs)
    (hs : ∀ i acc H x, i < n → acc.length ≤ i → xs[i]? = some x → Pv i acc H → g x σ' H fun σ2 H2 => (σ2.drop m = σ'.drop m ∧ σ2.length = σ'.length) ∧ tt σ2 H2 fun b H3 => if b = true then te σ2 H3 fun v H4 => NxT n Pv i acc v H4 else NxF n Pv i acc H3)
    (hd : ∀ acc H, Pv n acc H → acc.length ≤ n → Z acc H) : cLoop (Itt K a) m g tt te σ' Z H1 :=
  comp_by n hn Pv h0 (fun i acc H hi la p => by
    have hx : xs[i]? = some (xs[i]'(by omega)) := List.getElem?_eq_getElem (by omega)
    exact ⟨⟨xs, _, hq i acc H p, hx⟩, fun x H' y => by obtain ⟨e, y⟩ := y; subst e; exact hs i acc _ x hi la (y xs (hq i acc _ p)) p⟩) fun acc H p la => ⟨⟨xs, hq n acc H p, by omega⟩, hd acc H p la⟩
end
theorem tTrue_i {σ : St} {H : Hp} {A B : Hp → Prop} (h : A H) : tTrue σ H (fun b H3 => if b = true then A H3 else B H3) := by
  show if true = true then A H else B H
  exact iteT h
end L2

set_option Elab.async false
set_option linter.all false
set_option maxRecDepth 100000
namespace PySem
open Sem (wp)
section
variable {prog : Program} {w : World} {A : Around} {E : Value → Shared → Prop} {h : Heap} {g : Array GenState} {d : Drawn} {t : Nat} {os : OsState} {a : Addr} {items : Array Value} {n : Nat} {sl : Array (Option Value)}
end
end PySem

set_option Elab.async false
set_option linter.all false
set_option maxRecDepth 100000
namespace L2
open PySem PySem.Spec PyProof.Rows
section
variable {prog : Program} {w : World} {A : Around} {R : Result → Shared → Prop} {dd it tp : Addr} {items : List Value} {ps : List (Str × Value)}
end
end L2

set_option Elab.async false
set_option linter.all false
set_option maxRecDepth 100000
namespace L2
open PySem PySem.Spec PyProof.Rows
section
variable {X : Cx}
/-- d[k], k a text that is there -/
def rIxD : R2 := fun x y H Q => ∃ p kvs z v, x = .ref p ∧ y = .str z ∧ H p = some (.dK kvs) ∧ (kvs.find? fun kv => decide (kv.1 = Sum.inr z)).map (·.2) = some v ∧ Q v H
theorem kv_find {k : Key} {v : V} : ∀ {kvs : List (Key × V)} {vs : List (Key × Value)}, KV kvs vs → (kvs.find? fun kv => decide (kv.1 = k)).map (·.2) = some v → ∃ u, valueAt vs k = some u ∧ RelV v u
  | _, _, .nil, h => by simp at h
  | _, _, .cons (a := a) (b := b) r t, h => by
    unfold valueAt
    rw [List.find?_cons] at h ⊢
    by_cases e : a.1 = k
    · have e' : b.1 = k := r.1.symm.trans e
      rw [decide_eq_true e] at h
      rw [decide_eq_true e']
      have h' : a.2 = v := by simpa using h
      exact ⟨b.2, rfl, h' ▸ r.2⟩
    · have e' : ¬ b.1 = k := fun z => e (r.1.trans z)
      rw [decide_eq_false e] at h
      rw [decide_eq_false e']
      exact kv_find t h
theorem ix_dict : IxR X rIxD := by
  intro value slice pins s σ H x y v u Q I rx ry h hs
  obtain ⟨p, kvs, z, w', rfl, rfl, hp, hv, q⟩ := h
  cases rx
  obtain ⟨t, rfl⟩ := ry
  obtain ⟨_, _, vs, rel, dd⟩ := (show ObjOk X.prog X.w H s.heap p (.dK kvs) from I.hok p _ hp)
  obtain ⟨u', e, ru⟩ := kv_find rel hv
  have fin : EP X pins σ Q u' { s with toks := s.toks + 1 } := ⟨w', H, I.tok _, ru, q⟩
  exact subscriptTail_builtinR (x := u') dd.typeIs PySem.F.slot_dict_getitem.lookup (wpAny_getItem_of (Q := fun r s' => r = u' ∧ EP X pins σ Q r s') (knd := mixKind X.prog X.w) (k := Sum.inr z) (mixKind_str _ _ _ _) dd.mapOf e ⟨rfl, fin⟩) hs
end
end L2

set_option Elab.async false
set_option linter.all false
set_option maxRecDepth 100000
namespace PySem
open Sem (wp)
section
variable {prog : Program} {w : World} {A : Around} {E : Value → Shared → Prop} {s : Shared}

/-- a tuple's iterator asked once: the item that stands there, or the end -/
theorem nextOf_tup {it t : Addr} {i : Nat} {items : Array Value} {Q : Value → Shared → Prop} (hh : A.handled = none) (hit : s.heap.IsTupleIter it t i) (ht : s.heap.IsTuple t items)
    (hQ : ∀ x, items[i]? = some x → ∀ h', h'.IsTupleIter it t (i + 1) → Heap.SameBut it s.heap h' → Q x { s with heap := h' })
    (hE : items[i]? = none → ∀ h' e, Heap.ExtBut it s.heap h' → (∃ o, h'.get? e = some o ∧ o.cls = .type "StopIteration") → E (.ref e) { s with heap := h' }) :
    wpAny (model prog w) A (Builtin.SmallTypes.nextOf (.ref it)) Q E s := by
  obtain ⟨oi, gi, ci, di⟩ := id hit
  obtain ⟨ot, gt, _, m, dt⟩ := ht
  have sl := F.slot_tuple_iterator_next
  unfold Builtin.SmallTypes.nextOf
  refine wpAny_bind (wpAny_callSpecial?_slot (name := Str.ofString "__next__") hit.typeIs sl (wpAny_call_entry sl hit.typeIs F.entry_tuple_iterator_next ?_ (F.args_tuple_iterator_next_1 _)))
  refine wpAny_bind (m := field (.ref it) 0) (wpAny_field gi di (x := .ref t) rfl ?_)
  have nn : ¬ ((Value.ref t == Value.none) = true) := Bool.false_ne_true
  show wpAny _ _ (if (Value.ref t == Value.none) = true then _ else _) _ _ _
  rw [if_neg nn]
  refine wpAny_bind (m := field (.ref it) 1) (wpAny_field gi di (x := .int i 0) rfl (wpAny_bind (m := seqItems? (.ref t)) (wpAny_seqItems gt dt ?_)))
  cases q : items[i]? with
  | some x =>
    simp only [Int.toNat_natCast, q]
    refine wpAny_bind (wpAny_setField gi di (by simp) (wpAny_pure ⟨x, rfl, wpAny_pure (hQ x q _ ⟨_, Heap.get?_update_self _ gi ?_, ?_, ?_⟩ (Heap.SameBut.update ..))⟩))
    · exact Obj.isFreed_of_fields (Obj.data_mapFields di _)
    · exact (Obj.cls_mapFields ..).trans ci
    · rw [Obj.data_mapFields di]
      simp [rawInt]
  | none =>
    simp only [Int.toNat_natCast, q]
    refine wpAny_bind (wpAny_rule (wpAny_bind (wpAny_setField gi di (by simp) (wpAny_bind (m := newExc (.type "StopIteration") []) ?_))))
    simp only [newExc, newTuple]
    refine wpAny_bind (wpAny_newObj_type (wpAny_bind (m := firstArgMember _ _) (wpAny_of_eq (a := Value.none) (by first | rfl | (simp only [firstArgMember]; rfl)) (wpAny_newObj_type ?_ (by size_fits)))) (by size_fits))
    simp only [raiseNew]
    refine wpAny_bind (wpAny_handled ?_)
    rw [show A.in1.handled = none from hh]
    exact wpAny_bind (wpAny_pure (wpAny_throw (hE q _ _ (((Heap.SameBut.update ..).extBut.push _).push _) ⟨_, Heap.get?_push_size _ rfl, rfl⟩)))
end

theorem Draws.tup {prog : Program} {w : World} {A : Around} (hh : A.handled = none) (it l : Addr) (hne : l ≠ it) (items : Array Value) :
    Draws prog w A it [it, l] items.size (fun i v => items[i]? = some v) (fun i h => h.IsTupleIter it l i ∧ h.IsTuple l items) where
  live := fun _ _ st => let ⟨o, ho, _⟩ := st.1; ⟨o, ho⟩
  frame := fun _ _ _ st hk => ⟨st.1.at fun o e => hk it (by simp) o e, let ⟨o, e, r⟩ := st.2; ⟨o, hk l (by simp) o e, r⟩⟩
  item := fun i s Q E hi st hQ => nextOf_tup hh st.1 st.2 (fun x ex h' st' sb => hQ x h' s.toks ex ⟨st', st.2.extBut sb.extBut hne⟩ sb) fun e => by simp at e; omega
  done := fun s Q E st hE => nextOf_tup hh st.1 st.2 (fun x ex => by simp at ex) fun _ => hE

/-- a list (false) or a tuple (true), and its iterator -/
def ItS (k : Bool) (h : Heap) (it l : Addr) (i : Nat) : Prop := match k with | true => h.IsTupleIter it l i | false => h.IsListIter it l i
def SqS (k : Bool) (h : Heap) (l : Addr) (items : Array Value) : Prop := match k with | true => h.IsTuple l items | false => h.IsList l items
def itObj (k : Bool) (l : Addr) : Obj := { cls := .type (match k with | true => "tuple_iterator" | false => "list_iterator"), data := .fields #[.ref l, .int 0 0] }
theorem ItS.new {k : Bool} {h : Heap} {l a : Addr} (e : h.get? a = some (itObj k l)) : ItS k h a l 0 := by
  cases k with
  | true => exact ⟨_, e, rfl, rfl⟩
  | false => exact ⟨_, e, rfl, rfl⟩
theorem ItS.at {k : Bool} {h h' : Heap} {a l : Addr} {i : Nat} (x : ItS k h a l i) (e : ∀ o, h.get? a = some o → h'.get? a = some o) : ItS k h' a l i := by
  cases k with
  | true => obtain ⟨o, ho, r⟩ := x; exact ⟨o, e _ ho, r⟩
  | false => obtain ⟨o, ho, r⟩ := x; exact ⟨o, e _ ho, r⟩
theorem SqS.at {k : Bool} {h h' : Heap} {a : Addr} {xs : Array Value} (x : SqS k h a xs) (e : ∀ o, h.get? a = some o → h'.get? a = some o) : SqS k h' a xs := by
  cases k with
  | true => obtain ⟨o, ho, r⟩ := x; exact ⟨o, e _ ho, r⟩
  | false => obtain ⟨o, ho, r⟩ := x; exact ⟨o, e _ ho, r⟩
theorem ItS.live {k : Bool} {h : Heap} {a l : Addr} {i : Nat} (x : ItS k h a l i) : ∃ o, h.get? a = some o ∧ ∀ v, o.data ≠ .cell v := by
  cases k with
  | true => obtain ⟨o, ho, c, d⟩ := x; exact ⟨o, ho, fun v z => by rw [d] at z; cases z⟩
  | false => obtain ⟨o, ho, c, d⟩ := x; exact ⟨o, ho, fun v z => by rw [d] at z; cases z⟩
theorem Draws.sq {prog : Program} {w : World} {A : Around} (hh : A.handled = none) (it l : Addr) (hne : l ≠ it) (items : Array Value) (k : Bool) :
    Draws prog w A it [it, l] items.size (fun i v => items[i]? = some v) (fun i h => ItS k h it l i ∧ SqS k h l items) := by
  cases k with
  | true => exact Draws.tup hh it l hne items
  | false => exact Draws.list hh it l hne items
structure ZA (z TI TO i1 i2 : Addr) (f1 f2 : List Addr) : Prop where
  TIz : TI ≠ z
  TOz : TO ≠ z
  i1z : i1 ≠ z
  i2z : i2 ≠ z
  TITO : TI ≠ TO
  TIi1 : TI ≠ i1
  TIi2 : TI ≠ i2
  TOi1 : TO ≠ i1
  TOi2 : TO ≠ i2
  i12 : i1 ≠ i2
  z1 : z ∉ f1
  z2 : z ∉ f2
  t1 : TO ∉ f1
  t2 : TO ∉ f2
  m1 : i1 ∉ f2
  m2 : i2 ∉ f1

section
variable {prog : Program} {w : World} {A : Around} {E : Value → Shared → Prop} {s : Shared}
  {z TI TO i1 i2 : Addr} {f1 f2 : List Addr} {n1 n2 k1 k2 : Nat} {P1 P2 : Nat → Value → Prop} {S1 S2 : Nat → Heap → Prop} {a b : Value}
end
section
variable {prog : Program} {w : World} {A : Around} {E : Value → Shared → Prop} {s : Shared}
  {z TI TO i1 i2 : Addr} {f1 f2 : List Addr} {n1 n2 k1 k2 : Nat} {P1 P2 : Nat → Value → Prop} {S1 S2 : Nat → Heap → Prop} {a b : Value}
end
end PySem

set_option Elab.async false
set_option linter.all false
set_option maxRecDepth 100000
namespace PySem
open Sem (wp)
end PySem

set_option Elab.async false
set_option linter.all false
set_option maxRecDepth 100000
namespace L2
open PySem PySem.Spec PyProof.Rows
/-- a list (false) or a tuple (true) that is read -/
def SqX (k : Bool) (K : PySem.W.Frag) (H : Hp) (a : Addr) (xs : List V) : Prop := match k with | true => SqT K H a xs | false => SqL K H a xs
section
variable {X : Cx} {pins : List (Addr × Obj)} {σ : St} {H : Hp} {s : Shared} {a : Addr} {xs ys : List V} {h' : Heap}
theorem Inv.sq {k : Bool} (I : Inv X pins σ H s) (h : SqX k X.K H a xs) : ∃ its : List Value, Vals xs its ∧ SqS k s.heap a its.toArray ∧ xs.length ≤ sizeLine := by
  cases k with
  | true => obtain ⟨its, r, p, z⟩ := I.tuple h; exact ⟨its, r, p, z⟩
  | false => obtain ⟨its, r, p, z⟩ := I.list h; exact ⟨its, r, p.isList, z⟩
theorem Rd.ne {u : HO} {c : Addr} (r : Rd H a u) (h : H c = none) : a ≠ c := fun e => by
  subst e
  rcases r with r | ⟨o, r⟩ <;> (rw [h] at r; cases r)
/-- several records of ours have turned -/
theorem Inv.turnedL {t' : Nat} {its : List Addr} (I : Inv X pins σ H s) (k : ∀ b o, b ∉ its → s.heap.get? b = some o → h'.get? b = some o) (hf : ∀ b ∈ its, FpOk X pins H b) :
    Inv X pins σ H { s with heap := h', toks := t' } := by
  have nit : ∀ b u, H b = some u → b ∉ its := fun b u e z => by rw [(hf b z).1] at e; cases e
  refine I.step (g' := s.gens) (d' := s.drawn) (ch := its) (fun b hb => ⟨(hf b hb).2.2.2.1, (hf b hb).2.1, (hf b hb).2.2.2.2.1, (hf b hb).2.2.2.2.2⟩) (fun b o _ _ hc e _ => k b o hc e) (fun b o _ _ hc e _ => ⟨o.slots, k b o hc e⟩) (fun _ _ _ _ n => n)
    (fun b o hc e => ⟨o, k b o hc e⟩) (fun _ _ e => e) (fun _ _ _ e => e) (fun b ps e => ⟨#[], by rw [e]; simp⟩) (fun m hm => ?_) (fun b u e => ?_) I.bare
  · obtain ⟨o, es, ep, ho, r⟩ := hm
    exact ⟨o, es, ep, k _ o (fun z => (hf _ z).2.1 rfl) ho, r⟩
  · refine (I.hok b u e).stay (fun c v hc q => k c v ?_ q) (fun _ q => q) fun _ _ q => q
    rcases hc with z | z
    · rw [z]; exact nit b u e
    · exact nit c _ z
end
structure ZN (z TI TO i1 i2 : Addr) : Prop where
  TIz : TI ≠ z
  TOz : TO ≠ z
  i1z : i1 ≠ z
  i2z : i2 ≠ z
  TITO : TI ≠ TO
  TIi1 : TI ≠ i1
  TIi2 : TI ≠ i2
  TOi1 : TO ≠ i1
  TOi2 : TO ≠ i2
  i12 : i1 ≠ i2
theorem ZN.new (n : Nat) : ZN (n + 4 : Nat) (n + 2 : Nat) (n + 3 : Nat) n (n + 1 : Nat) :=
  ⟨show (n + 2 : Nat) ≠ (n + 4 : Nat) by omega, show (n + 3 : Nat) ≠ (n + 4 : Nat) by omega, show (n : Nat) ≠ (n + 4 : Nat) by omega, show (n + 1 : Nat) ≠ (n + 4 : Nat) by omega, show (n + 2 : Nat) ≠ (n + 3 : Nat) by omega, show (n + 2 : Nat) ≠ n by omega, show (n + 2 : Nat) ≠ (n + 1 : Nat) by omega, show (n + 3 : Nat) ≠ n by omega, show (n + 3 : Nat) ≠ (n + 1 : Nat) by omega, show (n : Nat) ≠ (n + 1 : Nat) by omega⟩
section
variable {X : Cx}
end
end L2

set_option Elab.async false
set_option linter.all false
set_option maxRecDepth 100000
namespace L2
open PySem PySem.Spec PyProof.Rows
/-! ### lists of pairs as tables -/
section
variable {κ : Type} [DecidableEq κ]
def valV (kvs : List (κ × V)) (k : κ) : Option V := (kvs.find? fun kv => decide (kv.1 = k)).map (·.2)
/-- in its place, or at the end -/
def putK (kvs : List (κ × V)) (k : κ) (v : V) : List (κ × V) :=
  if (kvs.any fun kv => decide (kv.1 = k)) = true then kvs.map (fun kv => if kv.1 = k then (kv.1, v) else kv) else kvs ++ [(k, v)]
def dropK (kvs : List (κ × V)) (k : κ) : List (κ × V) := kvs.filter fun kv => decide (kv.1 ≠ k)

theorem valV_pos {p : κ × V} {r : List (κ × V)} {k : κ} (e : p.1 = k) : valV (p :: r) k = some p.2 := by simp [valV, List.find?_cons, e]
theorem valV_neg {p : κ × V} {r : List (κ × V)} {k : κ} (e : ¬ p.1 = k) : valV (p :: r) k = valV r k := by simp [valV, List.find?_cons, e]
theorem valV_any (k : κ) : ∀ kvs : List (κ × V), (kvs.any fun kv => decide (kv.1 = k)) = (valV kvs k).isSome
  | [] => rfl
  | p :: r => by
    rw [List.any_cons]
    by_cases e : p.1 = k
    · simp only [valV_pos e, decide_eq_true e, Bool.true_or, Option.isSome_some]
    · rw [valV_neg e, decide_eq_false e, Bool.false_or]; exact valV_any k r
theorem length_putK (kvs : List (κ × V)) (k : κ) (v : V) : (putK kvs k v).length ≤ kvs.length + 1 := by
  unfold putK
  split
  · rw [List.length_map]; omega
  · rw [List.length_append, List.length_cons, List.length_nil]; omega
theorem RelO.isSome_eq {o : Option V} {u : Option Value} (r : RelO o u) : o.isSome = u.isSome := by
  cases o with
  | none => cases u with
    | none => rfl
    | some _ => exact (show False from r).elim
  | some _ => cases u with
    | none => exact (show False from r).elim
    | some _ => rfl
theorem RelO.getD {o : Option V} {u : Option Value} {d : V} {d' : Value} (r : RelO o u) (rd : RelV d d') : RelV (o.getD d) (u.getD d') := by
  cases o with
  | none => cases u with
    | none => exact rd
    | some _ => exact (show False from r).elim
  | some _ => cases u with
    | none => exact (show False from r).elim
    | some _ => exact r

/-- raw tables of the same keys -/
theorem KV.val {kvs : List (κ × V)} {vs : List (κ × Value)} (r : KV kvs vs) (k : κ) : RelO (valV kvs k) (valueAt vs k) := by
  unfold KV at r
  induction r with
  | nil => exact True.intro
  | @cons p q ps qs h t ih =>
    obtain ⟨h1, h2⟩ := h
    by_cases e : p.1 = k
    · have e' : q.1 = k := h1.symm.trans e
      have b : valueAt (q :: qs) k = some q.2 := by simp [valueAt, List.find?_cons, e']
      rw [valV_pos e, b]; exact h2
    · have e' : ¬ q.1 = k := fun z => e (h1.trans z)
      have b : valueAt (q :: qs) k = valueAt qs k := by simp [valueAt, List.find?_cons, e']
      rw [valV_neg e, b]; exact ih
theorem KV.any {kvs : List (κ × V)} {vs : List (κ × Value)} (r : KV kvs vs) (k : κ) : (kvs.any fun kv => decide (kv.1 = k)) = vs.any fun kv => decide (kv.1 = k) := by
  unfold KV at r
  induction r with
  | nil => rfl
  | cons h t ih => rw [List.any_cons, List.any_cons, ih, h.1]
theorem KV.repl {kvs : List (κ × V)} {vs : List (κ × Value)} (r : KV kvs vs) (k : κ) {y : V} {u : Value} (ry : RelV y u) :
    KV (kvs.map fun kv => if kv.1 = k then (kv.1, y) else kv) (vs.map fun kv => if kv.1 = k then (kv.1, u) else kv) := by
  unfold KV at r ⊢
  induction r with
  | nil => exact .nil
  | @cons p q ps qs h t ih =>
    rw [List.map_cons, List.map_cons]
    refine .cons ?_ ih
    obtain ⟨h1, h2⟩ := h
    by_cases e : p.1 = k
    · rw [if_pos e, if_pos (h1.symm.trans e)]; exact ⟨h1, ry⟩
    · rw [if_neg e, if_neg (fun z => e (h1.trans z))]; exact ⟨h1, h2⟩
theorem KV.put {kvs : List (κ × V)} {vs : List (κ × Value)} (r : KV kvs vs) (k : κ) {y : V} {u : Value} (ry : RelV y u) : KV (putK kvs k y) (stored vs k u) := by
  unfold putK stored
  rw [r.any k]
  by_cases e : (vs.any fun kv => decide (kv.1 = k)) = true
  · rw [if_pos e, if_pos e]; exact r.repl k ry
  · rw [if_neg e, if_neg e]; exact Paired.snoc r ⟨rfl, ry⟩
theorem KV.drop {kvs : List (κ × V)} {vs : List (κ × Value)} (r : KV kvs vs) (k : κ) : KV (dropK kvs k) (without vs k) := by
  unfold KV at r ⊢
  unfold dropK without
  induction r with
  | nil => exact .nil
  | @cons p q ps qs h t ih =>
    obtain ⟨h1, h2⟩ := h
    rw [List.filter_cons, List.filter_cons]
    by_cases e : p.1 = k
    · have a : ¬ decide (p.1 ≠ k) = true := by simp [e]
      have b : ¬ decide (q.1 ≠ k) = true := by simp [h1.symm.trans e]
      rw [if_neg a, if_neg b]; exact ih
    · have e' : ¬ q.1 = k := fun z => e (h1.trans z)
      have a : decide (p.1 ≠ k) = true := by simp [e]
      have b : decide (q.1 ≠ k) = true := by simp [e']
      rw [if_pos a, if_pos b]; exact .cons ⟨h1, h2⟩ ih
theorem KV.keys {kvs : List (κ × V)} {vs : List (κ × Value)} (r : KV kvs vs) : kvs.map (·.1) = vs.map (·.1) := by
  unfold KV at r
  induction r with
  | nil => rfl
  | cons h t ih => rw [List.map_cons, List.map_cons, ih, h.1]
theorem KV.length {kvs : List (κ × V)} {vs : List (κ × Value)} (r : KV kvs vs) : kvs.length = vs.length := Paired.length r
end


/-! ### a tracked dict, its keys ints and texts or tuples of these -/
theorem kV_is {P : Program} {w : World} {k : Key} {u : Value} (r : RelV (kV k) u) : (mixKind P w).is k u = true := by
  cases k with
  | inl i => obtain ⟨t, e⟩ := (show ∃ t, u = Value.int i t from r); subst e; exact mixKind_int P w i t
  | inr x => obtain ⟨t, e⟩ := (show ∃ t, u = Value.str x t from r); subst e; exact mixKind_str P w x t
theorem items_are {P : Program} {w : World} : ∀ {ks : List Key} {us : List Value}, Vals (ks.map kV) us → ItemsAre (mixKind P w) ks us
  | [], _, r => by rw [List.map_nil] at r; cases r; exact .nil
  | k :: ks, _, r => by
    rw [List.map_cons] at r
    cases r with
    | cons h t => exact .cons (kV_is h) (items_are t)

/-- raw entries of a dict with tuple keys -/
abbrev KT (H : Hp) : List (List Key × V) → List (List Key × Addr × Value) → Prop := Paired fun p q => p.1 = q.1 ∧ H q.2.1 = some (.tup (p.1.map kV)) ∧ RelV p.2 q.2.2
theorem KT.val {H : Hp} {kvs : List (List Key × V)} {xs : List (List Key × Addr × Value)} (r : KT H kvs xs) (k : List Key) : RelO (valV kvs k) ((atKey xs k).map (·.2)) := by
  induction r with
  | nil => exact True.intro
  | @cons p q ps qs h t ih =>
    obtain ⟨h1, _, h2⟩ := h
    by_cases e : p.1 = k
    · have e' : q.1 = k := h1.symm.trans e
      have b : atKey (q :: qs) k = some q.2 := by simp [atKey, List.find?_cons, e']
      rw [valV_pos e, b]; exact h2
    · have e' : ¬ q.1 = k := fun z => e (h1.trans z)
      have b : atKey (q :: qs) k = atKey qs k := by simp [atKey, List.find?_cons, e']
      rw [valV_neg e, b]; exact ih
theorem KT.repl {H : Hp} {kvs : List (List Key × V)} {xs : List (List Key × Addr × Value)} (r : KT H kvs xs) (k : List Key) {y : V} {u : Value} (ry : RelV y u) :
    KT H (kvs.map fun kv => if kv.1 = k then (kv.1, y) else kv) (xs.map (putAt k u)) := by
  induction r with
  | nil => exact .nil
  | @cons p q ps qs h t ih =>
    rw [List.map_cons, List.map_cons]
    refine .cons ?_ ih
    obtain ⟨h1, h2, h3⟩ := h
    unfold putAt
    by_cases e : p.1 = k
    · rw [if_pos e, if_pos (h1.symm.trans e)]; exact ⟨h1, h2, ry⟩
    · rw [if_neg e, if_neg (fun z => e (h1.trans z))]; exact ⟨h1, h2, h3⟩
theorem KT.put {H : Hp} {kvs : List (List Key × V)} {xs : List (List Key × Addr × Value)} (r : KT H kvs xs) (k : List Key) {b : Addr} {y : V} {u : Value} (hb : H b = some (.tup (k.map kV))) (ry : RelV y u) :
    KT H (putK kvs k y) (storedH xs k b u) := by
  have e : (kvs.any fun kv => decide (kv.1 = k)) = (atKey xs k).isSome := by
    rw [valV_any, (r.val k).isSome_eq, Option.isSome_map]
  unfold putK storedH
  rw [e]
  by_cases q : (atKey xs k).isSome = true
  · rw [if_pos q, if_pos q]; exact r.repl k ry
  · rw [if_neg q, if_neg q]; exact Paired.snoc r ⟨rfl, hb, ry⟩
theorem KT.keeps {H H' : Hp} {kvs : List (List Key × V)} {xs : List (List Key × Addr × Value)} (r : KT H kvs xs) (ht : ∀ b ys, H b = some (.tup ys) → H' b = some (.tup ys)) : KT H' kvs xs :=
  Paired.mapP r fun _ _ z => ⟨z.1, ht _ _ z.2.1, z.2.2⟩

section
variable {P : Program} {w : World} {H : Hp} {h : Heap} {a : Addr}
theorem rd_of {u : HO} (ok : HOk P w H h) (e : Rd H a u) : ObjOk P w H h a u := e.ok ok
theorem dk_rd {kvs : List (Key × V)} (ok : HOk P w H h) (e : Rd H a (.dK kvs)) : kvs.length ≤ sizeLine ∧ (a == sysModules) = false ∧ ∃ vs, KV kvs vs ∧ h.DictOf (mixKind P w) a vs :=
  show ObjOk P w H h a (.dK kvs) from rd_of ok e
theorem dk_of {kvs : List (Key × V)} (ok : HOk P w H h) (e : H a = some (.dK kvs)) : kvs.length ≤ sizeLine ∧ (a == sysModules) = false ∧ ∃ vs, KV kvs vs ∧ h.DictOf (mixKind P w) a vs := dk_rd ok (.inl e)
/-- a tracked tuple of ints and texts is a key -/
theorem key_of {ks : List Key} (ok : HOk P w H h) (e : H a = some (.tup (ks.map kV))) : (tupleKind (mixKind P w)).is h ks a := by
  obtain ⟨_, its, r, ⟨o, h1, h2, n, h3⟩, _⟩ := (show ObjOk P w H h a (.tup (ks.map kV)) from ok a _ e)
  exact ⟨o, its.toArray, n, h1, h2, h3, by simpa using items_are r⟩
theorem dt_rd {kvs : List (List Key × V)} (ok : HOk P w H h) (e : Rd H a (.dT kvs)) : kvs.length ≤ sizeLine ∧ (a == sysModules) = false ∧
    ∃ xs, KT H kvs xs ∧ h.DictOfH (tupleKind (mixKind P w)) a xs := by
  obtain ⟨z, y, xs, r, o, es, ep, h1, h2, h3, h4, h5⟩ := (show ObjOk P w H h a (.dT kvs) from rd_of ok e)
  refine ⟨z, y, xs, r, o, es, ep, h1, h2, h3, h4, fun x hx => ?_, h5⟩
  have all : ∀ {l : List (List Key × V)} {m : List (List Key × Addr × Value)}, KT H l m → ∀ x ∈ m, (tupleKind (mixKind P w)).is h x.1 x.2.1 := by
    intro l m q
    induction q with
    | nil => intro x hx; exact nomatch hx
    | @cons p q ps qs hq t ih =>
      intro x hx
      rcases List.mem_cons.mp hx with e | hx
      · subst e
        exact key_of ok (by rw [← hq.1]; exact hq.2.1)
      · exact ih x hx
  exact all r x hx
theorem dt_of {kvs : List (List Key × V)} (ok : HOk P w H h) (e : H a = some (.dT kvs)) : kvs.length ≤ sizeLine ∧ (a == sysModules) = false ∧
    ∃ xs, KT H kvs xs ∧ h.DictOfH (tupleKind (mixKind P w)) a xs := dt_rd ok (.inl e)
end

/-- what the dict at a holds at the key y -/
def DGet (H : Hp) (a : Addr) (y : V) (r : Option V) : Prop :=
  (∃ kvs k, Rd H a (.dK kvs) ∧ y = kV k ∧ r = valV kvs k) ∨ ∃ kvs k b, Rd H a (.dT kvs) ∧ y = .ref b ∧ H b = some (.tup (k.map kV)) ∧ r = valV kvs k
/-- the heap behind a[y] = v -/
def DPut (H : Hp) (a : Addr) (y v : V) (H' : Hp) : Prop :=
  (∃ kvs k, H a = some (.dK kvs) ∧ y = kV k ∧ kvs.length < sizeLine ∧ H' = upd H a (.dK (putK kvs k v))) ∨
  ∃ kvs k b, H a = some (.dT kvs) ∧ y = .ref b ∧ H b = some (.tup (k.map kV)) ∧ kvs.length < sizeLine ∧ H' = upd H a (.dT (putK kvs k v))
theorem DGet.k {H : Hp} {a : Addr} {kvs : List (Key × V)} {k : Key} (e : H a = some (.dK kvs)) : DGet H a (kV k) (valV kvs k) := .inl ⟨kvs, k, .inl e, rfl, rfl⟩
theorem DGet.t {H : Hp} {a b : Addr} {kvs : List (List Key × V)} {k : List Key} (e : H a = some (.dT kvs)) (eb : H b = some (.tup (k.map kV))) : DGet H a (.ref b) (valV kvs k) := .inr ⟨kvs, k, b, .inl e, rfl, eb, rfl⟩
theorem DPut.k {H : Hp} {a : Addr} {kvs : List (Key × V)} {k : Key} {v : V} (e : H a = some (.dK kvs)) (hl : kvs.length < sizeLine) : DPut H a (kV k) v (upd H a (.dK (putK kvs k v))) := .inl ⟨kvs, k, e, rfl, hl, rfl⟩
theorem DPut.t {H : Hp} {a b : Addr} {kvs : List (List Key × V)} {k : List Key} {v : V} (e : H a = some (.dT kvs)) (eb : H b = some (.tup (k.map kV))) (hl : kvs.length < sizeLine) :
    DPut H a (.ref b) v (upd H a (.dT (putK kvs k v))) := .inr ⟨kvs, k, b, e, rfl, eb, hl, rfl⟩


section
variable {X : Cx} {pins : List (Addr × Obj)} {σ : St} {H : Hp} {s : Shared} {a : Addr} {y v : V} {u r : Value} {o : Option V} {A : Around} {E : Value → Shared → Prop}

theorem Inv.big (I : Inv X pins σ H s) : sysModules < s.heap.objs.size := by
  have h : mainGlobals < s.heap.objs.size := (I.mod.glob.keeps I.bk).lt
  exact Nat.lt_trans (by decide) h

/-- a dict's object is replaced -/
theorem d_write {h' : Heap} {t' : Nat} {ob : HO} (I : Inv X pins σ H s) (mu : Mut (H a)) (hs : Heap.SameBut a s.heap h') (he : ∃ q, h'.get? a = some q) (new : ObjOk X.prog X.w (upd H a ob) h' a ob) :
    Inv X pins σ (upd H a ob) { s with heap := h', toks := t' } :=
  I.write (x := a) (e := a) mu (.inl rfl) (fun b q hb z => (hs.2 b hb).trans z) he new
theorem dk_new {P : Program} {w : World} {H' : Hp} {h' : Heap} {kvs : List (Key × V)} {vs : List (Key × Value)} (z : kvs.length ≤ sizeLine) (hd : (a == sysModules) = false) (rel : KV kvs vs) (dd : h'.DictOf (mixKind P w) a vs) :
    ObjOk P w H' h' a (.dK kvs) := ⟨z, hd, vs, rel, dd⟩
/-- d[y] = v -/
theorem d_setItem {H' : Hp} {Q : Unit → Shared → Prop} (hu : A.units + 1 < cLine) (I : Inv X pins σ H s) (g : DPut H a y v H') (ry : RelV y u) (rv : RelV v r) (h : ∀ s', Inv X pins σ H' s' → Q () s') :
    wpAny (model X.prog X.w) A (setItem (.ref a) u r) Q E s := by
  rcases g with ⟨kvs, k, e, ey, l, eH⟩ | ⟨kvs, k, b, e, ey, eb, l, eH⟩
  · subst ey eH
    obtain ⟨z, hd, vs, rel, dd⟩ := dk_of I.hok e
    have hz : vs.length ≤ sizeLine := by rw [← rel.length]; exact z
    have hl : (putK kvs k v).length ≤ sizeLine := by have := length_putK kvs k v; omega
    refine wpAny_setItem_pairs (hsz := hz) (kV_is ry) dd fun h' dd' hs => h _ ?_
    have he : ∃ q, h'.get? a = some q := let ⟨q, _, _, hq, _⟩ := dd'; ⟨q, hq⟩
    exact d_write I (by rw [e]; exact True.intro) hs he (dk_new hl hd (rel.put k rv) dd')
  · subst ey eH
    cases (show u = Value.ref b from ry)
    obtain ⟨z, hd, xs, rel, dd⟩ := dt_of I.hok e
    have hz : xs.length ≤ sizeLine := by rw [← Paired.length rel]; exact z
    have hl : (putK kvs k v).length ≤ sizeLine := by have := length_putK kvs k v; omega
    refine wpAny_setItem_heap (hsz := hz) (tupleKind_room_in1 hu) (key_of I.hok eb) dd fun h' dd' hs => h _ ?_
    obtain ⟨q, es, ep, hq, h2, h3, h4, _, h5⟩ := dd'
    refine d_write I (by rw [e]; exact True.intro) hs ⟨q, hq⟩ ⟨hl, hd, _, (rel.put k eb rv).keeps fun c ys ec => ?_, q, es, ep, hq, h2, h3, h4, h5⟩
    rw [upd_ne (ne_of ec e (fun z => nomatch z))]
    exact ec
end

section
variable {X : Cx} {pins : List (Addr × Obj)} {σ : St} {H : Hp} {s : Shared} {a : Addr} {kvs : List (Key × V)} {k : Key} {u : Value} {A : Around} {E : Value → Shared → Prop}
end


/-! ### readings and rules -/
/-- d[y] = v -/
def sDPut (td ty tv : TE) : TS := fun D σ H => tv σ H fun v H1 => td σ H1 fun x H2 => ty σ H2 fun y H3 => ∃ a H4, x = .ref a ∧ DPut H3 a y v H4 ∧ D.nx σ H4
section
variable {X : Cx} {o i e value : Expr} {pos pos' tpos : Pos} {td ty tv : TE}
theorem ps_dput (hu : X.A.units + 1 < cLine) (ho : PE X o td) (hi : PE X i ty) (hv : PE X value tv) (hs : swapsWith value (some (.Subscript o i pos')) pos.line X.env = pure false) :
    PS X (.Assign [.Subscript o i pos'] value pos) (sDPut td ty tv) := by
  intro pins s σ H D I h
  refine wpAny_Assign_Subscript (thn (hv pins s σ H _ I h) fun r s1 ⟨v, H1, I1, rv, q1⟩ => thn (ho pins s1 σ H1 _ I1 q1) fun u s2 ⟨x, H2, I2, rx, q2⟩ => thn (hi pins s2 σ H2 _ I2 q2) fun iv s3 ⟨y, H3, I3, ry, a, H4, ex, g, q3⟩ => ?_) hs
  subst ex
  obtain rfl : u = Value.ref a := rx
  exact d_setItem hu I3 g ry rv fun s4 I4 => ⟨σ, H4, I4, q3⟩
end


/-! ### displays -/
theorem dk_empty {P : Program} {w : World} {H : Hp} (h : Heap) (hb : sysModules < h.objs.size) : ObjOk P w H (h.push { cls := .type "dict", data := .dict #[] }) h.objs.size (.dK []) :=
  ⟨Nat.zero_le _, beq_eq_false_iff_ne.mpr (Ne.symm (Nat.ne_of_lt hb)), [], .nil, Heap.DictOf.new h⟩
section
variable {X : Cx} {pos : Pos}
end

/-- the pairs of a display, from the left -/
def tPairs : List (TE × TE) → St → Hp → (List (V × V) → Hp → Prop) → Prop
  | [], _, H, Q => Q [] H
  | (tk, tv) :: r, σ, H, Q => tk σ H fun x H1 => tv σ H1 fun y H2 => tPairs r σ H2 fun ps H3 => Q ((x, y) :: ps) H3
abbrev VV : List (V × V) → List (Value × Value) → Prop := Paired fun p q => RelV p.1 q.1 ∧ RelV p.2 q.2
def PPs (X : Cx) (pos : Pos) (keys : List (Option Expr)) (values : List Expr) (trs : List (TE × TE)) : Prop :=
  ∀ (pins : List (Addr × Obj)) (s : Shared) (σ : St) (H : Hp) (Q : List (V × V) → Hp → Prop), Inv X pins σ H s → tPairs trs σ H Q →
    wpAny (model X.prog X.w) X.A (evalPairs (pairTrees keys values X.env pos)) (fun vs s' => ∃ ps H', Inv X pins σ H' s' ∧ VV ps vs ∧ Q ps H') X.xe s
theorem pps_nil {X : Cx} {pos : Pos} : PPs X pos [] [] [] := fun pins s σ H Q I h => pairTrees_nil_walk ⟨[], H, I, .nil, h⟩
theorem pps_cons {X : Cx} {pos : Pos} {k v : Expr} {ks : List (Option Expr)} {vs : List Expr} {tk tv : TE} {trs : List (TE × TE)} (hk : PE X k tk) (hv : PE X v tv) (hr : PPs X pos ks vs trs) :
    PPs X pos (some k :: ks) (v :: vs) ((tk, tv) :: trs) := fun pins s σ H Q I h =>
  pairTrees_cons_walk (thn (hk pins s σ H _ I h) fun u s1 ⟨x, H1, I1, rx, q1⟩ => thn (hv pins s1 σ H1 _ I1 q1) fun w2 s2 ⟨y, H2, I2, ry, q2⟩ =>
    thn (hr pins s2 σ H2 _ I2 q2) fun ws s3 ⟨ps, H3, I3, rel, q3⟩ => ⟨(x, y) :: ps, H3, I3, .cons ⟨rx, ry⟩ rel, q3⟩)

def mergeK (kvs more : List (Key × V)) : List (Key × V) := more.foldl (fun acc kv => putK acc kv.1 kv.2) kvs
theorem KV.merge : ∀ {more : List (Key × V)} {rs : List (Key × Value)} {kvs : List (Key × V)} {vs : List (Key × Value)}, KV more rs → KV kvs vs → KV (mergeK kvs more) (merged vs rs) := by
  intro more rs kvs vs r
  unfold KV at r
  induction r generalizing kvs vs with
  | nil => intro q; exact q
  | @cons p q ps qs h t ih =>
    intro r0
    have e : KV (putK kvs p.1 p.2) (stored vs q.1 q.2) := by
      have := r0.put p.1 h.2
      rw [← h.1]; exact this
    exact ih e
theorem length_mergeK : ∀ (more kvs : List (Key × V)), (mergeK kvs more).length ≤ kvs.length + more.length
  | [], kvs => by show kvs.length ≤ kvs.length + 0; omega
  | p :: r, kvs => by
    have h1 := length_mergeK r (putK kvs p.1 p.2)
    have h2 := length_putK kvs p.1 p.2
    show (mergeK (putK kvs p.1 p.2) r).length ≤ _
    rw [List.length_cons]; omega
theorem carries_of {P : Program} {w : World} : ∀ {kvs : List (Key × V)} {ws : List (Value × Value)}, VV (kvs.map fun kv => (kV kv.1, kv.2)) ws → ∃ rs, Carries (mixKind P w) ws rs ∧ KV kvs rs
  | [], _, r => by rw [List.map_nil] at r; cases r; exact ⟨[], True.intro, .nil⟩
  | p :: kvs, _, r => by
    rw [List.map_cons] at r
    cases r with
    | @cons a b as bs h t =>
      obtain ⟨rs, c, q⟩ := carries_of (P := P) (w := w) t
      obtain ⟨b1, b2⟩ := b
      exact ⟨(p.1, b2) :: rs, ⟨kV_is h.1, rfl, c⟩, .cons ⟨rfl, h.2⟩ q⟩
/-- {k: v, ..} with keys ints and texts; the new dict stands empty while the pairs are made -/
def tDisp (trs : List (TE × TE)) : TE := fun σ H Q => ∀ p, H p = none → tPairs trs σ (upd H p (.dK [])) fun ps H2 => H2 p = some (.dK []) ∧ ∃ kvs : List (Key × V), ps = kvs.map (fun kv => (kV kv.1, kv.2)) ∧ kvs.length ≤ 15 ∧ Q (.ref p) (upd H2 p (.dK (mergeK [] kvs)))
theorem pe_disp {X : Cx} {pos : Pos} {keys : List (Option Expr)} {values : List Expr} {trs : List (TE × TE)} (h : PPs X pos keys values trs) (hall : keys.all (·.isSome) = true) (hl : keys.length = values.length) (h0 : keys ≠ [])
    (h15 : keys.length ≤ 15) : PE X (.Dict keys values pos) (tDisp trs) := by
  intro pins s σ H Q I q
  have hn := I.hok.fresh (Nat.le_refl s.heap.objs.size)
  have I1 := I.laid (a := s.heap.objs.size) (o := .dK []) (h' := s.heap.push { cls := .type "dict", data := .dict #[] }) (t' := s.toks) (fun _ _ q => Heap.get?_push_of_some _ q) (Nat.le_refl _) (dk_empty s.heap I.big)
  refine wpAny_Dict_walk (knd := mixKind X.prog X.w) hall hl h0 h15 (thn (h pins _ σ _ _ I1 (q _ hn)) fun ws s2 ⟨ps, H2, I2, rel, e, kvs, ep, lk, q2⟩ => ?_)
  subst ep
  obtain ⟨rs, c, rk⟩ := carries_of (P := X.prog) (w := X.w) rel
  obtain ⟨z, hd, vs0, r0, dd⟩ := dk_of I2.hok e
  cases r0
  refine ⟨rs, c, dd, fun h' dd' hs => ⟨.ref s.heap.objs.size, _, ?_, rfl, q2⟩⟩
  have hz : (mergeK [] kvs).length ≤ sizeLine := by
    have h1 := length_mergeK kvs []
    rw [List.length_nil] at h1
    rw [sizeLine_eq]; omega
  have he : ∃ q, h'.get? s.heap.objs.size = some q := let ⟨q, _, _, hq, _⟩ := dd'; ⟨q, hq⟩
  exact d_write I2 (by rw [e]; exact True.intro) hs he (dk_new hz hd (rk.merge .nil) dd')


/-! ### methods -/
/-- a method call o.m(e) of a built-in, with one argument: what must be seen of the text -/
structure M1 (X : Cx) (o : Expr) (m : Str) (apos : Pos) (e : Expr) (cpos : Pos) : Prop where
  base : attributeBase o m X.env (eval o X.env) = eval o X.env
  few : ((backTo cpos (starEach [e] X.env)).all (fun x => !x.1) && (backToKw cpos (keywordEach [] X.env)).all (fun x => x.1.isSome)
    && decide (([e] : List Expr).length + ([] : List Keyword).length + (if ([] : List Keyword).isEmpty then 0 else 1) < 30)) = true
  line : (apos.endLine == cpos.line) = true
  trees : backTo cpos (starEach [e] X.env) = [(false, eval e X.env)]
structure M2 (X : Cx) (o : Expr) (m : Str) (apos : Pos) (e f : Expr) (cpos : Pos) : Prop where
  base : attributeBase o m X.env (eval o X.env) = eval o X.env
  few : ((backTo cpos (starEach [e, f] X.env)).all (fun x => !x.1) && (backToKw cpos (keywordEach [] X.env)).all (fun x => x.1.isSome)
    && decide (([e, f] : List Expr).length + ([] : List Keyword).length + (if ([] : List Keyword).isEmpty then 0 else 1) < 30)) = true
  line : (apos.endLine == cpos.line) = true
  trees : backTo cpos (starEach [e, f] X.env) = [(false, eval e X.env), (false, eval f X.env)]

section
variable {X : Cx} {pins : List (Addr × Obj)} {σ : St} {H : Hp} {s : Shared} {a : Addr} {y d : V} {u r : Value} {o : Option V} {A : Around} {E : Value → Shared → Prop}
end

section
variable {X : Cx} {o e f : Expr} {apos cpos : Pos} {td ty tx : TE}
end

/-! ### dict(d): a copy -/
section
variable {X : Cx} {pins : List (Addr × Obj)} {σ : St} {H : Hp} {s : Shared} {a : Addr} {kvs : List (Key × V)} {A : Around} {E : Value → Shared → Prop}
end


section
variable {X : Cx} {pins : List (Addr × Obj)} {σ : St} {H : Hp} {s : Shared} {a : Addr} {y : V} {u : Value} {A : Around} {E : Value → Shared → Prop}
end
section
variable {X : Cx}
end
/-! ### a dict's pairs: keys that differ -/
section
variable {κ : Type} [DecidableEq κ]
end
end L2

set_option Elab.async false
set_option linter.all false
set_option maxRecDepth 100000
set_option maxHeartbeats 2000000
/-! more rules: comprehensions over lists and zips, any, // by numbers below 2 ** 64, a module's dict of texts, ways that meet -/
namespace L2
open PySem PySem.Spec PyProof.Rows
section
variable {m : Nat} {g : TG} {tt : TT} {te : TE} {σ' : St} {Z : List V → Hp → Prop} {H1 : Hp} {K : PySem.W.Frag}
theorem comp_list {a : Addr} {xs : List V} (n : Nat) (hz : n = xs.length) (hn : n ≤ 1000) (Pv : Nat → List V → Hp → Prop) (h0 : Pv 0 [] H1) (hq : ∀ i acc H, Pv i acc H → SqL K H a xs)
    (hs : ∀ i acc H x, i < n → acc.length ≤ i → xs[i]? = some x → Pv i acc H → g x σ' H fun σ2 H2 => (σ2.drop m = σ'.drop m ∧ σ2.length = σ'.length) ∧ tt σ2 H2 fun b H3 => if b = true then te σ2 H3 fun v H4 => NxT n Pv i acc v H4 else NxF n Pv i acc H3)
    (hd : ∀ acc H, Pv n acc H → acc.length ≤ n → Z acc H) : cLoop (Itl K a) m g tt te σ' Z H1 :=
  comp_by n hn Pv h0 (fun i acc H hi la p => by
    have hx : xs[i]? = some (xs[i]'(by omega)) := List.getElem?_eq_getElem (by omega)
    exact ⟨⟨xs, _, hq i acc H p, hx⟩, fun x H' y => by obtain ⟨e, y⟩ := y; subst e; exact hs i acc _ x hi la (y xs (hq i acc _ p)) p⟩) fun acc H p la => ⟨⟨xs, hq n acc H p, by omega⟩, hd acc H p la⟩
end
section
variable {X : Cx}
end
theorem seq_join {t u : L2.TS} {D : Ends} {σ : St} {H : Hp} (J : St → Hp → Prop) (h1 : ∀ NX : St → Hp → Prop, (∀ σ H, J σ H → NX σ H) → t { D with nx := NX } σ H) (h2 : ∀ σ H, J σ H → u D σ H) : tSeq t u D σ H := h1 _ h2
end L2
namespace L2
open PySem PySem.Spec PyProof.Rows
section
variable {X : Cx}
/-- a module's dict of texts: TOP[k], k a text that is there -/
structure KD (K : PySem.W.Frag) (w : World) (a : Addr) (kvs : List (Str × Str)) : Prop where
  ex : ∃ es n, K.lookup a = some ⟨.type "dict", none, .dict es n, #[]⟩ ∧ PySem.W.KeysLit w.params es.toList
  at_ : ∀ p ∈ kvs, ∃ t, PySem.W.nsIn K a p.1 = some (some (.str p.2 t))
end
end L2

set_option Elab.async false
set_option linter.all false
set_option maxRecDepth 100000
set_option maxHeartbeats 2000000
namespace PySem
open Sem (wp)
namespace F
theorem no_tuple_reversed : typeLookup (.type "tuple") "__reversed__" = pure none := by rw [typeLookup_type, builtinLookup_eq_fast]; kernel_rfl
theorem owner_reversed : Manifest.owners.lookup (String.ofList ['d', 'e', 's', 'r', 'e', 'v', 'e', 'r'].reverse) = some Manifest.sig_reversed := by kernel_rfl
theorem slot_reversed_init : Slot "reversed" "__init__" "object.__init__" :=
  .of (owner := "object") (n := "__init__") (by rw [typeLookup_type, builtinLookup_eq_fast]; kernel_rfl) (by decide +kernel) (by decide +kernel) (by decide +kernel)
    (by first | exact .inl (by decide +kernel) | exact .inr (by decide +kernel)) (by rw [isSubtype_type]; kernel_rfl)
theorem slot_reversed_next : Slot "reversed" "__next__" "reversed.__next__" :=
  .of (owner := "reversed") (n := "__next__") (by rw [typeLookup_type, builtinLookup_eq_fast]; kernel_rfl) (by decide +kernel) (by decide +kernel) (by decide +kernel)
    (by first | exact .inl (by decide +kernel) | exact .inr (by decide +kernel)) (by rw [isSubtype_type]; kernel_rfl)
theorem slot_reversed_iter : Slot "reversed" "__iter__" "reversed.__iter__" :=
  .of (owner := "reversed") (n := "__iter__") (by rw [typeLookup_type, builtinLookup_eq_fast]; kernel_rfl) (by decide +kernel) (by decide +kernel) (by decide +kernel)
    (by first | exact .inl (by decide +kernel) | exact .inr (by decide +kernel)) (by rw [isSubtype_type]; kernel_rfl)
theorem entry_reversed_next : entryFor table "reversed.__next__" = some Builtin.«reversed.__next__» := entryFor_of_tree (by kernel_rfl)
theorem args_reversed_next_1 (a : Value) : argsOk "reversed.__next__" ⟨[a], []⟩ := by
  unfold argsOk; rw [signature?_of (id := "reversed.__next__") (n := ['_', '_', 't', 'x', 'e', 'n', '_', '_']) (o := ['d', 'e', 's', 'r', 'e', 'v', 'e', 'r']) (by kernel_rfl) owner_reversed]; kernel_rfl
theorem args_reversed_iter_1 (a : Value) : argsOk "reversed.__iter__" ⟨[a], []⟩ := by
  unfold argsOk; rw [signature?_of (id := "reversed.__iter__") (n := ['_', '_', 'r', 'e', 't', 'i', '_', '_']) (o := ['d', 'e', 's', 'r', 'e', 'v', 'e', 'r']) (by kernel_rfl) owner_reversed]; kernel_rfl
theorem entry_reversed_iter : entryFor table "reversed.__iter__" = some Builtin.«dict_keyiterator.__iter__» :=
  entryFor_alias (id' := "dict_keyiterator.__iter__") (by kernel_rfl) (by first | rfl | decide +kernel | (unfold String.splitOn; simp +decide [String.splitOnAux])) (by decide +kernel) (by kernel_rfl)
theorem called_reversed : TypeCalled "reversed" "reversed.__new__" "object.__init__" :=
  ⟨by decide +kernel, by decide +kernel, ⟨_, _, mro_reversed⟩, made_reversed, by decide +kernel, by rw [isSubtype_type]; kernel_rfl, slot_reversed_init⟩
theorem no_lri_len : typeLookup (.type "list_reverseiterator") "__len__" = pure none := by rw [typeLookup_type, builtinLookup_eq_fast]; kernel_rfl
theorem no_reversed_len : typeLookup (.type "reversed") "__len__" = pure none := by rw [typeLookup_type, builtinLookup_eq_fast]; kernel_rfl
end F
section
variable {prog : Program} {w : World} {A : Around} {E : Value → Shared → Prop} {s : Shared}
def rvtObj (t : Addr) (i : Int) : Obj := { cls := .type "reversed", data := .fields #[.ref t, rawInt i] }
theorem meets_reversed_new (t : Addr) (items : Array Value) (hz : ¬ (items.size : Int) ≥ 2 ^ 63) :
    Meets (Builtin.«reversed.__new__» ⟨[.type "reversed", .ref t], []⟩) (fun _ R s => PyProof.Rows.IsTup s.heap t items ∧
      R (.ok (.ret (.ref s.heap.objs.size))) { s with heap := s.heap.push (rvtObj t ((items.size : Int) - 1)), toks := s.toks + 1 + 1 }) :=
  .of_wp fun prog w A R s h => by
    obtain ⟨ht, h⟩ := h
    have hT : s.TypeIs (.ref t) "tuple" := ht.typeIs
    unfold Builtin.«reversed.__new__»
    refine wpAny_bind (wpAny_of_eq (newClass_reversed _) ?_)
    try dsimp only
    refine wpAny_bind (wpAny_of_eq (a := ()) (by first | rfl | kernel_rfl) ?_)
    refine wpAny_bind (wpAny_of_eq (a := ()) (by first | rfl | kernel_rfl) ?_)
    try dsimp only
    refine wpAny_bind (wpAny_specialOf hT F.no_tuple_reversed ?_)
    try dsimp only
    refine wpAny_bind ?_
    show wpAny _ _ (isInstance (.ref t) (.type "dict") >>= _) _ _ _
    refine wpAny_bind (wpAny_isInstance hT F.sub_tuple_dict ?_)
    rw [if_neg (by decide)]
    refine wpAny_bind (wpAny_specialOf hT F.slot_tuple_getitem.lookup ?_)
    dsimp only
    rw [if_pos (by decide +kernel)]
    refine wpAny_pure ?_
    rw [if_neg (by decide)]
    refine wpAny_bind (PyProof.Rows.len_tuple ht (by omega) ?_)
    refine wpAny_bind (wpAny_of_eq (a := some ((items.size : Nat) : Int)) rfl ?_)
    dsimp only
    unfold Builtin.SmallTypes.newRecord
    exact wpAny_bind (wpAny_newObj_type (wpAny_pure ⟨_, rfl, h⟩))
theorem call_reversed_tuple {t : Addr} {items : Array Value} {Q : Value → Shared → Prop} (ht : PyProof.Rows.IsTup s.heap t items) (hz : ¬ (items.size : Int) ≥ 2 ^ 63)
    (h : Q (.ref s.heap.objs.size) { s with heap := s.heap.push (rvtObj t ((items.size : Int) - 1)), toks := s.toks + 1 + 1 }) : wpAny (model prog w) A (call (.type "reversed") [.ref t]) Q E s := by
  refine callType_new F.called_reversed (by decide) (F.typeCall_reversed_1 _) (F.newCall_reversed_1 _) (fun obj => F.args_object_init_2 obj _) F.entry_reversed_new (meets_reversed_new t items hz) ⟨ht, ?_⟩
  exact ⟨⟨_, Heap.get?_push_size _ rfl, rfl⟩, h⟩
def Heap.IsRvt (h : Heap) (a t : Addr) (i : Int) : Prop := ∃ o, h.get? a = some o ∧ o.cls = .type "reversed" ∧ o.data = .fields #[.ref t, rawInt i]
theorem Heap.IsRvt.typeIs {a l : Addr} {i : Int} (x : s.heap.IsRvt a l i) : s.TypeIs (.ref a) "reversed" := let ⟨o, ho, hc, _⟩ := x; ⟨o, ho, hc⟩
theorem Heap.IsRvt.at {h h' : Heap} {a l : Addr} {i : Int} (x : h.IsRvt a l i) (e : ∀ o, h.get? a = some o → h'.get? a = some o) : h'.IsRvt a l i := let ⟨o, ho, r⟩ := x; ⟨o, e _ ho, r⟩
theorem pyNext_rvt_item {it t : Addr} {i : Nat} {items : Array Value} {x : Value} {Q : Option Value → Shared → Prop} (hit : s.heap.IsRvt it t (i : Int)) (ht : PyProof.Rows.IsTup s.heap t items) (hb : (i : Int) < 2 ^ 63) (hx : items[i]? = some x)
    (hQ : ∀ h' tk, h'.IsRvt it t ((i : Int) - 1) → Heap.SameBut it s.heap h' → Q (some x) { s with heap := h', toks := tk }) : wpAny (model prog w) A (pyNext (.ref it)) Q E s := by
  obtain ⟨o, ho, hc, hd⟩ := id hit
  have hT : s.TypeIs (.ref t) "tuple" := ht.typeIs
  unfold pyNext
  refine wpAny_bind (wpAny_attempt (wpAny_callSpecial?_slot (name := Str.ofString "__next__") hit.typeIs F.slot_reversed_next
    (wpAny_call_entry F.slot_reversed_next hit.typeIs F.entry_reversed_next ?_ (F.args_reversed_next_1 _))))
  unfold Builtin.«reversed.__next__»
  refine wpAny_bind (wpAny_of_eq (a := (Value.ref it, [])) rfl ?_)
  try dsimp only
  refine wpAny_bind (wpAny_field ho hd (x := .ref t) rfl ?_)
  refine wpAny_bind (wpAny_field ho hd (x := rawInt (i : Int)) rfl ?_)
  show wpAny _ _ (if (i : Int) < 0 then _ else _) _ _ s
  rw [if_neg (by omega)]
  refine wpAny_bind (wpAny_specialOf hT F.slot_tuple_getitem.lookup ?_)
  rw [if_neg (by simp)]
  refine wpAny_bind (wpAny_mkInt ?_)
  have hi : i < items.size := (Array.getElem?_eq_some_iff.mp hx).1
  refine wpAny_bind (wpAny_attempt (PyProof.Rows.getItem_tuple ht (by omega) hb (j := i) (by simp [seqIndex?]; omega) hx ?_))
  dsimp only
  refine wpAny_bind (wpAny_field ho hd (x := rawInt (i : Int)) rfl ?_)
  show wpAny _ _ (setField (.ref it) 1 (rawInt ((i : Int) - 1)) >>= _) _ _ _
  refine wpAny_bind (wpAny_setField ho hd (by simp) ?_)
  refine wpAny_pure ⟨x, rfl, wpAny_pure (hQ _ _ ?_ (Heap.SameBut.update ..))⟩
  exact ⟨_, Heap.get?_update_self _ ho (Obj.isFreed_of_fields (Obj.data_mapFields hd _)), (Obj.cls_mapFields ..).trans hc, by
    rw [Obj.data_mapFields hd]; simp⟩
theorem pyNext_rvt_end {it t : Addr} {Q : Option Value → Shared → Prop} (hh : A.handled = none) (hit : s.heap.IsRvt it t (-1))
    (hQ : ∀ h', Heap.ExtBut it s.heap h' → Q none { s with heap := h' }) : wpAny (model prog w) A (pyNext (.ref it)) Q E s := by
  obtain ⟨o, ho, hc, hd⟩ := id hit
  unfold pyNext
  refine wpAny_bind (wpAny_attempt (wpAny_callSpecial?_slot (name := Str.ofString "__next__") hit.typeIs F.slot_reversed_next
    (wpAny_call_entry F.slot_reversed_next hit.typeIs F.entry_reversed_next ?_ (F.args_reversed_next_1 _))))
  unfold Builtin.«reversed.__next__»
  refine wpAny_bind (wpAny_of_eq (a := (Value.ref it, [])) rfl ?_)
  try dsimp only
  refine wpAny_bind (wpAny_field ho hd (x := .ref t) rfl ?_)
  refine wpAny_bind (wpAny_field ho hd (x := rawInt (-1)) rfl ?_)
  show wpAny _ _ (if (-1 : Int) < 0 then _ else _) _ _ s
  rw [if_pos (by decide)]
  refine wpAny_bind (wpAny_rule ?_)
  refine wpAny_bind ?_
  show wpAny _ _ (setField (.ref it) 1 (rawInt (-1)) >>= fun _ => setField (.ref it) 0 .none) _ _ _
  refine wpAny_bind (wpAny_setField ho hd (by simp) ?_)
  have ho2 := Heap.get?_update_self (Obj.mapFields fun f => f.set! 1 (rawInt (-1))) ho (Obj.isFreed_of_fields (Obj.data_mapFields hd _))
  refine wpAny_setField ho2 (Obj.data_mapFields hd _) (by simp) ?_
  have eb : Heap.ExtBut it s.heap ((s.heap.update it (Obj.mapFields fun x => x.setIfInBounds 1 (rawInt (-1)))).update it (Obj.mapFields fun x => x.setIfInBounds 0 Value.none)) := fun b o hb e => (Heap.get?_update_other _ _ (Ne.symm hb)).trans ((Heap.get?_update_other _ _ (Ne.symm hb)).trans e)
  refine wpAny_bind ?_
  show wpAny _ _ (newExc (.type "StopIteration") [] >>= _) _ _ _
  refine wpAny_bind ?_
  simp only [newExc, newTuple]
  refine wpAny_bind (wpAny_newObj_type ?_ (by size_fits))
  refine wpAny_bind (m := firstArgMember _ _) (wpAny_of_eq (a := Value.none) (by first | rfl | (simp only [firstArgMember]; rfl)) ?_)
  refine wpAny_newObj_type ?_ (by size_fits)
  simp only [raiseNew]
  refine wpAny_bind (wpAny_handled ?_)
  first | rw [show A.in1.handled = none from hh] | rw [hh]
  refine wpAny_bind (wpAny_pure (wpAny_throw ?_))
  refine wpAny_bind (wpAny_isInstance (T := "StopIteration") (b := true) ⟨_, Heap.get?_push_size _ rfl, rfl⟩ isSubtype_stop ?_)
  exact wpAny_pure (hQ _ ((eb.push _).push _))
theorem pyIter_rvt {it t : Addr} {i : Int} {Q : Value → Shared → Prop} (hit : s.heap.IsRvt it t i) (h : Q (.ref it) s) : wpAny (model prog w) A (pyIter (.ref it)) Q E s := by
  refine wpAny_pyIter_slot hit.typeIs F.slot_reversed_iter (wpAny_call_entry F.slot_reversed_iter hit.typeIs F.entry_reversed_iter ?_ (F.args_reversed_iter_1 _))
  show wpAny _ _ (ret (.ref it)) _ _ s
  exact wpAny_pure ⟨_, rfl, "reversed", _, hit.typeIs, F.slot_reversed_next.lookup, h⟩
end
/-- a tuple walked from its end -/
theorem Walks.tupRev {prog : Program} {w : World} {A : Around} (hh : A.handled = none) (I t : Addr) (hne : t ≠ I) (items : Array Value) (hz : items.size ≤ sizeLine) :
    Walks prog w A I [I, t] [I] items.size (fun i v => items[items.size - 1 - i]? = some v) (fun i h => i ≤ items.size ∧ h.IsRvt I t ((items.size : Int) - 1 - (i : Int)) ∧ PyProof.Rows.IsTup h t items) where
  sub := fun b hb => by simp at hb; simp [hb]
  frame := fun _ _ _ x hk => ⟨x.1, x.2.1.at fun o e => hk I (by simp) o e, let ⟨o, e, r⟩ := x.2.2; ⟨o, hk t (by simp) o e, r⟩⟩
  item := fun i s Q E hi x hQ => by
    have e : (items.size : Int) - 1 - (i : Int) = ((items.size - 1 - i : Nat) : Int) := by omega
    have hit := x.2.1
    rw [e] at hit
    have hx : items[items.size - 1 - i]? = some (items[items.size - 1 - i]'(by omega)) := Array.getElem?_eq_getElem (by omega)
    have hs : sizeLine = 16777216 := sizeLine_eq
    refine pyNext_rvt_item hit x.2.2 (by omega) hx fun h' tk hit' hs' => ?_
    have e2 : ((items.size - 1 - i : Nat) : Int) - 1 = (items.size : Int) - 1 - ((i + 1 : Nat) : Int) := by omega
    rw [e2] at hit'
    exact hQ _ h' tk hx ⟨hi, hit', x.2.2.extBut hs'.extBut hne⟩ fun b o hb eo => hs'.extBut b o (fun h => hb (by simp [h])) eo
  done := fun s Q E x hQ => by
    have e : (items.size : Int) - 1 - (items.size : Int) = -1 := by omega
    have hit := x.2.1
    rw [e] at hit
    exact pyNext_rvt_end hh hit fun h' he' => hQ h' s.toks fun b o hb eo => he' b o (fun h => hb (by simp [h])) eo
  self := fun _ _ _ _ x hQ => pyIter_rvt x.2.1 hQ
end PySem

set_option Elab.async false
set_option linter.all false
set_option maxRecDepth 100000
set_option maxHeartbeats 2000000
namespace PySem
open Sem (wp)
namespace F
theorem slot_lri_hint : Slot "list_reverseiterator" "__length_hint__" "list_reverseiterator.__length_hint__" :=
  .of (owner := "list_reverseiterator") (n := "__length_hint__") (by rw [typeLookup_type, builtinLookup_eq_fast]; kernel_rfl) (by decide +kernel) (by decide +kernel) (by decide +kernel)
    (by first | exact .inl (by decide +kernel) | exact .inr (by decide +kernel)) (by rw [isSubtype_type]; kernel_rfl)
theorem slot_reversed_hint : Slot "reversed" "__length_hint__" "reversed.__length_hint__" :=
  .of (owner := "reversed") (n := "__length_hint__") (by rw [typeLookup_type, builtinLookup_eq_fast]; kernel_rfl) (by decide +kernel) (by decide +kernel) (by decide +kernel)
    (by first | exact .inl (by decide +kernel) | exact .inr (by decide +kernel)) (by rw [isSubtype_type]; kernel_rfl)
theorem entry_reversed_hint : entryFor table "reversed.__length_hint__" = some Builtin.«reversed.__length_hint__» := entryFor_of_tree (by kernel_rfl)
theorem args_reversed_hint_1 (a : Value) : argsOk "reversed.__length_hint__" ⟨[a], []⟩ := by
  unfold argsOk; rw [signature?_of (id := "reversed.__length_hint__") (n := ['_', '_', 't', 'n', 'i', 'h', '_', 'h', 't', 'g', 'n', 'e', 'l', '_', '_']) (o := ['d', 'e', 's', 'r', 'e', 'v', 'e', 'r']) (by kernel_rfl) owner_reversed]; kernel_rfl
end F
section
variable {prog : Program} {w : World} {A : Around} {E : Value → Shared → Prop} {s : Shared}
theorem hint_lri {it l : Addr} {i : Int} {Q : Bool → Shared → Prop} (hit : s.heap.IsRevIter it l i) (h : ∀ b tk, Q b { s with toks := tk }) : wpAny (model prog w) A (Builtin.List.listLengthHint (.ref it)) Q E s := by
  unfold Builtin.List.listLengthHint
  refine wpAny_bind (wpAny_specialOf hit.typeIs F.no_lri_len ?_)
  dsimp only
  refine wpAny_ite_split (fun hab => absurd hab (by decide +kernel)) (fun _ => ?_)
  refine wpAny_ite_split (fun hab => absurd hab (by decide)) (fun _ => ?_)
  refine wpAny_bind (wpAny_specialOf hit.typeIs F.slot_lri_hint.lookup ?_)
  dsimp only
  generalize hid : ("list_reverseiterator.__length_hint__" : String) = id0
  rw [show splitId id0 = some ("list_reverseiterator", "__length_hint__") from by subst hid; decide +kernel]
  subst hid
  dsimp only
  refine wpAny_bind (wpAny_isInstance (T := "list_reverseiterator") (b := true) hit.typeIs (by rw [isSubtype_type]; kernel_rfl) ?_)
  refine wpAny_ite_split (fun hab => absurd hab (by decide)) (fun _ => ?_)
  refine wpAny_ite_split (fun _ => ?_) (fun hab => absurd (by decide +kernel) hab)
  refine wpAny_ite_split (fun hab => absurd hab (by decide +kernel)) (fun _ => ?_)
  exact wpAny_pure (h _ s.toks)
theorem hint_rvt {it t : Addr} {items : Array Value} {Q : Bool → Shared → Prop} (hit : s.heap.IsRvt it t ((items.size : Int) - 1)) (ht : PyProof.Rows.IsTup s.heap t items) (hz : items.size ≤ sizeLine) (h : ∀ b tk, Q b { s with toks := tk }) : wpAny (model prog w) A (Builtin.List.listLengthHint (.ref it)) Q E s := by
  have hsz : sizeLine = 16777216 := sizeLine_eq
  obtain ⟨o, ho, hc, hd⟩ := id hit
  unfold Builtin.List.listLengthHint
  refine wpAny_bind (wpAny_specialOf hit.typeIs F.no_reversed_len ?_)
  dsimp only
  refine wpAny_ite_split (fun hab => absurd hab (by decide +kernel)) (fun _ => ?_)
  refine wpAny_ite_split (fun hab => absurd hab (by decide)) (fun _ => ?_)
  refine wpAny_bind (wpAny_specialOf hit.typeIs F.slot_reversed_hint.lookup ?_)
  dsimp only
  generalize hid : ("reversed.__length_hint__" : String) = id0
  rw [show splitId id0 = some ("reversed", "__length_hint__") from by subst hid; decide +kernel]
  subst hid
  dsimp only
  refine wpAny_bind (wpAny_isInstance (T := "reversed") (b := true) hit.typeIs (by rw [isSubtype_type]; kernel_rfl) ?_)
  refine wpAny_ite_split (fun hab => absurd hab (by decide)) (fun _ => ?_)
  refine wpAny_ite_split (fun hab => absurd hab (by decide +kernel)) (fun _ => ?_)
  refine wpAny_bind (wpAny_rule ?_)
  refine wpAny_bind (wpAny_of_eq (F.slot_reversed_hint.bind _) ?_)
  dsimp only
  refine wpAny_bind (wpAny_attempt (wpAny_call_entry F.slot_reversed_hint hit.typeIs F.entry_reversed_hint ?_ (F.args_reversed_hint_1 _)))
  unfold Builtin.«reversed.__length_hint__»
  refine wpAny_bind (wpAny_of_eq (a := Value.ref it) rfl ?_)
  refine wpAny_bind (wpAny_field ho hd (x := .ref t) rfl ?_)
  rw [if_neg (show ¬ ((Value.ref t == Value.none) = true) from Bool.false_ne_true)]
  refine wpAny_bind (PyProof.Rows.len_tuple ht (by omega) ?_)
  refine wpAny_bind (wpAny_of_eq (a := some ((items.size : Nat) : Int)) rfl ?_)
  dsimp only
  refine wpAny_bind (wpAny_field (s := { s with toks := s.toks + 1 + 1 }) ho hd (x := rawInt ((items.size : Int) - 1)) rfl ?_)
  show wpAny _ _ (if ((items.size : Nat) : Int) < (items.size : Int) - 1 + 1 then _ else _) _ _ _
  rw [if_neg (by omega)]
  unfold retInt
  refine wpAny_bind (wpAny_mkInt (wpAny_pure ⟨_, rfl, ?_⟩))
  dsimp only
  refine wpAny_bind (wpAny_of_eq (a := some ((items.size : Int) - 1 + 1)) rfl ?_)
  dsimp only
  refine wpAny_ite_split (fun hab => absurd hab (by simp [Builtin.List.listFitsIndex]; omega)) (fun _ => ?_)
  refine wpAny_ite_split (fun hab => absurd hab (by omega)) (fun _ => ?_)
  refine wpAny_ite_split (fun hab => absurd hab (by simp [Builtin.List.listTooLong]; omega)) (fun _ => ?_)
  exact wpAny_pure (h _ _)
end
section
variable {prog : Program} {w : World} {A : Around} {s : Shared} {R : Result → Shared → Prop}
variable {I : Addr} {fp wr : List Addr} {n : Nat} {P : Nat → Value → Prop} {St : Nat → Heap → Prop}
theorem extend_walk (W : Walks prog w A.in1 I fp wr n P St) {T : String} (hT : s.TypeIs (.ref I) T) (h2 : (Value.type T == Value.type "list") = false) (h3 : (Value.type T == Value.type "tuple") = false) (S : Addr) (res : Value) (c₀ : Nat) (hst : St 0 s.heap) (hSf : S ∉ fp) (hI : I ∈ fp)
    (hint : ∀ (E : Value → Shared → Prop) (Q : Bool → Shared → Prop), (∀ b tk, Q b { s with toks := tk }) → wpAny (model prog w) A.in1 (Builtin.List.listLengthHint (.ref I)) Q E s)
    (hS : s.heap.get? S = some { cls := .type "list", data := .seq #[] c₀ })
    (hR : ∀ h' tk acc' c', (∀ b o, b ∉ S :: wr → s.heap.get? b = some o → h'.get? b = some o) → h'.get? S = some { cls := .type "list", dict := none, data := .seq acc' c', slots := #[] } → ItemsOf P acc' n → R (.ok (.ret res)) { s with heap := h', toks := tk }) (hn : n ≤ sizeLine) :
    wpAny (model prog w) A.in1 (Builtin.List.listExtendWith (.ref S) (.ref I) res)
      (fun fin s' => match fin with | .done f => R (.ok f) s' | .again c' => c'.quiet = true ∧ codeAny (model prog w) A c' R s') (fun e s' => R (.error e) s') s := by
  have hSI : S ≠ I := fun e => hSf (e ▸ hI)
  have key : ∀ (h : Heap) (c₁ tk : Nat), St 0 h → (∀ b o, b ≠ S → s.heap.get? b = some o → h.get? b = some o) →
      h.get? S = some { cls := .type "list", data := .seq #[] c₁ } → codeAny (model prog w) A (.builtin "list.extend.loop" ⟨[.ref S, .ref I, res], []⟩) R { s with heap := h, toks := tk } := by
    intro h c₁ tk hit hk hS₁
    refine codeAny_extend_loopS W.toS hn S hSf res n 0 _ #[] c₁ rfl (Nat.zero_le _) hit hS₁ (ItemsOf.nil _) fun s' acc' c' hm hS' hacc => ?_
    rw [Moved.eq_with hm]
    exact hR s'.heap s'.toks acc' c' (fun b o hb e => hm.heap b o hb (hk b o (fun z => hb (z ▸ List.mem_cons_self)) e)) hS' hacc
  unfold Builtin.List.listExtendWith
  refine wpAny_bind (wpAny_typeOf hT ?_)
  have h1 : Builtin.List.listSameRef (.ref S) (.ref I) = false := by simp [Builtin.List.listSameRef, hSI]
  simp only [h1, h2, h3, Bool.or_false, Bool.false_eq_true, if_false]
  refine wpAny_bind (W.self 0 _ _ _ hst ?_)
  refine wpAny_bind (wpAny_holding (hint _ _ fun b tk => ?_))
  refine wpAny_ite_split (fun _ => ?_) (fun _ => wpAny_pure ⟨plainId_quiet F.plain_extend_loop _, key _ c₀ _ hst (fun b o _ e => e) hS⟩)
  refine wpAny_bind (wpAny_rule ?_)
  refine wpAny_bind ?_
  show wpAny _ _ (updateSeq S (·.push .none) >>= fun _ => updateSeq S (·.pop)) _ _ _
  refine wpAny_bind (wpAny_updateSeq hS rfl ?_)
  have hS₂ := Heap.get?_update_self (Obj.mapSeq (·.push Value.none)) hS rfl
  refine wpAny_updateSeq (hz := by seq_fits) hS₂ rfl ?_
  have hS₃ := Heap.get?_update_self (Obj.mapSeq (·.pop)) hS₂ rfl
  have oth : ∀ b o, b ≠ S → s.heap.get? b = some o → ((s.heap.update S (Obj.mapSeq (·.push Value.none))).update S (Obj.mapSeq (·.pop))).get? b = some o :=
    fun b o hb e => (Heap.get?_update_other _ _ (Ne.symm hb)).trans ((Heap.get?_update_other _ _ (Ne.symm hb)).trans e)
  exact wpAny_pure ⟨plainId_quiet F.plain_extend_loop _, key _ _ _ (W.frame 0 _ _ hst fun b hb o e => oth b o (fun z => hSf (z ▸ hb)) e) oth hS₃⟩
end
section
variable {prog : Program} {w : World} {A : Around} {E : Value → Shared → Prop} {s : Shared}
variable {I : Addr} {fp wr : List Addr} {n : Nat} {P : Nat → Value → Prop} {St : Nat → Heap → Prop}
/-- list(what is walked) -/
theorem call_list_walk {Q : Value → Shared → Prop} (W : Walks prog w A.in1.in1 I fp wr n P St) {T : String} (hT : s.TypeIs (.ref I) T) (h2 : (Value.type T == Value.type "list") = false) (h3 : (Value.type T == Value.type "tuple") = false) (hst : St 0 s.heap) (hfp : ∀ b ∈ fp, b < s.heap.objs.size) (hI : I ∈ fp)
    (hint : ∀ (h : Heap), St 0 h → ∀ (E : Value → Shared → Prop) (Q : Bool → Shared → Prop), (∀ b tk, Q b { s with heap := h, toks := tk }) → wpAny (model prog w) A.in1.in1 (Builtin.List.listLengthHint (.ref I)) Q E { s with heap := h })
    (hQ : ∀ h' tk acc' c', (∀ b o, b ∉ wr → s.heap.get? b = some o → h'.get? b = some o) → h'.get? s.heap.objs.size = some { cls := .type "list", dict := none, data := .seq acc' c', slots := #[] } → ItemsOf P acc' n → Q (.ref s.heap.objs.size) { s with heap := h', toks := tk }) (hn : n ≤ sizeLine) :
    wpAny (model prog w) A (call (.type "list") [.ref I]) Q E s := by
  have hSf : s.heap.objs.size ∉ fp := fun hm => Nat.lt_irrefl _ (hfp _ hm)
  refine callType_codes (Q₁ := fun obj s₁ => obj = .ref s.heap.objs.size ∧ s₁ = { s with heap := s.heap.push { cls := .type "list", data := .seq #[] } }) F.called_list (F.typeCall_list_1 _) F.entry_list_init
    (code_list_new _ ⟨rfl, rfl⟩) fun obj s₁ h₁ => ?_
  obtain ⟨rfl, rfl⟩ := h₁
  have hS : (s.heap.push { cls := .type "list", data := .seq #[] }).get? s.heap.objs.size = some { cls := .type "list", data := .seq #[] } := Heap.get?_push_size _ rfl
  refine ⟨⟨_, hS, rfl⟩, F.args_list_init_2 _ _, ?_⟩
  have st1 : St 0 (s.heap.push { cls := .type "list", data := .seq #[] }) := W.frame 0 _ _ hst fun b _ o e => Heap.get?_push_of_some _ e
  show wpAny _ A.in1.in1 (do let old ← Builtin.List.listItems (.ref s.heap.objs.size); Builtin.List.listUpdate (.ref s.heap.objs.size) (fun _ => #[]); letGo old.toList.reverse; Builtin.List.listExtendWith (.ref s.heap.objs.size) (.ref I) .none) _ _ _
  refine wpAny_bind ?_
  unfold Builtin.List.listItems
  refine wpAny_bind (wpAny_seqItems hS rfl (wpAny_pure ?_))
  show wpAny _ A.in1.in1 (updateSeq s.heap.objs.size (fun _ => #[]) >>= fun _ => letGo (#[] : Array Value).toList.reverse >>= fun _ => Builtin.List.listExtendWith (.ref s.heap.objs.size) (.ref I) .none) _ _ _
  refine wpAny_bind (wpAny_updateSeq hS rfl ?_)
  have hS₂ := Heap.get?_update_self (Obj.mapSeq (fun _ => (#[] : Array Value))) hS rfl
  have oth : ∀ b o, b ≠ s.heap.objs.size → (s.heap.push { cls := .type "list", data := .seq #[] }).get? b = some o → ((s.heap.push { cls := .type "list", data := .seq #[] }).update s.heap.objs.size (Obj.mapSeq (fun _ => (#[] : Array Value)))).get? b = some o :=
    fun b o hb e => (Heap.get?_update_other _ _ (Ne.symm hb)).trans e
  have st2 := W.frame 0 _ _ st1 fun b hb o e => oth b o (fun z => hSf (z ▸ hb)) e
  have hT2 : ({ s with heap := ((s.heap.push { cls := .type "list", data := .seq #[] }).update s.heap.objs.size (Obj.mapSeq (fun _ => (#[] : Array Value)))) } : Shared).TypeIs (.ref I) T := by
    obtain ⟨o, e, c⟩ := hT
    exact ⟨o, oth I o (fun z => hSf (z ▸ hI)) (Heap.get?_push_of_some _ e), c⟩
  refine wpAny_bind (wpAny_letGo ?_)
  refine extend_walk (A := A.in1) W hT2 h2 h3 _ .none _ st2 hSf hI (fun E Q q => hint _ st2 E Q q) hS₂ (fun h' tk acc' c' hk hS' hacc => ?_) hn
  exact ⟨rfl, hQ h' tk acc' c' (fun b o hb e => hk b o (fun z => (List.mem_cons.mp z).elim (fun z2 => absurd (Heap.lt_size e) (by rw [z2]; exact Nat.lt_irrefl _)) hb) (oth b o (fun z2 => absurd (Heap.lt_size e) (by rw [z2]; exact Nat.lt_irrefl _)) (Heap.get?_push_of_some _ e))) hS' hacc⟩
end
end PySem

set_option Elab.async false
set_option linter.all false
set_option maxRecDepth 100000
set_option maxHeartbeats 2000000
namespace L2
open PySem PySem.Spec PyProof.Rows
theorem boot_list : bootBuiltins "list" = some (.type "list") := by decide +kernel
theorem boot_reversed : bootBuiltins "reversed" = some (.type "reversed") := by decide +kernel
theorem rev_items {its : List Value} {acc : Array Value} (h : ItemsOf (fun i v => its.toArray[its.toArray.size - 1 - i]? = some v) acc its.toArray.size) : acc = its.reverse.toArray := by
  obtain ⟨h1, h2⟩ := h
  apply Array.ext_getElem?
  intro i
  by_cases hi : i < acc.size
  · have e := h2 i acc[i] (Array.getElem?_eq_getElem hi)
    rw [Array.getElem?_eq_getElem hi, ← e]
    have hi2 : i < its.length := by rw [h1] at hi; simpa using hi
    simp only [List.getElem?_toArray, List.size_toArray]
    rw [List.getElem?_reverse hi2]
  · rw [Array.getElem?_eq_none (by omega), Array.getElem?_eq_none (by rw [h1] at hi; simpa using hi)]
section
variable {X : Cx}
/-- list(reversed(a list or a tuple)) -/
def tListRev (K : PySem.W.Frag) (te : TE) : TE := fun σ H Q => te σ H fun x H1 => ∃ a xs, x = .ref a ∧ (SqL K H1 a xs ∨ SqT K H1 a xs) ∧ ∀ l, H1 l = none → Q (.ref l) (upd H1 l (.lst xs.reverse))
theorem pe_listrev {e : Expr} {te : TE} {p1 p2 p3 p4 : Pos} (hc : X.calm = true) (hgl : Gl X "list") (hml : X.mg "list" = none) (hgr : Gl X "reversed") (hmr : X.mg "reversed" = none) (he : PE X e te)
    (hs1 : starEach [.Call (.Name "reversed" p2) [e] [] p3] X.env = (false, eval (.Call (.Name "reversed" p2) [e] [] p3) X.env) :: starEach [] X.env := by exact star_of rfl) (hs2 : starEach [e] X.env = (false, eval e X.env) :: starEach [] X.env := by exact star_of rfl) :
    PE X (.Call (.Name "list" p1) [.Call (.Name "reversed" p2) [e] [] p3] [] p4) (tListRev X.K te) := by
  intro pins s σ H Q I h
  refine wpAny_Call_Name_kw (ld_blt I hgl hml boot_list ?_)
  refine PyProof.Rows.callWith_type1 ?_ hs1 rfl
  rw [hs1]
  show wpAny _ _ (spliced ((false, eval (.Call (.Name "reversed" p2) [e] [] p3) X.env) :: [])) _ _ s
  refine Calls.spliced_cons ?_
  refine wpAny_Call_Name_kw (ld_blt I hgr hmr boot_reversed ?_)
  refine PyProof.Rows.callWith_type1 ?_ hs2 rfl
  rw [hs2]
  show wpAny _ _ (spliced ((false, eval e X.env) :: [])) _ _ s
  refine Calls.spliced_cons (thn (he pins s σ H _ I h) fun u s1 ⟨x, H1, I1, r1, q1⟩ => ?_)
  obtain ⟨a, xs, rfl, hq, q⟩ := q1
  cases r1
  refine Calls.spliced_nil ?_
  have hh := I1.ok.hd hc
  have hszl : sizeLine = 16777216 := sizeLine_eq
  have fin : ∀ (its : List Value) (o : Obj), Vals xs its → xs.length ≤ sizeLine → ∀ (h' : Heap) (tk c' : Nat) (acc : Array Value), (∀ b o', b ∉ [s1.heap.objs.size] → (s1.heap.push o).get? b = some o' → h'.get? b = some o') →
      h'.get? (s1.heap.push o).objs.size = some { cls := .type "list", dict := none, data := .seq acc c', slots := #[] } → ItemsOf (fun i v => its.toArray[its.toArray.size - 1 - i]? = some v) acc its.toArray.size → EP X pins σ Q (.ref (s1.heap.push o).objs.size) { s1 with heap := h', toks := tk } := by
    intro its o r' hz h' tk c' acc kp e hit
    have ea := rev_items hit
    subst ea
    refine ⟨.ref (s1.heap.push o).objs.size, _, I1.laid (t' := tk) (fun b u eb => kp b u (fun z => ?_) (Heap.get?_push_of_some _ eb)) (by rw [Heap.size_push]; omega) (show ObjOk X.prog X.w _ h' _ (.lst xs.reverse) from ⟨by rw [List.length_reverse]; exact hz, its.reverse, c', r'.reverse, e⟩), rfl, q _ (I1.hok.fresh (by rw [Heap.size_push]; omega))⟩
    rw [List.mem_singleton.mp z] at eb
    exact absurd (Heap.lt_size eb) (Nat.lt_irrefl _)
  rcases hq with hq | hq
  · obtain ⟨its, r', pl, hz⟩ := I1.list hq
    have hlen := r'.length
    refine call_reversed_list pl.isList ?_
    refine Calls.spliced_nil ?_
    have hal : a < s1.heap.objs.size := by obtain ⟨o, ho, _⟩ := pl.isList; exact Heap.lt_size ho
    have hit : (s1.heap.push (revObj a ((its.toArray.size : Int) - 1))).IsRevIter s1.heap.objs.size a ((its.toArray.size : Int) - 1) := ⟨_, Heap.get?_push_size _ rfl, rfl, rfl⟩
    have hl2 : (s1.heap.push (revObj a ((its.toArray.size : Int) - 1))).IsList a its.toArray := by obtain ⟨o, ho, r⟩ := pl.isList; exact ⟨o, Heap.get?_push_of_some _ ho, r⟩
    have z0 : (its.toArray.size : Int) - 1 - ((0 : Nat) : Int) = (its.toArray.size : Int) - 1 := by omega
    refine call_list_walk (T := "list_reverseiterator") (Walks.listRev (A := X.A.in1.in1) hh s1.heap.objs.size a (Nat.ne_of_lt hal) its.toArray) ⟨_, Heap.get?_push_size _ rfl, rfl⟩ (by decide) (by decide) ⟨Nat.zero_le _, by rw [z0]; exact hit, hl2⟩ (fun b hb => ?_) (by simp) (fun hp st E Q qq => ?_) (fun h' tk acc c' kp e hi => fin its _ r' hz h' tk c' acc kp e hi) (by simp only [List.size_toArray]; omega)
    · rw [Heap.size_push]
      simp only [List.mem_cons, List.not_mem_nil, or_false] at hb
      rcases hb with hb | hb
      · rw [hb]; exact Nat.lt_succ_self _
      · rw [hb]; exact Nat.lt_succ_of_lt hal
    · exact hint_lri (s := { s1 with heap := hp }) st.2.1 qq
  · obtain ⟨its, r', pl, hz⟩ := I1.tuple hq
    have hlen := r'.length
    have hz2 : its.toArray.size ≤ sizeLine := by simp only [List.size_toArray]; omega
    refine call_reversed_tuple pl (by omega) ?_
    refine Calls.spliced_nil ?_
    have hal := pl.lt
    have hit : (s1.heap.push (rvtObj a ((its.toArray.size : Int) - 1))).IsRvt s1.heap.objs.size a ((its.toArray.size : Int) - 1) := ⟨_, Heap.get?_push_size _ rfl, rfl, rfl⟩
    have z0 : (its.toArray.size : Int) - 1 - ((0 : Nat) : Int) = (its.toArray.size : Int) - 1 := by omega
    refine call_list_walk (s := { s1 with heap := s1.heap.push (rvtObj a ((its.toArray.size : Int) - 1)), toks := s1.toks + 1 + 1 }) (T := "reversed") (Walks.tupRev (A := X.A.in1.in1) hh s1.heap.objs.size a (Nat.ne_of_lt hal) its.toArray hz2) ⟨_, Heap.get?_push_size _ rfl, rfl⟩ (by decide) (by decide) ⟨Nat.zero_le _, by rw [z0]; exact hit, pl.push _⟩ (fun b hb => ?_) (by simp) (fun hp st E Q qq => ?_) (fun h' tk acc c' kp e hi => fin its _ r' hz h' tk c' acc kp e hi) hz2
    · rw [Heap.size_push]
      simp only [List.mem_cons, List.not_mem_nil, or_false] at hb
      rcases hb with hb | hb
      · rw [hb]; exact Nat.lt_succ_self _
      · rw [hb]; exact Nat.lt_succ_of_lt hal
    · have h1 := st.2.1
      rw [z0] at h1
      exact hint_rvt (s := { s1 with heap := hp, toks := s1.toks + 1 + 1 }) h1 st.2.2 hz2 qq
end
end L2

set_option Elab.async false
set_option linter.all false
set_option maxRecDepth 100000
set_option maxHeartbeats 2000000
namespace L2
open PySem PySem.Spec PyProof.Rows
/-- the list at a, from its end -/
def Itv (K : PySem.W.Frag) (a : Addr) (n : Nat) : It :=
  ⟨fun i H => i < n ∧ ∃ xs, SqL K H a xs ∧ xs.length = n, fun i H x H' => H' = H ∧ ∀ xs, SqL K H a xs → xs[n - 1 - i]? = some x, fun i _ => i = n⟩
theorem turn_rev {P : Program} {w : World} {K : PySem.W.Frag} {tg : Expr} (a it : Addr) (n : Nat) : Turn P w K tg (Itv K a n) [it] it (fun i h => h.IsRevIter it a ((n : Int) - 1 - (i : Int))) where
  mem := by simp
  obj := fun i h st b hb => by
    have e : b = it := by simpa using hb
    subst e
    obtain ⟨o, e, c, d⟩ := st
    exact ⟨o, e, fun v z => by rw [d] at z; cases z⟩
  keep := fun i h h' st k => st.at fun o e => k it (by simp) o e
  item := by
    intro X hP hw hK hc i pins s σ H E I hf st hg
    subst hP hw hK
    obtain ⟨hi, xs, hq, hn⟩ := hg
    obtain ⟨its, rv, p, hz⟩ := I.list hq
    have hx : xs[n - 1 - i]? = some (xs[n - 1 - i]'(by omega)) := List.getElem?_eq_getElem (by omega)
    obtain ⟨u, hu, ru⟩ := rv.get hx
    obtain ⟨f0, f1, f2, f3, f4, f5⟩ := hf it (by simp)
    have e : (n : Int) - 1 - (i : Int) = ((n - 1 - i : Nat) : Int) := by omega
    have st1 := st
    rw [e] at st1
    refine wpAny_pyNext_rev_item st1 p.isList (x := u) (by simpa using hu) fun h' st' sb => ?_
    have e2 : ((n - 1 - i : Nat) : Int) - 1 = (n : Int) - 1 - ((i + 1 : Nat) : Int) := by omega
    rw [e2] at st'
    have I1 : Inv X pins σ H { s with heap := h' } := I.turned (t' := s.toks) (fun b o hb e => (sb.2 b hb).trans e) f0 f1 f3 f4 f5
    obtain ⟨o, eo, c, d⟩ := id st'
    exact ⟨u, rfl, go_of (s := { s with heap := h' }) eo c d (by decide) ⟨_, H, I1, ru, ⟨rfl, fun ys hy => by rw [I.list_inj hy hq]; exact hx⟩, st', fun b hb => (hf b hb).1⟩⟩
  done := by
    intro X hP hw hK hc i pins s σ H E I hf st hg
    subst hP hw hK
    obtain ⟨f0, f1, f2, f3, f4, f5⟩ := hf it (by simp)
    have hg2 : i = n := hg
    have e : (n : Int) - 1 - (i : Int) = -1 := by omega
    have st1 := st
    rw [e] at st1
    exact wpAny_pyNext_rev_end (I.ok.hd hc) st1 fun h' eb => ⟨rfl, I.turned (t' := s.toks) (fun b o hb e => eb b o hb e) f0 f1 f3 f4 f5⟩
  self := fun _ _ _ _ _ st h => wpAny_pyIter_revIter st h
section
variable {X : Cx} {tg : Expr}
def iRev (K : PySem.W.Frag) (te : TE) : TI := fun σ H R => te σ H fun x H1 => ∃ a xs, x = .ref a ∧ SqL K H1 a xs ∧ R (Itv K a xs.length) H1
theorem pi_rev {e : Expr} {te : TE} {p pos : Pos} (hg : Gl X "reversed") (hm : X.mg "reversed" = none) (he : PE X e te)
    (hs : starEach [e] X.env = (false, eval e X.env) :: starEach [] X.env := by exact star_of rfl) : PI X tg (.Call (.Name "reversed" p) [e] [] pos) (iRev X.K te) := by
  intro pins s σ H R I h
  refine wpAny_Call_Name_kw (ld_blt I hg hm boot_reversed ?_)
  refine PyProof.Rows.callWith_type1 ?_ hs rfl
  rw [hs]
  show wpAny _ _ (spliced ((false, eval e X.env) :: [])) _ _ s
  refine Calls.spliced_cons (thn (he pins s σ H _ I h) fun u s1 ⟨x, H1, I1, r1, q1⟩ => ?_)
  obtain ⟨a, xs, rfl, hq, q⟩ := q1
  cases r1
  refine Calls.spliced_nil ?_
  obtain ⟨its, r', pl, hz⟩ := I1.list hq
  have hlen := r'.length
  refine call_reversed_list pl.isList ?_
  have hit : (s1.heap.push (revObj a ((its.toArray.size : Int) - 1))).IsRevIter s1.heap.objs.size a ((its.toArray.size : Int) - 1) := ⟨_, Heap.get?_push_size _ rfl, rfl, rfl⟩
  refine wpAny_pyIter_revIter (s := { s1 with heap := s1.heap.push (revObj a ((its.toArray.size : Int) - 1)) }) hit ?_
  refine ⟨s1.heap.objs.size, [s1.heap.objs.size], _, _, H1, rfl, I1.kept (t' := s1.toks) fun b o e => Heap.get?_push_of_some _ e, turn_rev a _ xs.length, ?_, fun b hb => ?_, q⟩
  · have z : (xs.length : Int) - 1 - ((0 : Nat) : Int) = (its.toArray.size : Int) - 1 := by simp only [List.size_toArray]; omega
    show Heap.IsRevIter _ _ _ ((xs.length : Int) - 1 - ((0 : Nat) : Int))
    rw [z]
    exact hit
  · have e : b = s1.heap.objs.size := by simpa using hb
    subst e
    exact I1.fpOk (Nat.le_refl _) (I1.hok.fresh (Nat.le_refl _))
end
/-- over a list from its end, which the body leaves as it is -/
theorem for_rev {K : PySem.W.Frag} {a : Addr} {xs : List V} {g : TG} {tb : TS} {D : Ends} {σ : St} {H : Hp} (Pv : Nat → St → Hp → Prop) (h0 : Pv 0 σ H) (hl : ∀ i σ H, i ≤ xs.length → Pv i σ H → SqL K H a xs)
    (hs : ∀ i x σ H, xs.reverse[i]? = some x → Pv i σ H → g x σ H fun σ2 H2 => tb { D with nx := Pv (i + 1), ct := Pv (i + 1), bk := D.nx } σ2 H2) (hd : ∀ σ H, Pv xs.length σ H → D.nx σ H) :
    ∃ W : Nat → Nat → St → Hp → Prop, (∃ m, W 0 m σ H) ∧ ∀ i m σ H, W i m σ H →
      ((Itv K a xs.length).stop i H ∧ D.nx σ H) ∨ ((Itv K a xs.length).go i H ∧ ∃ N : St → Hp → Prop, (∀ σ' H', N σ' H' → ∃ m', m' < m ∧ W (i + 1) m' σ' H') ∧ ∀ x H', (Itv K a xs.length).yld i H x H' → g x σ H' fun σ2 H2 => tb { D with nx := N, ct := N, bk := D.nx } σ2 H2) := by
  refine ⟨fun i m σ H => m = xs.length - i ∧ i ≤ xs.length ∧ Pv i σ H, ⟨xs.length, by simp, Nat.zero_le _, h0⟩, ?_⟩
  rintro i m σ H ⟨rfl, hi, p⟩
  have q := hl i σ H hi p
  by_cases hlt : i < xs.length
  · refine .inr ⟨⟨hlt, xs, q, rfl⟩, Pv (i + 1), fun σ' H' p' => ⟨xs.length - (i + 1), by omega, rfl, hlt, p'⟩, fun x H' y => ?_⟩
    obtain ⟨e, y⟩ := y
    subst e
    exact hs i x σ _ (by rw [List.getElem?_reverse hlt]; exact y xs q) p
  · have e : i = xs.length := by omega
    subst e
    exact .inl ⟨rfl, hd σ H p⟩
end L2

set_option Elab.async false
set_option linter.all false
set_option maxRecDepth 100000
set_option maxHeartbeats 4000000
namespace K6
open PySem L2
/-- tuples stay -/
def Tk (H H' : Hp) : Prop := ∀ b xs, H b = some (.tup xs) → H' b = some (.tup xs)
theorem Tk.refl (H : Hp) : Tk H H := fun _ _ h => h
theorem Tk.trans {H H1 H2 : Hp} (a : Tk H H1) (b : Tk H1 H2) : Tk H H2 := fun c xs h => b c xs (a c xs h)
theorem tk_same {H H' : Hp} (g : Same H H') : Tk H H' := fun b xs h => g b _ h
theorem same_new {H : Hp} {p : Addr} (h : H p = none) (o : HO) : Same H (upd H p o) := fun b u q => by rw [upd_ne (ne_of_none q h)]; exact q
theorem tk_new {H : Hp} {p : Addr} (h : H p = none) (o : HO) : Tk H (upd H p o) := tk_same (same_new h o)
theorem tk_lst {H : Hp} {p : Addr} {xs : List V} (h : H p = some (.lst xs)) (o : HO) : Tk H (upd H p o) := fun b ys e => by rw [upd_ne (ne_of e h (fun z => by cases z))]; exact e
/-- all but one stays -/
def Ext (tp : Addr) (H H' : Hp) : Prop := ∀ b o, b ≠ tp → H b = some o → H' b = some o
theorem Ext.refl (tp : Addr) (H : Hp) : Ext tp H H := fun _ _ _ h => h
theorem Ext.trans {tp : Addr} {H H1 H2 : Hp} (a : Ext tp H H1) (b : Ext tp H1 H2) : Ext tp H H2 := fun c o n h => b c o n (a c o n h)
theorem Same.ext {tp : Addr} {H H' : Hp} (a : Same H H') : Ext tp H H' := fun c o _ h => a c o h
theorem Ext.upd {tp : Addr} {H : Hp} {o : HO} : Ext tp H (L2.upd H tp o) := fun b u n h => by rw [upd_ne n]; exact h
theorem tk_extL {H H' : Hp} {t : Addr} {ys : List V} (g : Ext t H H') (h : H t = some (.lst ys)) : Tk H H' := fun b xs e => g b _ (ne_of e h (fun z => by cases z)) e
/-- a tuple that stays: of the heap, or of the module -/
def TT (K : PySem.W.Frag) (H : Hp) (a : Addr) (xs : List V) : Prop := H a = some (.tup xs) ∨ False
theorem TT.mono {K : PySem.W.Frag} {H H' : Hp} (t : Tk H H') {a : Addr} {xs : List V} (h : TT K H a xs) : TT K H' a xs := h.imp (t _ _) id
theorem TT.sq {K : PySem.W.Frag} {H : Hp} {a : Addr} {xs : List V} (h : TT K H a xs) : SqT K H a xs := h.elim SqT.of False.elim
theorem TT.hp {K : PySem.W.Frag} {H : Hp} {a : Addr} {xs : List V} (h : TT K H a xs) : H a = some (.tup xs) := h.elim id False.elim
mutual
inductive DT (K : PySem.W.Frag) (H : Hp) : V → PyData → Prop
  | int (i : Int) : DT K H (.int i) (.int i)
  | str (x : Str) : DT K H (.str x) (.str x)
  | tup {a : Addr} {xs : List V} {ds : List PyData} : TT K H a xs → DTs K H xs ds → DT K H (.ref a) (.tuple ds)
inductive DTs (K : PySem.W.Frag) (H : Hp) : List V → List PyData → Prop
  | nil : DTs K H [] []
  | cons {x : V} {xs : List V} {d : PyData} {ds : List PyData} : DT K H x d → DTs K H xs ds → DTs K H (x :: xs) (d :: ds)
end
mutual
theorem DT.mono {K : PySem.W.Frag} {H H' : Hp} (e : Tk H H') : ∀ {v : V} {d : PyData}, DT K H v d → DT K H' v d
  | _, _, .int i => .int i
  | _, _, .str x => .str x
  | _, _, .tup h r => .tup (h.mono e) (DTs.mono e r)
theorem DTs.mono {K : PySem.W.Frag} {H H' : Hp} (e : Tk H H') : ∀ {v : List V} {d : List PyData}, DTs K H v d → DTs K H' v d
  | _, _, .nil => .nil
  | _, _, .cons h r => .cons (DT.mono e h) (DTs.mono e r)
end
mutual
theorem DT.rd {K : PySem.W.Frag} {H : Hp} : ∀ {v : V} {d : PyData}, DT K H v d → RdD K H v d
  | _, _, .int i => .int i
  | _, _, .str x => .str x
  | _, _, .tup h r => .tup h.sq (DTs.rd r)
theorem DTs.rd {K : PySem.W.Frag} {H : Hp} : ∀ {v : List V} {d : List PyData}, DTs K H v d → RdAll K H v d
  | _, _, .nil => .nil
  | _, _, .cons h r => .cons (DT.rd h) (DTs.rd r)
end
theorem DTs.len {K : PySem.W.Frag} {H : Hp} : ∀ {v : List V} {d : List PyData}, DTs K H v d → v.length = d.length
  | _, _, .nil => rfl
  | _, _, .cons h r => by rw [List.length_cons, List.length_cons, DTs.len r]
theorem DTs.snoc {K : PySem.W.Frag} {H : Hp} {x : V} {d : PyData} (q : DT K H x d) : ∀ {v : List V} {ds : List PyData}, DTs K H v ds → DTs K H (v ++ [x]) (ds ++ [d])
  | _, _, .nil => .cons q .nil
  | _, _, .cons h r => .cons h (DTs.snoc q r)
theorem DTs.append {K : PySem.W.Frag} {H : Hp} : ∀ {v v' : List V} {ds ds' : List PyData}, DTs K H v ds → DTs K H v' ds' → DTs K H (v ++ v') (ds ++ ds')
  | _, _, _, _, .nil, q => q
  | _, _, _, _, .cons h r, q => .cons h (DTs.append r q)
theorem DTs.take {K : PySem.W.Frag} {H : Hp} : ∀ (i : Nat) {v : List V} {ds : List PyData}, DTs K H v ds → DTs K H (v.take i) (ds.take i)
  | 0, _, _, _ => by rw [List.take_zero, List.take_zero]; exact .nil
  | i + 1, _, _, .nil => .nil
  | i + 1, _, _, .cons h r => .cons h (DTs.take i r)
theorem DTs.drop {K : PySem.W.Frag} {H : Hp} : ∀ (i : Nat) {v : List V} {ds : List PyData}, DTs K H v ds → DTs K H (v.drop i) (ds.drop i)
  | 0, _, _, q => q
  | i + 1, _, _, .nil => .nil
  | i + 1, _, _, .cons h r => DTs.drop i r
theorem DTs.get {K : PySem.W.Frag} {H : Hp} : ∀ {v : List V} {d : List PyData}, DTs K H v d → ∀ (i : Nat) (x : V), v[i]? = some x → ∃ e, d[i]? = some e ∧ DT K H x e
  | _, _, .nil, i, x, h => by simp at h
  | _, _, .cons h r, 0, x, q => by simp at q; subst q; exact ⟨_, rfl, h⟩
  | _, _, .cons h r, i + 1, x, q => by
    obtain ⟨e, e1, e2⟩ := DTs.get r i x (by simpa using q)
    exact ⟨e, by simpa using e1, e2⟩
def top (i : Nat) : Stmt := PySem.Challenge.pw_everyfork_k07_lines_and_spots.main.body.getD i (.Pass ⟨0, 0, 0, 0⟩)
abbrev s_inner_of : Stmt := top 3
abbrev s_may_break : Stmt := top 4
abbrev s_bodies_of : Stmt := top 6
abbrev s_lines_in : Stmt := top 7
abbrev s_lines_of : Stmt := top 8
abbrev s_within : Stmt := top 9
abbrev s_spots_of_line : Stmt := top 10
abbrev s_spots_of : Stmt := top 11
abbrev s_l_tape : Stmt := top 13
abbrev s_l_draw : Stmt := top 14
abbrev s_l_names : Stmt := top 15
abbrev s_l_records : Stmt := top 16
abbrev s_l_kind : Stmt := top 17
abbrev s_l_heads : Stmt := top 18
abbrev s_l_count : Stmt := top 19
abbrev s_l_leaf : Stmt := top 20
abbrev s_l_num : Stmt := top 21
abbrev s_l_row : Stmt := top 22
abbrev s_l_e : Stmt := top 23
abbrev s_l_bounded : Stmt := top 24
abbrev s_l_condition : Stmt := top 25
abbrev s_l_body : Stmt := top 26
abbrev s_l_statement : Stmt := top 27
abbrev s_l_kit : Stmt := top 28
abbrev s_l_program : Stmt := top 29
abbrev s_l_lines : Stmt := top 30
abbrev s_l_looks_up : Stmt := top 31
abbrev s_l_line_spots : Stmt := top 32
abbrev s_law : Stmt := top 33
theorem b_isi : bootBuiltins "isinstance" = some (.builtin "isinstance") := by decide +kernel
theorem b_int : bootBuiltins "int" = some (.type "int") := by decide +kernel
theorem b_str : bootBuiltins "str" = some (.type "str") := by decide +kernel
theorem b_tuple : bootBuiltins "tuple" = some (.type "tuple") := by decide +kernel
theorem b_list : bootBuiltins "list" = some (.type "list") := by decide +kernel
theorem b_len : bootBuiltins "len" = some (.builtin "len") := by decide +kernel
theorem b_repr : bootBuiltins "repr" = some (.builtin "repr") := by decide +kernel
def PL : List Str := ["num", "text", "row"]
structure G0 (mg : Str → Option Value) : Prop where
  isi : mg "isinstance" = none
  int : mg "int" = none
  bool : mg "bool" = none
  str : mg "str" = none
  tuple : mg "tuple" = none
  list : mg "list" = none
  dict : mg "dict" = none
  all : mg "all" = none
  ord : mg "ord" = none
  len : mg "len" = none
  repr : mg "repr" = none
  range : mg "range" = none
/-- a def of the text, its promise, how it is called -/
structure Cal (P : Program) (w : World) (K : PySem.W.Frag) (mg : Str → Option Value) (base : Heap) (k : Nat) (x : Str) (ps : List Str) (sp : Sp) : Prop where
  ex : ∃ g gd, FnOk P w K mg base CX0 k g gd ps sp ∧ Binds K gd ps [] ∧ PySem.W.keepIn K (.ref g) = true ∧ mg x = some (.ref g)
end K6

set_option Elab.async false
set_option linter.all false
set_option maxRecDepth 100000
set_option maxHeartbeats 4000000
namespace K6
open PySem L2
abbrev Fld := Str × Str
abbrev Rec := Str × List Fld
def FldAt (H : Hp) (v : V) (p : Fld) : Prop := ∃ a, v = .ref a ∧ H a = some (.tup [.str p.1, .str p.2])
def FldsAt (H : Hp) (v : V) (fs : List Fld) : Prop := ∃ a xs, v = .ref a ∧ H a = some (.tup xs) ∧ Paired (FldAt H) xs fs
def RecAt (H : Hp) (v : V) (r : Rec) : Prop := ∃ a y, v = .ref a ∧ H a = some (.tup [.str r.1, y]) ∧ FldsAt H y r.2
def RecsAt (H : Hp) (v : V) (R : List Rec) : Prop := ∃ a xs, v = .ref a ∧ H a = some (.tup xs) ∧ Paired (RecAt H) xs R
def ProgAt (H : Hp) (v : V) (R : List Rec) : Prop := ∃ a y z, v = .ref a ∧ H a = some (.tup [y, z]) ∧ RecsAt H y R
theorem FldAt.mono {H H' : Hp} (t : Tk H H') {v : V} {p : Fld} (h : FldAt H v p) : FldAt H' v p := let ⟨a, e, q⟩ := h; ⟨a, e, t _ _ q⟩
theorem FldsAt.mono {H H' : Hp} (t : Tk H H') {v : V} {p : List Fld} (h : FldsAt H v p) : FldsAt H' v p := let ⟨a, xs, e, q, r⟩ := h; ⟨a, xs, e, t _ _ q, Paired.mapP r fun _ _ z => z.mono t⟩
theorem RecAt.mono {H H' : Hp} (t : Tk H H') {v : V} {p : Rec} (h : RecAt H v p) : RecAt H' v p := let ⟨a, y, e, q, r⟩ := h; ⟨a, y, e, t _ _ q, r.mono t⟩
theorem RecsAt.mono {H H' : Hp} (t : Tk H H') {v : V} {p : List Rec} (h : RecsAt H v p) : RecsAt H' v p := let ⟨a, xs, e, q, r⟩ := h; ⟨a, xs, e, t _ _ q, Paired.mapP r fun _ _ z => z.mono t⟩
theorem ProgAt.mono {H H' : Hp} (t : Tk H H') {v : V} {p : List Rec} (h : ProgAt H v p) : ProgAt H' v p := let ⟨a, y, z, e, q, r⟩ := h; ⟨a, y, z, e, t _ _ q, r.mono t⟩
theorem paired_at {α β : Type} {F : α → β → Prop} : ∀ {l : List α} {m : List β}, Paired F l m → ∀ (j : Nat) a, l[j]? = some a → ∃ b, m[j]? = some b ∧ F a b
  | _, _, .nil, _, _, h => by simp at h
  | _, _, .cons h t, 0, _, h1 => by simp at h1; subst h1; exact ⟨_, rfl, h⟩
  | _, _, .cons h t, j + 1, _, h1 => by
    obtain ⟨b, e, q⟩ := paired_at t j _ (by simpa using h1)
    exact ⟨b, by simpa using e, q⟩
/-- the mirror -/
def look (R : List Rec) (k : Str) : List Fld := ((R.find? fun r => decide (r.1 = k)).map (·.2)).getD []
def Deep (R : List Rec) : Nat → Str → Prop
  | 0, _ => False
  | n + 1, k => (k ∈ PL) ∨ (k ∉ PL ∧ k ∈ R.map (·.1) ∧ (1 ≤ (look R k).length ∧ (look R k).length ≤ 3) ∧ ∀ p ∈ look R k, Deep R n p.2)
end K6
namespace K6
open PySem L2
theorem eqS {k x : Str} (c : decide (V.str k = V.str x) = true) : k = x := V.str.inj (of_decide_eq_true c)
theorem neS {k x : Str} (c : ¬ decide (V.str k = V.str x) = true) : ¬ k = x := fun e => c (decide_eq_true (congrArg V.str e))
theorem at0 {α : Type} (x : α) (ys : List α) : atI (x :: ys) 0 = some x := atI_nat (j := 0) (show (x :: ys)[0]? = some x from rfl)
theorem atI0 {α : Type} {xs : List α} {j : Nat} {v : α} (h : xs[j]? = some v) : atI xs (0 + (j : Int)) = some v := by rw [Int.zero_add]; exact atI_nat h
end K6
namespace L2
open PySem PySem.Spec PyProof.Rows
section
variable {X : Cx}
def rNil (K : PySem.W.Frag) (neg : Bool) : R2 := fun x y H Q => ∃ a b xs, x = .ref a ∧ y = .ref b ∧ SqL K H a xs ∧ SqL K H b [] ∧ Q (.bl (if neg then !xs.isEmpty else xs.isEmpty)) H
theorem op_eqNil (hu : X.A.units < cLine) : OpR X (compareOp .Eq) (rNil X.K false) := by
  intro pins s σ H x y v u Q I rx ry h
  obtain ⟨a, b, xs, rfl, rfl, ha, hb, q⟩ := h
  cases rx
  cases ry
  obtain ⟨i1, r1, p1, _⟩ := I.list ha
  obtain ⟨i2, r2, p2, _⟩ := I.list hb
  cases r2
  cases r1 with
  | nil => exact SeqAt.eq_listAt (e := fun _ => true) p1.isList p2.isList rfl hu (fun j h1 h2 => absurd h1 (by simp)) (fin_bl I q rfl)
  | cons r rr => exact SeqAt.eq_list_lengthsAt p1.isList p2.isList (by simp) hu (fin_bl I q rfl)
theorem op_neNil (hu : X.A.units < cLine) : OpR X (compareOp .NotEq) (rNil X.K true) := by
  intro pins s σ H x y v u Q I rx ry h
  obtain ⟨a, b, xs, rfl, rfl, ha, hb, q⟩ := h
  cases rx
  cases ry
  obtain ⟨i1, r1, p1, _⟩ := I.list ha
  obtain ⟨i2, r2, p2, _⟩ := I.list hb
  cases r2
  cases r1 with
  | nil => exact SeqAt.RcNeAt.lists (e := fun _ => true) p1.isList p2.isList rfl hu (fun j h1 h2 => absurd h1 (by simp)) _ _ _ _ (fin_bl I q rfl)
  | cons r rr => exact SeqAt.RcNeAt.lists_lengths p1.isList p2.isList (by simp) hu _ _ _ _ (fin_bl I q rfl)
end
end L2
namespace K6
open PySem L2
theorem look_hd {R : List Rec} {k : Str} (h : k ∈ R.map (·.1)) : ∃ rest, (R.filter fun r => decide (r.1 = k)).map (·.2) = look R k :: rest := by
  induction R with
  | nil => simp at h
  | cons r rs ih =>
    by_cases e : r.1 = k
    · refine ⟨(rs.filter fun r => decide (r.1 = k)).map (·.2), ?_⟩
      rw [List.filter_cons, if_pos (decide_eq_true e), List.map_cons]
      unfold look
      rw [List.find?_cons, decide_eq_true e]
      rfl
    · have h' : k ∈ rs.map (·.1) := by
        rcases List.mem_cons.mp h with z | z
        · exact absurd z.symm e
        · exact z
      obtain ⟨rest, q⟩ := ih h'
      refine ⟨rest, ?_⟩
      rw [List.filter_cons, if_neg (by simp [e]), q]
      unfold look
      rw [List.find?_cons, decide_eq_false e]
end K6
namespace K6
open PySem L2
def Tp (H : Hp) (tp : Addr) : Prop := ∃ sc k r ns, H tp = some (.lst [.ref sc, .int k, .int r]) ∧ H sc = some (.lst (List.map V.int ns))
theorem Tp.same {H H' : Hp} {tp : Addr} (t : Tp H tp) (g : Same H H') : Tp H' tp := by
  obtain ⟨sc, k, r, ns, h1, h2⟩ := t
  exact ⟨sc, k, r, ns, g _ _ h1, g _ _ h2⟩
theorem Tp.ne {H : Hp} {tp : Addr} (t : Tp H tp) {b : Addr} {xs : List V} (h : H b = some (.tup xs)) : b ≠ tp := by
  obtain ⟨sc, k, r, ns, h1, h2⟩ := t
  exact ne_of h h1 (fun z => by cases z)
/-- the tape's list stays the same one -/
def TS (tp : Addr) (H H' : Hp) : Prop := ∀ sc k r, H tp = some (.lst [.ref sc, .int k, .int r]) → ∃ k' r', H' tp = some (.lst [.ref sc, .int k', .int r'])
theorem TS.refl (tp : Addr) (H : Hp) : TS tp H H := fun _ k r h => ⟨k, r, h⟩
theorem TS.trans {tp : Addr} {H H1 H2 : Hp} (a : TS tp H H1) (b : TS tp H1 H2) : TS tp H H2 := fun sc k r h => by
  obtain ⟨k', r', e⟩ := a sc k r h
  exact b sc k' r' e
theorem Same.ts {tp : Addr} {H H' : Hp} (g : Same H H') : TS tp H H' := fun sc k r h => ⟨k, r, g _ _ h⟩
section
variable {P : Program} {w : World} {K : PySem.W.Frag} {mg : Str → Option Value} {base : Heap} {f g : Addr} {fd gd : FuncData}
def spTape (K : PySem.W.Frag) : Sp := fun vs H Q _ => ∃ a ns, vs = [.ref a] ∧ SqL K H a (List.map V.int ns) ∧ ∀ t H', Same H H' → Tp H' t → Q (.ref t) H'
theorem scTape : FnScope ["_law_script"] ["_law_script"] (defScope s_l_tape) := ⟨rfl, rfl, rfl, by decide +kernel, rfl, by decide +kernel, by decide +kernel⟩
theorem cutV_int (ns : List Int) (lo hi : Option Int) : ∃ ms : List Int, cutV (ns.map V.int) lo hi = ms.map V.int := by
  unfold cutV
  rw [List.length_map, ← List.map_drop, ← List.map_take]
  exact ⟨_, rfl⟩
theorem ok_tape (T : G0 mg) (F : Fun K "_law_tape" "_law_tape" s_l_tape f fd) : FnOk P w K mg base CX0 1 f fd ["_law_script"] (spTape K) := by
  refine F.ok scTape (fun vs H Q E h => ?_) (fun cdv A outer s H vs Q E hr h => ?_)
  · obtain ⟨a, ns, rfl, _⟩ := h
    rfl
  obtain ⟨a, ns, rfl, hS, q⟩ := h
  refine ⟨_, pss_one (ps_ret (pe_lst (pa_cons (pe_slice sl_list (pv 0) po_none (po_some pe_int)) (pa_cons pe_int (pa_cons pe_int pa_nil))))), ?_⟩
  obtain ⟨ms, em⟩ := cutV_int ns none (some 63)
  refine ⟨_, rfl, _, rfl, a, _, rfl, hS, fun p hp => ?_⟩
  refine ⟨(by show 3 ≤ sizeLine; decide), fun t ht => ?_⟩
  refine q t _ ((same_new hp _).trans (same_new ht _)) ⟨p, 0, 0, ms, upd_same, ?_⟩
  rw [upd_ne (fun z => by rw [← z, upd_same] at ht; cases ht), upd_same, em]
theorem atI_ex {α : Type} {xs : List α} {i : Int} (h0 : 0 ≤ i) (h1 : i < xs.length) : ∃ v, v ∈ xs ∧ xs[i.toNat]? = some v ∧ atI xs i = some v := by
  have hi : i.toNat < xs.length := by omega
  have e : xs[i.toNat]? = some xs[i.toNat] := List.getElem?_eq_getElem hi
  refine ⟨_, List.getElem_mem hi, e, ?_⟩
  have q := atI_nat e
  rwa [show ((i.toNat : Nat) : Int) = i by omega] at q
theorem small_mod (a : Int) : -(2 ^ 64) < a % 2147483629 ∧ a % 2147483629 < 2 ^ 64 := by
  have h1 := Int.emod_nonneg a (show (2147483629 : Int) ≠ 0 by decide)
  have h2 := Int.emod_lt_of_pos a (show (0 : Int) < 2147483629 by decide)
  constructor <;> omega
theorem cpow18 : CPow 10 18 := ⟨by decide, by decide, by decide⟩
theorem cmulR {i j : Int} (h1 : -(2 ^ 64) < j) (h2 : j < 2 ^ 64) : CMul i j := .inr ⟨h1, h2⟩
def spDraw2 : Sp := fun vs H Q _ => ∃ tp many, vs = [.ref tp, .int many] ∧ Tp H tp ∧ 0 < many ∧ many ≤ 1000 ∧ ∀ (v : Int) (H' : Hp), 0 ≤ v → v < many → Ext tp H H' → Tp H' tp → TS tp H H' → Q (.int v) H'
theorem scDraw : FnScope ["_law_tape_here", "_law_many", "_law_cell", "_law_mixed", "_law_found"] ["_law_tape_here", "_law_many"] (defScope s_l_draw) := ⟨rfl, rfl, rfl, by decide +kernel, rfl, by decide +kernel, by decide +kernel⟩
theorem ok_draw2 (T : G0 mg) (F : Fun K "_law_draw" "_law_draw" s_l_draw f fd) : FnOk P w K mg base CX0 1 f fd ["_law_tape_here", "_law_many"] spDraw2 := by
  refine F.ok scDraw (fun vs H Q E h => ?_) (fun cdv A outer s H vs Q E hr h => ?_)
  · obtain ⟨tp, many, rfl, _⟩ := h
    rfl
  obtain ⟨tp, many, rfl, ht, hm0, hm1, q⟩ := h
  obtain ⟨sc, k, r, ns, h1, h2⟩ := ht
  have hne : sc ≠ tp := ne_of h2 h1 (fun z => by injection z with z; cases ns <;> cases z)
  refine ⟨_, pss_cons (ps_asg (pe_op op_add (pe_ix ix_list (pv 0) pe_int (fun _ _ => rfl)) pe_int) (pg_sub (pv 0) pe_int set_list))
    (pss_cons (ps_if (pt_cmpR op_eq (pe_ix ix_list (pv 0) pe_int (fun _ _ => rfl)) pe_int (nomark _))
     (pss_cons (ps_set (i := 2) scDraw.nd rfl (Or.inl rfl) pe_int)
      (pss_cons (ps_if (pt_cmpR op_gt (pe_callB call_len_seq rfl T.len b_len (pa_cons (pe_ix ix_list (pv 0) pe_int (fun _ _ => rfl)) pa_nil)) pe_int (nomark _))
          (pss_one (ps_set (i := 2) scDraw.nd rfl (Or.inl rfl) (pe_ix ix_list (pe_ix ix_list (pv 0) pe_int (fun _ _ => rfl)) (pe_op op_mod (pe_ix ix_list (pv 0) pe_int (fun _ _ => rfl)) (pe_callB call_len_seq rfl T.len b_len (pa_cons (pe_ix ix_list (pv 0) pe_int (fun _ _ => rfl)) pa_nil))) (fun _ _ => rfl)))) pss_nil)
      (pss_cons (ps_if (pt_cmpR op_lt (pv 2) (pe_op op_pow pe_int pe_int) (nomark _))
          (pss_cons (ps_set (i := 3) scDraw.nd rfl (Or.inl rfl) (pe_op op_mod (pe_op op_add (pe_op op_add (pe_op op_mul (pe_op op_mod (pv 2) pe_int) pe_int) (pe_op op_mul (pe_ix ix_list (pv 0) pe_int (fun _ _ => rfl)) pe_int)) pe_int) pe_int))
           (pss_cons (ps_set (i := 3) scDraw.nd rfl (Or.inl rfl) (pe_op op_mod (pe_op op_mul (pv 3) (pe_op op_add (pv 3) pe_int)) pe_int))
            (pss_one (ps_ret (pe_op op_mod (pe_op op_mod (pe_op op_mul (pv 3) pe_int) pe_int) (pv 1)))))) pss_nil)
      (pss_one (ps_asg (pe_op op_sub (pv 2) (pe_op op_pow pe_int pe_int)) (pg_sub (pv 0) pe_int set_list))))))
     pss_nil)
    (pss_cons (ps_set (i := 4) scDraw.nd rfl (Or.inl rfl) (pe_op op_mod (pe_ix ix_list (pv 0) pe_int (fun _ _ => rfl)) (pv 1)))
    (pss_cons (ps_asg (pe_op op_fdiv (pe_ix ix_list (pv 0) pe_int (fun _ _ => rfl)) (pv 1)) (pg_sub (pv 0) pe_int set_list))
    (pss_one (ps_ret (pv 4)))))), ?_⟩
  have X1 : Ext tp H (upd H tp (.lst [.ref sc, .int (k + 1), .int r])) := Ext.upd
  have e1 : (upd H tp (.lst [.ref sc, .int (k + 1), .int r])) tp = some (.lst [.ref sc, .int (k + 1), .int r]) := upd_same
  have e2 : (upd H tp (.lst [.ref sc, .int (k + 1), .int r])) sc = some (.lst (List.map V.int ns)) := X1 _ _ hne h2
  refine ⟨_, rfl, tp, _, _, _, rfl, rfl, SqL.of h1, rfl, _, _, rfl, rfl, _, rfl, tp, _, _, _, rfl, rfl, h1, rfl, ?_⟩
  refine ⟨_, rfl, tp, _, _, _, rfl, rfl, SqL.of e1, rfl, rfl, _, rfl, ?_⟩
  have fin : ∀ {k' r' v : Int} {H' : Hp}, H' tp = some (.lst [.ref sc, .int k', .int r']) → Ext tp H H' → 0 ≤ v → v < many → Q (.int v) H' := fun {k' r' v H'} a b c d => q v H' c d b ⟨sc, k', r', ns, a, b _ _ hne h2⟩ (fun sc2 k2 r2 e => by rw [h1] at e; cases e; exact ⟨_, _, a⟩)
  -- the tail: from any state with the tape
  refine ite2 (fun c => ?_) (fun c => ?_)
  · refine ⟨_, rfl, tp, _, _, _, rfl, rfl, SqL.of e1, rfl, sc, _, rfl, .inl (SqL.of e2), _, _, rfl, rfl, _, rfl, ?_⟩
    refine ite2 (fun c2 => ?_) (fun c2 => ?_)
    · have hl : 0 < ns.length := by simpa using of_decide_eq_true c2
      have hb := Int.emod_lt_of_pos (k + 1) (show (0 : Int) < ns.length by omega)
      have ha := Int.emod_nonneg (k + 1) (show (ns.length : Int) ≠ 0 by omega)
      obtain ⟨v, hv, _, hat⟩ := atI_ex (xs := List.map V.int ns) (i := (k + 1) % ((List.map V.int ns).length : Nat)) (by rw [List.length_map]; exact ha) (by rw [List.length_map]; exact hb)
      obtain ⟨cell, _, rfl⟩ := List.mem_map.mp hv
      refine ⟨_, rfl, tp, _, _, _, rfl, rfl, SqL.of e1, rfl, _, rfl, tp, _, _, _, rfl, rfl, SqL.of e1, rfl, _, rfl, tp, _, _, _, rfl, rfl, SqL.of e1, rfl, sc, _, rfl, .inl (SqL.of e2), _, _, rfl, rfl, ?_, ?_⟩
      · show (0 : Int) < ((List.map V.int ns).length : Nat)
        rw [List.length_map]; omega
      refine ⟨sc, _, _, _, rfl, rfl, SqL.of e2, hat, ?_⟩
      refine ⟨_, rfl, _, _, rfl, rfl, cpow18, _, _, rfl, rfl, _, rfl, ?_⟩
      refine ite2 (fun c3 => ?_) (fun c3 => ?_)
      · refine ⟨_, rfl, _, _, rfl, rfl, (by show (0 : Int) < 2147483647; decide), _, _, rfl, rfl, cmulR (by decide) (by decide), _, rfl, tp, _, _, _, rfl, rfl, SqL.of e1, rfl, _, _, rfl, rfl, cmulR (by decide) (by decide), _, _, rfl, rfl, _, _, rfl, rfl, _, _, rfl, rfl, (by show (0 : Int) < 2147483629; decide), ?_⟩
        refine ⟨_, rfl, _, rfl, _, _, rfl, rfl, _, _, rfl, rfl, ?_, _, _, rfl, rfl, (by show (0 : Int) < 2147483587; decide), _, rfl, _, _, rfl, rfl, cmulR (by decide) (by decide), _, _, rfl, rfl, (by show (0 : Int) < 2147483563; decide), _, rfl, _, _, rfl, rfl, hm0, ?_⟩
        · exact .inl (small_mod _)
        · exact fin e1 X1 (Int.emod_nonneg _ (by omega)) (Int.emod_lt_of_pos _ hm0)
      · refine ⟨_, rfl, _, _, rfl, rfl, cpow18, _, _, rfl, rfl, _, rfl, tp, _, _, _, rfl, rfl, e1, rfl, ?_⟩
        have e3 : (upd (upd H tp (.lst [.ref sc, .int (k + 1), .int r])) tp (.lst [.ref sc, .int (k + 1), .int (cell - 10 ^ 18)])) tp = some (.lst [.ref sc, .int (k + 1), .int (cell - 10 ^ 18)]) := upd_same
        refine ⟨_, rfl, tp, _, _, _, rfl, rfl, SqL.of e3, rfl, _, rfl, _, _, rfl, rfl, hm0, _, rfl, tp, _, _, _, rfl, rfl, SqL.of e3, rfl, _, rfl, _, _, rfl, rfl, ⟨hm0, by omega⟩, _, rfl, tp, _, _, _, rfl, rfl, e3, rfl, _, rfl, ?_⟩
        exact fin upd_same ((X1.trans Ext.upd).trans Ext.upd) (Int.emod_nonneg _ (by omega)) (Int.emod_lt_of_pos _ hm0)
    · refine ⟨_, rfl, _, _, rfl, rfl, cpow18, _, _, rfl, rfl, _, rfl, ?_⟩
      refine ite2 (fun c3 => ?_) (fun c3 => absurd (show decide ((0 : Int) < 10 ^ (18 : Int).toNat) = true by decide) c3)
      · refine ⟨_, rfl, _, _, rfl, rfl, (by show (0 : Int) < 2147483647; decide), _, _, rfl, rfl, cmulR (by decide) (by decide), _, rfl, tp, _, _, _, rfl, rfl, SqL.of e1, rfl, _, _, rfl, rfl, cmulR (by decide) (by decide), _, _, rfl, rfl, _, _, rfl, rfl, _, _, rfl, rfl, (by show (0 : Int) < 2147483629; decide), ?_⟩
        refine ⟨_, rfl, _, rfl, _, _, rfl, rfl, _, _, rfl, rfl, ?_, _, _, rfl, rfl, (by show (0 : Int) < 2147483587; decide), _, rfl, _, _, rfl, rfl, cmulR (by decide) (by decide), _, _, rfl, rfl, (by show (0 : Int) < 2147483563; decide), _, rfl, _, _, rfl, rfl, hm0, ?_⟩
        · exact .inl (small_mod _)
        · exact fin e1 X1 (Int.emod_nonneg _ (by omega)) (Int.emod_lt_of_pos _ hm0)
  · have e3 := e1
    refine ⟨_, rfl, tp, _, _, _, rfl, rfl, SqL.of e3, rfl, _, rfl, _, _, rfl, rfl, hm0, _, rfl, tp, _, _, _, rfl, rfl, SqL.of e3, rfl, _, rfl, _, _, rfl, rfl, ⟨hm0, by omega⟩, _, rfl, tp, _, _, _, rfl, rfl, e3, rfl, _, rfl, ?_⟩
    exact fin upd_same (X1.trans Ext.upd) (Int.emod_nonneg _ (by omega)) (Int.emod_lt_of_pos _ hm0)
end
end K6

set_option Elab.async false
set_option linter.all false
set_option maxRecDepth 100000
set_option maxHeartbeats 4000000
namespace K6
open PySem L2
/-- what may happen between two draws: only the tape turns, its script stays -/
structure Go (tp : Addr) (H H' : Hp) : Prop where
  x : Ext tp H H'
  t : Tp H' tp
  y : TS tp H H'
theorem Go.trans {tp : Addr} {H H1 H2 : Hp} (a : Go tp H H1) (b : Go tp H1 H2) : Go tp H H2 := ⟨a.x.trans b.x, b.t, a.y.trans b.y⟩
theorem Go.refl {tp : Addr} {H : Hp} (t : Tp H tp) : Go tp H H := ⟨Ext.refl _ _, t, TS.refl _ _⟩
theorem Go.same {tp : Addr} {H H' : Hp} (t : Tp H tp) (g : Same H H') : Go tp H H' := ⟨Same.ext g, t.same g, Same.ts g⟩
theorem Go.new {tp p : Addr} {H H1 : Hp} (a : Go tp H H1) (h : H1 p = none) (o : HO) : Go tp H (upd H1 p o) := a.trans (Go.same a.t (same_new h o))
theorem Tp.nt {H : Hp} {tp p : Addr} (t : Tp H tp) (h : H p = none) : p ≠ tp := by obtain ⟨_, _, _, _, e, _⟩ := t; exact (ne_of_none e h).symm
theorem Go.free {tp p : Addr} {H H1 : Hp} (a : Go tp H H1) (t : Tp H tp) (h : H1 p = none) : H p = none := by
  cases e : H p with
  | none => rfl
  | some o =>
    have := a.x p o (a.t.nt h) e
    rw [h] at this; cases this
def POOL : List Str := ["a", "ab", "abc", "b", "ba", "let", "end", "var", "add", "abcdefgh", "record", "x"]
def pk (v s : Nat) (m : Nat) : Str := POOL.getD ((v + s * m) % 12) ""
theorem pool_nd3 : ∀ v : Fin 12, ∀ s ∈ ([1, 5, 7, 11] : List Nat), ((List.range 5).map (pk v.val s)).Nodup := by decide +kernel
theorem pool_nd {v s n : Nat} (hv : v < 12) (hs : s ∈ ([1, 5, 7, 11] : List Nat)) (hn : n ≤ 5) : ((List.range n).map (pk v s)).Nodup := by
  have h := pool_nd3 ⟨v, hv⟩ s hs
  have e : (List.range n).map (pk v s) = ((List.range 5).map (pk v s)).take n := by
    rw [← List.map_take, List.take_range, Nat.min_eq_left hn]
  rw [e]
  exact h.sublist (List.take_sublist _ _)
section
variable {P : Program} {w : World} {K : PySem.W.Frag} {mg : Str → Option Value} {base : Heap} {f g : Addr} {fd gd : FuncData}
abbrev dP : List Str := ["_law_tape_here", "_law_many"]
abbrev nN : List Str := ["_law_tape_here", "_law_many", "_law_pool", "_law_start", "_law_step"]
abbrev nNb : List Str := ["_law_k", "_law_pool", "_law_start", "_law_step"]
theorem scNames : FnScope nN dP (defScope s_l_names) := ⟨rfl, rfl, rfl, by decide +kernel, rfl, by decide +kernel, by decide +kernel⟩
theorem ndNb : nNb.Nodup := by decide +kernel
def spNames : Sp := fun vs H Q _ => ∃ tp many, vs = [.ref tp, .int many] ∧ Tp H tp ∧ 0 ≤ many ∧ many ≤ 5 ∧ ∀ r (l : List Str) H', Go tp H H' → H r = none → H' r = some (.lst (l.map V.str)) → l.length = many.toNat → (∀ z ∈ l, z ∈ POOL) → l.Nodup → Q (.ref r) H'
theorem ok_names (T : G0 mg) (F : Fun K "_law_names" "_law_names" s_l_names f fd) (D : Cal P w K mg base 1 "_law_draw" dP spDraw2) : FnOk P w K mg base CX0 2 f fd dP spNames := by
  obtain ⟨g, gd, Gd, bG, kG, mG⟩ := D.ex
  refine F.ok scNames (fun vs H Q E h => ?_) (fun cdv A outer s H vs Q E hr h => ?_)
  · obtain ⟨tp, many, rfl, _⟩ := h
    rfl
  obtain ⟨tp, many, rfl, ht, hm0, hm1, q⟩ := h
  refine ⟨_, @pss_cons (cxOf CX0 P w K mg base nN "_law_names" (defScope s_l_names) f cdv A outer s H E).nox _ _ _ _ (@ps_set (cxOf CX0 P w K mg base nN "_law_names" (defScope s_l_names) f cdv A outer s H E).nox _ 2 _ _ _ _ scNames.nd rfl (Or.inr rfl) (@pe_lst (cxOf CX0 P w K mg base nN "_law_names" (defScope s_l_names) f cdv A outer s H E).nox _ _ _ (@pa_cons (cxOf CX0 P w K mg base nN "_law_names" (defScope s_l_names) f cdv A outer s H E).nox _ _ _ _ (@pe_str (cxOf CX0 P w K mg base nN "_law_names" (defScope s_l_names) f cdv A outer s H E).nox _ _ _) (@pa_cons (cxOf CX0 P w K mg base nN "_law_names" (defScope s_l_names) f cdv A outer s H E).nox _ _ _ _ (@pe_str (cxOf CX0 P w K mg base nN "_law_names" (defScope s_l_names) f cdv A outer s H E).nox _ _ _) (@pa_cons (cxOf CX0 P w K mg base nN "_law_names" (defScope s_l_names) f cdv A outer s H E).nox _ _ _ _ (@pe_str (cxOf CX0 P w K mg base nN "_law_names" (defScope s_l_names) f cdv A outer s H E).nox _ _ _) (@pa_cons (cxOf CX0 P w K mg base nN "_law_names" (defScope s_l_names) f cdv A outer s H E).nox _ _ _ _ (@pe_str (cxOf CX0 P w K mg base nN "_law_names" (defScope s_l_names) f cdv A outer s H E).nox _ _ _) (@pa_cons (cxOf CX0 P w K mg base nN "_law_names" (defScope s_l_names) f cdv A outer s H E).nox _ _ _ _ (@pe_str (cxOf CX0 P w K mg base nN "_law_names" (defScope s_l_names) f cdv A outer s H E).nox _ _ _) (@pa_cons (cxOf CX0 P w K mg base nN "_law_names" (defScope s_l_names) f cdv A outer s H E).nox _ _ _ _ (@pe_str (cxOf CX0 P w K mg base nN "_law_names" (defScope s_l_names) f cdv A outer s H E).nox _ _ _) (@pa_cons (cxOf CX0 P w K mg base nN "_law_names" (defScope s_l_names) f cdv A outer s H E).nox _ _ _ _ (@pe_str (cxOf CX0 P w K mg base nN "_law_names" (defScope s_l_names) f cdv A outer s H E).nox _ _ _) (@pa_cons (cxOf CX0 P w K mg base nN "_law_names" (defScope s_l_names) f cdv A outer s H E).nox _ _ _ _ (@pe_str (cxOf CX0 P w K mg base nN "_law_names" (defScope s_l_names) f cdv A outer s H E).nox _ _ _) (@pa_cons (cxOf CX0 P w K mg base nN "_law_names" (defScope s_l_names) f cdv A outer s H E).nox _ _ _ _ (@pe_str (cxOf CX0 P w K mg base nN "_law_names" (defScope s_l_names) f cdv A outer s H E).nox _ _ _) (@pa_cons (cxOf CX0 P w K mg base nN "_law_names" (defScope s_l_names) f cdv A outer s H E).nox _ _ _ _ (@pe_str (cxOf CX0 P w K mg base nN "_law_names" (defScope s_l_names) f cdv A outer s H E).nox _ _ _) (@pa_cons (cxOf CX0 P w K mg base nN "_law_names" (defScope s_l_names) f cdv A outer s H E).nox _ _ _ _ (@pe_str (cxOf CX0 P w K mg base nN "_law_names" (defScope s_l_names) f cdv A outer s H E).nox _ _ _) (@pa_cons (cxOf CX0 P w K mg base nN "_law_names" (defScope s_l_names) f cdv A outer s H E).nox _ _ _ _ (@pe_str (cxOf CX0 P w K mg base nN "_law_names" (defScope s_l_names) f cdv A outer s H E).nox _ _ _) (@pa_nil (cxOf CX0 P w K mg base nN "_law_names" (defScope s_l_names) f cdv A outer s H E).nox) rfl) rfl) rfl) rfl) rfl) rfl) rfl) rfl) rfl) rfl) rfl) rfl)) rfl (.inl rfl))
    (pss_cons (ps_set (i := 3) scNames.nd rfl (Or.inr rfl) (pe_call Gd hr rfl mG kG bG .nil pass0 (pa_cons (pv 0) (pa_cons pe_int pa_nil))))
    (pss_cons (ps_set (i := 4) scNames.nd rfl (Or.inr rfl) (pe_ix ix_list (pe_lst (pa_cons pe_int (pa_cons pe_int (pa_cons pe_int (pa_cons pe_int pa_nil))))) (pe_call Gd hr rfl mG kG bG .nil pass0 (pa_cons (pv 0) (pa_cons pe_int pa_nil))) (fun _ _ => rfl)))
    (pss_one (ps_ret (pe_comp (N' := nNb) (ρ := [none, some 2, some 3, some 4]) (m := 1) (BlkOk.of (fs := defScope s_l_names) (N := nN) rfl rfl (by decide +kernel)) rfl (pi_range1 rfl T.range (pa_cons (pv 1) pa_nil))
      (fun _ _ _ _ => pg_name (i := 0) ndNb rfl (Or.inl rfl)) (fun _ _ _ _ => pts_nil) (fun _ _ _ _ => pe_ix (ix_listK (K := K) rfl) (pv 1) (pe_op op_mod (pe_op op_add (pv 2) (pe_op op_mul (pv 3) (pv 0))) pe_int) (fun _ _ => rfl))))))), ?_⟩
  refine ⟨(by show 12 ≤ sizeLine; decide), fun p hp => ?_⟩
  have G1 : Go tp H (upd H p (.lst (POOL.map V.str))) := (Go.refl ht).new hp _
  have e1 : (upd H p (.lst (POOL.map V.str))) p = some (.lst (POOL.map V.str)) := upd_same
  have hpt : p ≠ tp := ht.nt hp
  refine ⟨_, rfl, tp, 12, rfl, G1.t, by decide, by decide, fun v2 H2 a0 a1 x2 t2 y2 => ?_⟩
  have G2 := G1.trans ⟨x2, t2, y2⟩
  have e2 := x2 _ _ hpt e1
  refine ⟨(by show 4 ≤ sizeLine; decide), fun p3 hp3 => ?_⟩
  have G3 := G2.new hp3 (.lst [.int 1, .int 5, .int 7, .int 11])
  refine ⟨_, rfl, tp, 4, rfl, G3.t, by decide, by decide, fun v4 H4 b0 b1 x4 t4 y4 => ?_⟩
  have G4 := G3.trans ⟨x4, t4, y4⟩
  have e4 := x4 _ _ hpt (same_new hp3 (.lst [.int 1, .int 5, .int 7, .int 11]) _ _ e2)
  obtain ⟨st, hst, _, hat⟩ := atI_ex (xs := [V.int 1, V.int 5, V.int 7, V.int 11]) (i := v4) b0 b1
  have stp : ∃ si : Int, st = .int si ∧ 0 ≤ si ∧ si ≤ 11 ∧ si.toNat ∈ ([1, 5, 7, 11] : List Nat) := by
    rcases List.mem_cons.mp hst with e | hst
    · exact ⟨1, e, by decide, by decide, by decide⟩
    rcases List.mem_cons.mp hst with e | hst
    · exact ⟨5, e, by decide, by decide, by decide⟩
    rcases List.mem_cons.mp hst with e | hst
    · exact ⟨7, e, by decide, by decide, by decide⟩
    · exact ⟨11, List.mem_singleton.mp hst, by decide, by decide, by decide⟩
  obtain ⟨si, rfl, s0, s1, s2⟩ := stp
  refine ⟨p3, _, _, _, rfl, rfl, SqL.of (x4 _ _ (G2.t.nt hp3) upd_same), hat, ?_⟩
  refine ⟨_, rfl, many, rfl, by omega, by omega, comp_range many.toNat (by omega) (fun j acc H' => H' = H4 ∧ ∃ l : List Str, acc = l.map V.str ∧ l.length = j ∧ l = (List.range j).map (pk v2.toNat si.toNat) ∧ ∀ z ∈ l, z ∈ POOL) ⟨rfl, [], rfl, rfl, rfl, fun _ z => nomatch z⟩ (fun j acc H' hj la z => ?_) (fun acc H' z la Dk hDk => ?_)⟩
  · obtain ⟨rfl, l, rfl, hl, hlk, hpl⟩ := z
    refine ⟨⟨rfl, rfl⟩, tTrue_i ?_⟩
    have m0 := Int.emod_nonneg (v2 + si * (0 + (j : Int))) (show (12 : Int) ≠ 0 by decide)
    have m1 := Int.emod_lt_of_pos (v2 + si * (0 + (j : Int))) (show (0 : Int) < 12 by decide)
    obtain ⟨u, hu, hnat, hat2⟩ := atI_ex (xs := POOL.map V.str) (i := (v2 + si * (0 + (j : Int))) % 12) m0 m1
    obtain ⟨zz, hzz, rfl⟩ := List.mem_map.mp hu
    refine ⟨_, rfl, _, rfl, _, rfl, _, rfl, _, _, rfl, rfl, ?_, _, _, rfl, rfl, _, _, rfl, rfl, (by show (0 : Int) < 12; decide), p, _, _, _, rfl, rfl, SqL.of e4, hat2, nxT (by omega) hj la ⟨rfl, l ++ [zz], by simp, by simp [hl], ?_, fun y hy => ?_⟩⟩
    · exact cmulR (by omega) (by omega)
    · rw [List.range_succ, List.map_append, ← hlk]
      congr 1
      show [zz] = [pk v2.toNat si.toNat j]
      have ei : ((v2 + si * (0 + (j : Int))) % 12).toNat = (v2.toNat + si.toNat * j) % 12 := by
        have e1 : ((v2.toNat + si.toNat * j : Nat) : Int) = v2 + si * (0 + (j : Int)) := by
          rw [Int.natCast_add, Int.natCast_mul, Int.toNat_of_nonneg a0, Int.toNat_of_nonneg s0, Int.zero_add]
        rw [← e1]
        omega
      rw [ei, List.getElem?_map] at hnat
      obtain ⟨y, hy, hyz⟩ := Option.map_eq_some_iff.mp hnat
      cases hyz
      unfold pk
      rw [List.getD_eq_getElem?_getD, hy]
      rfl
    · rcases List.mem_append.mp hy with hy | hy
      · exact hpl y hy
      · rw [List.mem_singleton.mp hy]; exact hzz
  · obtain ⟨rfl, l, rfl, hl, hlk, hpl⟩ := z
    exact q Dk l _ (G4.new hDk _) (G4.free ht hDk) upd_same hl hpl (by rw [hlk]; exact pool_nd (by omega) s2 (by omega))
end
end K6
namespace K6
open PySem L2
/-- a thing that was not there at the start may be written -/
theorem Go.upd {tp p : Addr} {H H1 : Hp} (a : Go tp H H1) (t : Tp H tp) (h : H p = none) (o : HO) : Go tp H (L2.upd H1 p o) := by
  obtain ⟨sc, k, r, ns, h1, h2⟩ := id t
  have pt : tp ≠ p := ne_of_none h1 h
  have ps : sc ≠ p := ne_of_none h2 h
  have st : sc ≠ tp := ne_of h2 h1 (fun z => by injection z with z; cases ns <;> cases z)
  obtain ⟨k', r', e⟩ := a.y sc k r h1
  refine ⟨fun b u n q => ?_, ⟨sc, k', r', ns, by rw [upd_ne pt]; exact e, by rw [upd_ne ps]; exact a.x _ _ st h2⟩, fun sc2 k2 r2 q => ?_⟩
  · rw [upd_ne (ne_of_none q h)]
    exact a.x _ _ n q
  · obtain ⟨k3, r3, e3⟩ := a.y sc2 k2 r2 q
    exact ⟨k3, r3, by rw [upd_ne pt]; exact e3⟩
def GoodR (R : List Rec) : Prop := ∀ (i : Nat) r, R[i]? = some r → r.1 ∈ POOL ∧ ((1 ≤ r.2.length ∧ r.2.length ≤ 3) ∧ (r.2.map (·.1)).Nodup ∧ ∀ p ∈ r.2, p.1 ∈ POOL) ∧ ∀ p ∈ r.2, p.2 ∈ PL ∨ ∃ (j : Nat) (r' : Rec), j < i ∧ R[j]? = some r' ∧ r'.1 = p.2
theorem zip_nd : ∀ {l r : List Str}, l.Nodup → ((l.zip r).map (·.1)).Nodup
  | [], _, _ => by simp
  | _ :: _, [], _ => by simp
  | a :: l, b :: r, h => by
    rw [List.zip_cons_cons, List.map_cons, List.nodup_cons]
    rw [List.nodup_cons] at h
    refine ⟨fun z => h.1 ?_, zip_nd h.2⟩
    obtain ⟨p, hp, e⟩ := List.mem_map.mp z
    have e' : p.1 = a := e
    rw [← e']
    exact (List.of_mem_zip hp).1
theorem pool_pl : ∀ z ∈ POOL, z ∉ PL := by decide +kernel
theorem Deep.mono {R : List Rec} : ∀ {n m : Nat} {k : Str}, n ≤ m → Deep R n k → Deep R m k
  | 0, _, _, _, h => h.elim
  | n + 1, 0, _, h, _ => by omega
  | n + 1, m + 1, k, h, d => by
    rcases d with a | ⟨a, b, c, d⟩
    · exact .inl a
    · exact .inr ⟨a, b, c, fun p hp => Deep.mono (by omega) (d p hp)⟩
theorem look_ix {R : List Rec} {i : Nat} {r : Rec} (h : R[i]? = some r) : ∃ j r', j ≤ i ∧ R[j]? = some r' ∧ r'.1 = r.1 ∧ look R r.1 = r'.2 := by
  induction R generalizing i with
  | nil => simp at h
  | cons a rs ih =>
    by_cases e : a.1 = r.1
    · refine ⟨0, a, Nat.zero_le _, rfl, e, ?_⟩
      unfold look
      rw [List.find?_cons, decide_eq_true e]
      rfl
    · cases i with
      | zero =>
        simp at h
        exact absurd (congrArg (·.1) h) e
      | succ i =>
        obtain ⟨j, r', h1, h2, h3, h4⟩ := ih (i := i) (by simpa using h)
        refine ⟨j + 1, r', by omega, by simpa using h2, h3, ?_⟩
        rw [← h4]
        unfold look
        rw [List.find?_cons, decide_eq_false e]
theorem GoodR.deep {R : List Rec} (g : GoodR R) : ∀ (i : Nat) {r : Rec}, R[i]? = some r → Deep R (i + 2) r.1 := by
  intro i
  induction i using Nat.strongRecOn with
  | ind i ih =>
    intro r h
    obtain ⟨j, r', h1, h2, h3, h4⟩ := look_ix h
    obtain ⟨a, b, c⟩ := g j r' h2
    refine .inr ⟨pool_pl _ (g i r h).1, List.mem_map.mpr ⟨r, List.mem_of_getElem? h, rfl⟩, by rw [h4]; exact b.1, fun p hp => ?_⟩
    rw [h4] at hp
    rcases c p hp with z | ⟨j', r2, l, e1, e2⟩
    · exact .inl z
    · rw [← e2]
      exact (ih j' (by omega) e1).mono (by omega)
theorem GoodR.snoc {R : List Rec} (g : GoodR R) {r : Rec} (h : r.1 ∈ POOL ∧ ((1 ≤ r.2.length ∧ r.2.length ≤ 3) ∧ (r.2.map (·.1)).Nodup ∧ ∀ p ∈ r.2, p.1 ∈ POOL) ∧ ∀ p ∈ r.2, p.2 ∈ PL ∨ ∃ (j : Nat) (r' : Rec), j < R.length ∧ R[j]? = some r' ∧ r'.1 = p.2) : GoodR (R ++ [r]) := by
  intro i s hs
  by_cases hi : i < R.length
  · rw [List.getElem?_append_left hi] at hs
    obtain ⟨a, b, c⟩ := g i s hs
    refine ⟨a, b, fun p hp => ?_⟩
    rcases c p hp with z | ⟨j, r', l, e1, e2⟩
    · exact .inl z
    · exact .inr ⟨j, r', l, by rw [List.getElem?_append_left (by omega)]; exact e1, e2⟩
  · have : i = R.length := by
      have := (List.getElem?_eq_some_iff.mp hs).1
      simp at this
      omega
    subst this
    rw [List.getElem?_append_right (Nat.le_refl _), Nat.sub_self] at hs
    simp at hs
    subst hs
    obtain ⟨a, b, c⟩ := h
    refine ⟨a, b, fun p hp => ?_⟩
    rcases c p hp with z | ⟨j, r', l, e1, e2⟩
    · exact .inl z
    · exact .inr ⟨j, r', l, by rw [List.getElem?_append_left l]; exact e1, e2⟩
section
variable {P : Program} {w : World} {K : PySem.W.Frag} {mg : Str → Option Value} {base : Heap} {f g : Addr} {fd gd : FuncData}
abbrev nRec : List Str := ["_law_tape_here", "_law_records_here", "_law_name", "_law_kinds", "_law_fields"]
abbrev nC1 : List Str := ["_law_k", "_law_tape_here"]
abbrev nC2 : List Str := ["_law_k", "_law_fields", "_law_kinds"]
theorem scRecs : FnScope nRec ["_law_tape_here"] (defScope s_l_records) := ⟨rfl, rfl, rfl, by decide +kernel, rfl, by decide +kernel, by decide +kernel⟩
theorem ndC1 : nC1.Nodup := by decide +kernel
theorem ndC2 : nC2.Nodup := by decide +kernel
def spRecs : Sp := fun vs H Q _ => ∃ tp, vs = [.ref tp] ∧ Tp H tp ∧ ∀ v R H', Go tp H H' → RecsAt H' v R → R.length ≤ 3 → GoodR R → (R.map (·.1)).Nodup → Q v H'
theorem ok_recs (T : G0 mg) (F : Fun K "_law_records" "_law_records" s_l_records f fd) (D : Cal P w K mg base 1 "_law_draw" dP spDraw2) (DN : Cal P w K mg base 2 "_law_names" dP spNames) : FnOk P w K mg base CX0 3 f fd ["_law_tape_here"] spRecs := by
  obtain ⟨g, gd, Gd, bG, kG, mG⟩ := D.ex
  obtain ⟨g2, gd2, GN, bN, kN, mN⟩ := DN.ex
  refine F.ok scRecs (fun vs H Q E h => ?_) (fun cdv A outer s H vs Q E hr h => ?_)
  · obtain ⟨tp, rfl, _⟩ := h
    rfl
  obtain ⟨tp, rfl, ht, q⟩ := h
  refine ⟨_, pss_cons (ps_set (i := 1) scRecs.nd rfl (Or.inl rfl) (pe_lst pa_nil))
    (pss_cons (ps_for PassesOwn.never rfl (pi_list (pe_call GN hr rfl mN kN bN .nil pass0 (pa_cons (pv 0) (pa_cons (pe_ix ix_list (pe_lst (pa_cons pe_int (pa_cons pe_int (pa_cons pe_int (pa_cons pe_int pa_nil))))) (pe_call Gd (hr.mono (by omega)) rfl mG kG bG .nil pass0 (pa_cons (pv 0) (pa_cons pe_int pa_nil))) (fun _ _ => rfl)) pa_nil)))) (pg_name (i := 2) scRecs.nd rfl (Or.inl rfl))
      (pss_cons (ps_set (i := 3) scRecs.nd rfl (Or.inr rfl) (pe_comp (N' := nC1) (ρ := [none, some 0]) (m := 1) (BlkOk.of (fs := defScope s_l_records) (N := nRec) rfl rfl (by decide +kernel)) rfl (pi_range1 rfl T.range (pa_cons (pe_op op_add pe_int (pe_call Gd (hr.mono (by omega)) rfl mG kG bG .nil pass0 (pa_cons (pv 0) (pa_cons pe_int pa_nil)))) pa_nil))
          (fun _ _ _ _ => pg_name (i := 0) ndC1 rfl (Or.inl rfl)) (fun _ _ _ _ => pts_nil) (fun _ _ _ _ => pe_ix (ix_listK (K := K) rfl) (pe_lst (pa_cons pe_str (pa_cons pe_str (pa_cons pe_str pa_nil)))) (pe_call Gd (hr.mono (by omega)) rfl mG kG bG .nil pass0 (pa_cons (pv 1) (pa_cons pe_int pa_nil))) (fun _ _ => rfl))))
      (pss_cons (ps_if (PW.pt (pw_and (pt_cmpR (op_neNil hr.units0) (pv 1) (pe_lst pa_nil) (nomark _)) (pw_and1 (pt_cmpR op_gt (pe_call Gd (hr.mono (by omega)) rfl mG kG bG .nil pass0 (pa_cons (pv 0) (pa_cons pe_int pa_nil))) pe_int (nomark _)))))
          (pss_one (ps_asg (pe_ix ix_tup (pe_ix ix_list (pv 1) (pe_call Gd (hr.mono (by omega)) rfl mG kG bG .nil pass0 (pa_cons (pv 0) (pa_cons (pe_callB call_len_seq rfl T.len b_len (pa_cons (pv 1) pa_nil)) pa_nil))) (fun _ _ => rfl)) pe_int (fun _ _ => rfl)) (pg_sub (pv 3) pe_int set_list))) pss_nil)
      (pss_cons (ps_set (i := 4) scRecs.nd rfl (Or.inr rfl) (pe_call GN hr rfl mN kN bN .nil pass0 (pa_cons (pv 0) (pa_cons (pe_callB call_len_seq rfl T.len b_len (pa_cons (pv 3) pa_nil)) pa_nil))))
      (pss_one (ps_expr (pe_bm PySem.F.plainAttrs_list PySem.F.slot_list_append PySem.F.type_list_append mt_append (pv 1) (pa_cons (pe_tup (pa_cons (pv 2) (pa_cons (pe_callTy call_tuple_of rfl T.tuple b_tuple (pa_cons
          (pe_comp (N' := nC2) (ρ := [none, some 4, some 3]) (m := 1) (BlkOk.of (fs := defScope s_l_records) (N := nRec) rfl rfl (by decide +kernel)) rfl (pi_range1 rfl T.range (pa_cons (pe_callB call_len_seq rfl T.len b_len (pa_cons (pv 3) pa_nil)) pa_nil))
            (fun _ _ _ _ => pg_name (i := 0) ndC2 rfl (Or.inl rfl)) (fun _ _ _ _ => pts_nil) (fun _ _ _ _ => pe_tup (pa_cons (pe_ix (ix_listK (K := K) rfl) (pv 1) (pv 0) (fun _ _ => rfl)) (pa_cons (pe_ix (ix_listK (K := K) rfl) (pv 2) (pv 0) (fun _ _ => rfl)) pa_nil)))) pa_nil)) pa_nil))) pa_nil))))))))
    (pss_one (ps_ret (pe_callTy call_tuple_of rfl T.tuple b_tuple (pa_cons (pv 1) pa_nil))))), ?_⟩
  refine ⟨(by show 0 ≤ sizeLine; decide), fun rl hrl => ?_⟩
  have G1 : Go tp H (L2.upd H rl (.lst [])) := (Go.refl ht).new hrl _
  have hrt : rl ≠ tp := ht.nt hrl
  refine ⟨_, rfl, (by show 4 ≤ sizeLine; decide), fun p3 hp3 => ?_⟩
  have G3 := G1.new hp3 (.lst [.int 0, .int 1, .int 2, .int 3])
  refine ⟨_, rfl, tp, 4, rfl, G3.t, by decide, by decide, fun v4 H4 b0 b1 x4 t4 y4 => ?_⟩
  have G4 := G3.trans ⟨x4, t4, y4⟩
  obtain ⟨st, hst, _, hat⟩ := atI_ex (xs := [V.int 0, V.int 1, V.int 2, V.int 3]) (i := v4) b0 b1
  have stp : ∃ si : Int, st = .int si ∧ 0 ≤ si ∧ si ≤ 3 := by
    rcases List.mem_cons.mp hst with e | hst
    · exact ⟨0, e, by decide, by decide⟩
    rcases List.mem_cons.mp hst with e | hst
    · exact ⟨1, e, by decide, by decide⟩
    rcases List.mem_cons.mp hst with e | hst
    · exact ⟨2, e, by decide, by decide⟩
    · exact ⟨3, List.mem_singleton.mp hst, by decide, by decide⟩
  obtain ⟨si, rfl, s0, s1⟩ := stp
  have rl4 : H4 rl = some (.lst []) := x4 _ _ hrt (same_new hp3 _ _ _ upd_same)
  refine ⟨p3, _, _, _, rfl, rfl, SqL.of (x4 _ _ (G1.t.nt hp3) upd_same), hat, tp, si, rfl, t4, s0, by omega, fun an l H5 g5 an0 han hl hpl hnd => ?_⟩
  have G5 := G4.trans g5
  have anH : H an = none := G4.free ht an0
  have hra : rl ≠ an := ne_of_none rl4 an0
  have rl5 : H5 rl = some (.lst []) := g5.x _ _ hrt rl4
  have hat' : an ≠ tp := t4.nt an0
  refine ⟨an, rfl, ⟨_, SqL.of han⟩, for_list (xs := l.map V.str) (fun i σ H' => ∃ m2 m3 m4 xs R, σ = [some (.ref tp), some (.ref rl), m2, m3, m4] ∧ Go tp H H' ∧ H' an = some (.lst (l.map V.str)) ∧ H' rl = some (.lst xs) ∧ Paired (RecAt H') xs R ∧ R.length = i ∧ R.map (·.1) = l.take i ∧ GoodR R) ⟨none, none, none, [], [], rfl, G5, han, rl5, .nil, rfl, by simp, fun i r e => by simp at e⟩ (fun i σ H' _ p => ?_) (fun i x σ H' hx p => ?_) (fun σ H' p => ?_)⟩
  · obtain ⟨_, _, _, _, _, _, _, e, _⟩ := p
    exact SqL.of e
  · obtain ⟨m2, m3, m4, xs, R, rfl, GA, hnA, hlA, pA, lA, nA, gA⟩ := p
    rw [List.getElem?_map] at hx
    obtain ⟨nm, hnm, rfl⟩ := Option.map_eq_some_iff.mp hx
    have hi3 : i < 3 := by
      have := (List.getElem?_eq_some_iff.mp hnm).1
      omega
    refine ⟨_, rfl, tp, 3, rfl, GA.t, by decide, by decide, fun v8 H8 d0 d1 x8 t8 y8 => ?_⟩
    have G8 : Go tp H' H8 := ⟨x8, t8, y8⟩
    refine ⟨_, _, rfl, rfl, _, rfl, by omega, by omega, comp_range (1 + v8).toNat (by omega) (fun j acc H9 => Go tp H' H9 ∧ ∃ ks : List Str, acc = ks.map V.str ∧ ks.length = j ∧ ∀ x ∈ ks, x ∈ PL) ⟨G8, [], rfl, rfl, fun _ z => nomatch z⟩ (fun j acc H9 hj la z => ?_) (fun acc H9 z la Dk hDk => ?_)⟩
    · obtain ⟨G9, ks, rfl, hks, hpl9⟩ := z
      refine ⟨⟨rfl, rfl⟩, tTrue_i ?_⟩
      refine ⟨(by show 3 ≤ sizeLine; decide), fun p hp => ⟨_, rfl, tp, 3, rfl, (G9.new hp _).t, by decide, by decide, fun v10 H10 e0 e1 x10 t10 y10 => ?_⟩⟩
      obtain ⟨u, hu, _, hat2⟩ := atI_ex (xs := PL.map V.str) (i := v10) e0 e1
      obtain ⟨z, hz, rfl⟩ := List.mem_map.mp hu
      refine ⟨p, _, _, _, rfl, rfl, SqL.of (x10 _ _ (G9.t.nt hp) upd_same), hat2, nxT (by omega) hj la ⟨(G9.new hp _).trans ⟨x10, t10, y10⟩, ks ++ [z], by simp, by simp [hks], fun y hy => ?_⟩⟩
      rcases List.mem_append.mp hy with hy | hy
      · exact hpl9 y hy
      · rw [List.mem_singleton.mp hy]; exact hz
    · obtain ⟨G9, ks, rfl, hks, hpl9⟩ := z
      have GB := G9.new hDk (.lst (ks.map V.str))
      have eB : (L2.upd H9 Dk (.lst (ks.map V.str))) Dk = some (.lst (ks.map V.str)) := upd_same
      have hDt : Dk ≠ tp := G9.t.nt hDk
      have hDn : H' Dk = none := G9.free GA.t hDk
      dsimp only [gName]
      refine seq_join (fun σ H14 => ∃ (ks' : List Str), σ = [some (.ref tp), some (.ref rl), some (.str nm), some (.ref Dk), m4] ∧ Go tp H' H14 ∧ H14 Dk = some (.lst (ks'.map V.str)) ∧ 1 ≤ ks'.length ∧ ks'.length ≤ 3 ∧ ∀ x ∈ ks', x ∈ PL ∨ ∃ (j : Nat) (r' : Rec), j < R.length ∧ R[j]? = some r' ∧ r'.1 = x) (fun NX hNX => ?_) (fun σ H14 jj => ?_)
      · have plainJ : ∀ {Hx : Hp}, Go tp H' Hx → Hx Dk = some (.lst (ks.map V.str)) → NX [some (.ref tp), some (.ref rl), some (.str nm), some (.ref Dk), m4] Hx := fun {Hx} a c => hNX _ _ ⟨ks, rfl, a, c, by omega, by omega, fun x hx => .inl (hpl9 x hx)⟩
        refine ⟨_, rfl, (by show 0 ≤ sizeLine; decide), fun pe hpe => ?_⟩
        have GC := GB.new hpe (.lst [])
        have eC := same_new hpe (.lst []) _ _ eB
        have eL := GC.x _ _ hrt hlA
        refine ⟨rl, pe, xs, rfl, rfl, SqL.of eL, SqL.of upd_same, _, rfl, ?_⟩
        refine ite2 (fun c1 => ?_) (fun c1 => plainJ GC eC)
        have lx : 0 < xs.length := by
          cases xs with
          | nil => exact absurd c1 (by decide)
          | cons _ _ => simp
        have lxR := Paired.length pA
        refine ⟨_, rfl, tp, 3, rfl, GC.t, by decide, by decide, fun v11 H11 _ _ x11 t11 y11 => ⟨_, _, rfl, rfl, _, rfl, ?_⟩⟩
        have GE := GC.trans ⟨x11, t11, y11⟩
        have e11 := x11 _ _ hDt eC
        refine ite2 (fun c2 => ?_) (fun c2 => plainJ GE e11)
        refine ⟨_, rfl, _, rfl, _, rfl, rl, xs, rfl, .inl (SqL.of (GE.x _ _ hrt hlA)), tp, _, rfl, t11, by omega, by omega, fun v12 H12 f0 f1 x12 t12 y12 => ?_⟩
        have GF := GE.trans ⟨x12, t12, y12⟩
        obtain ⟨u, hu, hat3, hat4⟩ := atI_ex (xs := xs) (i := v12) f0 f1
        obtain ⟨rc, hrc, cc, yy, rfl, hcc, _⟩ := paired_at pA _ u hat3
        have e12 := x12 _ _ hDt e11
        have hcc' := GF.x _ _ (GA.t.ne hcc) hcc
        refine ⟨rl, _, _, _, rfl, rfl, SqL.of (GF.x _ _ hrt hlA), hat4, cc, _, _, _, rfl, rfl, SqT.of hcc', rfl, _, rfl, Dk, _, _, 0, rfl, rfl, e12, ?_, ?_⟩
        · unfold ixN
          rw [if_pos (by decide), List.length_map, if_pos (by omega)]
          rfl
        · refine hNX _ _ ⟨ks.set 0 rc.1, rfl, GF.upd GA.t hDn _, ?_, by simp; omega, by simp; omega, fun x hx => ?_⟩
          · rw [upd_same, List.map_set]
          · rcases List.mem_or_eq_of_mem_set hx with hx | rfl
            · exact .inl (hpl9 x hx)
            · exact .inr ⟨v12.toNat, rc, by omega, hrc, rfl⟩
      · obtain ⟨ks', rfl, GJ, eJ, l1, l3, hkk⟩ := jj
        refine ⟨_, rfl, _, rfl, Dk, _, rfl, .inl (SqL.of eJ), tp, _, rfl, GJ.t, by omega, by rw [List.length_map]; omega, fun fl lf H15 g15 fl0 hfl hlf hplf hndf => ?_⟩
        have hlf' : lf.length = ks'.length := by rw [hlf, List.length_map, Int.toNat_natCast]
        have GK := GJ.trans g15
        have eD := g15.x _ _ hDt eJ
        have eL := GK.x _ _ hrt hlA
        have eN := GK.x _ _ hat' hnA
        have hzl : (lf.zip ks').length = ks'.length := by rw [List.length_zip]; omega
        refine ⟨_, rfl, .inl ⟨rfl, _, SqL.of eL⟩, _, rfl, _, rfl, Dk, _, rfl, .inl (SqL.of eD), _, rfl, by rw [List.length_map]; omega, by rw [List.length_map]; omega, comp_range (((ks'.map V.str).length : Nat) : Int).toNat (by rw [List.length_map]; omega) (fun j acc H' => Same H15 H' ∧ Paired (FldAt H') acc ((lf.zip ks').take j)) ⟨Same.refl _, .nil⟩ (fun j acc H17 hj la z => ?_) (fun acc H17 z la D2 hD2 => ?_)⟩
        · obtain ⟨g17, pa⟩ := z
          have hj' : j < ks'.length := by
            rw [List.length_map] at hj
            simpa using hj
          have hk : ks'[j]? = some ks'[j] := List.getElem?_eq_getElem hj'
          have hf : lf[j]? = some (lf[j]'(by omega)) := List.getElem?_eq_getElem (by omega)
          refine ⟨⟨rfl, rfl⟩, tTrue_i ?_⟩
          refine ⟨_, rfl, _, rfl, fl, _, _, _, rfl, rfl, SqL.of (g17 _ _ hfl), atI0 (by rw [List.getElem?_map, hf]; rfl), _, rfl, _, rfl, Dk, _, _, _, rfl, rfl, SqL.of (g17 _ _ eD), atI0 (by rw [List.getElem?_map, hk]; rfl), (by show 2 ≤ sizeLine; decide), fun p hp => nxT (by rw [List.length_map]; omega) hj la ⟨g17.trans (same_new hp _), ?_⟩⟩
          have ez : (lf.zip ks')[j]? = some (lf[j]'(by omega), ks'[j]) := by
            rw [List.getElem?_zip_eq_some]
            exact ⟨hf, hk⟩
          rw [List.take_add_one, ez]
          exact Paired.snoc (Paired.mapP pa fun _ _ z => z.mono (tk_new hp _)) ⟨p, rfl, upd_same⟩
        · obtain ⟨g17, pa⟩ := z
          have pa' : Paired (FldAt H17) acc (lf.zip ks') := by
            rw [List.length_map, Int.toNat_natCast, ← hzl, List.take_length] at pa
            exact pa
          have gD2 := same_new hD2 (.lst acc)
          refine ⟨D2, acc, rfl, .inl ⟨SqL.of upd_same, fun tq htq => ⟨(by show 2 ≤ sizeLine; decide), fun tr htr => ?_⟩⟩⟩
          have g18 := same_new htq (.tup acc)
          have g19 := same_new htr (.tup [.str nm, .ref tq])
          have gAll := ((g17.trans gD2).trans g18).trans g19
          have eL2 := gAll _ _ eL
          refine ⟨rl, xs, _, rfl, rfl, eL2, small1000 (by rw [Paired.length pA, lA]; omega), ?_⟩
          have kL := tk_lst eL2 (.lst (xs ++ [.ref tr]))
          have k19 := (tk_same g19).trans kL
          have GZ := (GA.trans GK).trans (Go.same GK.t gAll)
          have kA : Tk H' (L2.upd _ rl (.lst (xs ++ [.ref tr]))) := fun b ys e => kL _ _ (gAll _ _ (GK.x _ _ (GA.t.ne e) e))
          refine ⟨_, _, _, xs ++ [.ref tr], R ++ [(nm, lf.zip ks')], rfl, GZ.upd ht hrl _, ?_, upd_same, ?_, by simp [lA], by rw [List.map_append, nA, List.take_add_one, hnm]; rfl, ?_⟩
          · rw [upd_ne hra.symm]
            exact gAll _ _ eN
          · refine Paired.snoc (Paired.mapP pA fun _ _ z => z.mono kA) ⟨tr, .ref tq, rfl, kL _ _ upd_same, tq, acc, rfl, k19 _ _ upd_same, ?_⟩
            exact Paired.mapP pa' fun _ _ z => z.mono ((tk_same (gD2.trans g18)).trans k19)
          · refine gA.snoc ⟨hpl nm (List.mem_of_getElem? hnm), ⟨⟨by show 1 ≤ (lf.zip ks').length; omega, by show (lf.zip ks').length ≤ 3; omega⟩, zip_nd hndf, fun p hp => hplf _ (List.of_mem_zip hp).1⟩, fun p hp => ?_⟩
            exact hkk _ (List.of_mem_zip hp).2
  · obtain ⟨m2, m3, m4, xs, R, rfl, GA, hnA, hlA, pA, lA, nA, gA⟩ := p
    refine ⟨_, rfl, rl, xs, rfl, .inl ⟨SqL.of hlA, fun p hp => ?_⟩⟩
    refine q (.ref p) R _ (GA.new hp _) ⟨p, xs, rfl, upd_same, Paired.mapP pA fun _ _ z => z.mono (tk_new hp _)⟩ ?_ gA ?_
    · rw [lA, List.length_map, hl]
      omega
    · rw [nA, List.length_map, List.take_length]
      exact hnd
end
end K6

set_option Elab.async false
set_option linter.all false
set_option maxRecDepth 100000
set_option maxHeartbeats 4000000
namespace K6
open PySem L2
def TXT : List Str := ["", "a", "b a", "~ !", "ab&"]
end K6
namespace HT
open PySem PySem.Spec PyProof.Rows
section
variable {prog : Program} {w : World} {A : Around} {E : Value → Shared → Prop} {s : Shared}
theorem getItem_tuple_whole {t sl : Addr} {items : Array Value} {vl vu : Value} {lo hi : Option Int} {Q : Value → Shared → Prop} (ht : IsTup s.heap t items) (hs : s.heap.IsSliceOf sl vl vu .none) (pl : IsPart vl lo) (pu : IsPart vu hi)
    (hw : sIx items.size 0 lo = 0 ∧ sIx items.size items.size hi = items.size) (h : Q (.ref t) s) : wpAny (model prog w) A (getItem (.ref t) (.ref sl)) Q E s := by
  obtain ⟨os, hos, hcs, hds⟩ := id hs
  have hTs : s.TypeIs (.ref sl) "slice" := ⟨os, hos, hcs⟩
  unfold getItem
  try with_reducible refine wpAny_holding ?_
  first | refine wpAny_bind (wpAny_pure ?_) | skip
  refine wpAny_bind (wpAny_sequenceKey ht.typeIs (by decide) ?_)
  refine wpAny_bind (wpAny_callSpecial?_slot (name := Str.ofString "__getitem__") ht.typeIs PyProof.Rows.slot_tuple_getitem
    (wpAny_call_entry PyProof.Rows.slot_tuple_getitem ht.typeIs entry_tuple_getitem ?_ (args_tuple_getitem _ _)))
  show wpAny _ _ (Builtin.Tuple.tupleItemsOf (.ref t) >>= _) _ _ s
  refine wpAny_bind (tupleItemsOf_ ht ?_)
  refine wpAny_bind (wpAny_typeOf hTs ?_)
  rw [if_pos (by decide)]
  refine wpAny_bind (sliceApplied_gen hs pl pu ?_)
  have hyes : (((sIx items.size 0 lo : Nat) : Int) == 0 && (1 : Int) == 1 && (sIx items.size items.size hi - sIx items.size 0 lo) == items.size) = true := by
    rw [hw.1, hw.2]
    simp
  show wpAny _ _ (if (((sIx items.size 0 lo : Nat) : Int) == 0 && (1 : Int) == 1 && (sIx items.size items.size hi - sIx items.size 0 lo) == items.size) = true then _ else _) _ _ s
  rw [if_pos hyes]
  refine wpAny_bind ?_
  unfold Builtin.Tuple.tupleIsExact
  refine wpAny_bind (wpAny_typeOf ht.typeIs (wpAny_pure ?_))
  rw [if_pos (by decide)]
  refine wpAny_bind (wpAny_rule ?_)
  exact wpAny_pure ⟨_, rfl, wpAny_pure h⟩
end
end HT
namespace L2
open PySem PySem.Spec PyProof.Rows
section
variable {X : Cx}
/-- the whole of a tuple, cut: itself -/
def rSlW (K : PySem.W.Frag) : V → Option Int → Option Int → Hp → VK → Prop := fun x lo hi H Q => ∃ a xs, x = .ref a ∧ SqT K H a xs ∧ (HT.sIx xs.length 0 lo = 0 ∧ HT.sIx xs.length xs.length hi = xs.length) ∧ Q (.ref a) H
theorem sl_tupW : SlR X (rSlW X.K) := by
  intro pins s σ H x v vl vu lo hi sl Q I rx hs pl pu h
  obtain ⟨a, xs, rfl, hx, hw, q⟩ := h
  cases rx
  obtain ⟨its, r, ht, hz⟩ := I.tuple hx
  have hlen : its.toArray.size = xs.length := by rw [List.size_toArray]; exact r.length.symm
  refine ⟨"tuple", _, PyProof.Rows.slot_tuple_getitem.lookup, ht.typeIs, ?_⟩
  exact HT.getItem_tuple_whole ht hs pl pu (by rw [hlen]; exact hw) ⟨.ref a, H, I, rfl, q⟩
/-- t + u of tuples at hand, whatever they hold -/
theorem cat_of {K : PySem.W.Frag} {H : Hp} {a b : Addr} {xs ys : List V} {Q : VK} (ha : H a = some (.tup xs)) (hb : H b = some (.tup ys)) (hl : xs.length + ys.length ≤ 1000)
    (q : ∀ p H', Same H H' → H' p = some (.tup (xs ++ ys)) → Q (.ref p) H') : rCatT K (.ref a) (.ref b) H Q ∨ rCatT0 K (.ref a) (.ref b) H Q := by
  cases xs with
  | nil => exact .inr ⟨a, b, ys, rfl, rfl, SqT.of ha, SqT.of hb, q b H (Same.refl _) hb⟩
  | cons x r =>
    refine .inl ⟨a, b, _, _, rfl, rfl, SqT.of ha, SqT.of hb, by simp, Nat.le_of_lt (small1000 hl), fun e => ?_, fun e p hp => ?_⟩
    · subst e
      exact q a H (Same.refl _) (by rw [List.append_nil]; exact ha)
    · exact q p _ (fun c o e => by rw [upd_ne (ne_of_none e hp)]; exact e) upd_same
end
end L2
/-! ### how great the shown text of a thing is -/
namespace K6
open PySem L2
mutual
def W : PyData → Nat
  | .list xs => WS xs + 3
  | .tuple xs => WS xs + 3
  | .none => 4
  | .bool _ => 5
  | .int i => (PyData.shown (.int i)).length
  | .str x => (PyData.shown (.str x)).length
  | .dict _ => 0
def WS : List PyData → Nat
  | [] => 0
  | x :: xs => W x + 2 + WS xs
end
theorem piled_cons (t : Str) (r : List Str) : piled (t :: r) = t.length + 2 + piled r := by simp [piled]
theorem tuple_piled (ts : List Str) : (tupleText ts).length ≤ piled ts + 3 := by
  unfold tupleText
  rw [strLen_append, strLen_append]
  have e1 : (("(" : Str)).length = 1 := by decide
  have e2 : (Str.ofString (if ts.length == 1 then ",)" else ")")).length ≤ 2 := by split <;> decide
  have e3 : (Str.join ", " ts).length ≤ piled ts := by
    cases ts with
    | nil => exact Nat.le_trans (show (Str.join ", " []).length ≤ 0 by decide) (Nat.zero_le _)
    | cons x r =>
      have := join_length_add (x :: r) (by simp)
      omega
  rw [e1]
  have e2' := e2
  omega
theorem text_piled : ∀ (ts : List Str) (k : Nat) (acc : Str), (textFrom k acc ts).length ≤ acc.length + piled ts
  | [], _, acc => by simp [textFrom, piled]
  | t :: r, k, acc => by
    have h2 := text_piled r (k + 1) (acc ++ (if k > 0 then ", " else "" : String) ++ t)
    have e : (Str.ofString (if k > 0 then ", " else "")).length ≤ 2 := by split <;> decide
    rw [strLen_append, strLen_append] at h2
    unfold textFrom
    rw [piled_cons]
    omega
theorem list_piled (ts : List Str) : (listText ts).length ≤ piled ts + 3 := by
  unfold listText
  rw [strLen_append]
  have := text_piled ts 0 "["
  have e1 : (("[" : Str)).length = 1 := by decide
  have e2 : (("]" : Str)).length = 1 := by decide
  have e1' := e1
  have e2' := e2
  omega
mutual
theorem shown_le : ∀ d : PyData, d.hasDict = false → d.shown.length ≤ W d
  | .none, _ => by simp only [W, PyData.shown]; decide
  | .bool b, _ => by cases b <;> simp only [W, PyData.shown] <;> decide
  | .int i, _ => by simp only [W]; exact Nat.le_refl _
  | .str x, _ => by simp only [W]; exact Nat.le_refl _
  | .list xs, h => by
    have := shownAll_le xs (by simpa [PyData.hasDict] using h)
    simp only [W, PyData.shown]
    exact Nat.le_trans (list_piled _) (by omega)
  | .tuple xs, h => by
    have := shownAll_le xs (by simpa [PyData.hasDict] using h)
    simp only [W, PyData.shown]
    exact Nat.le_trans (tuple_piled _) (by omega)
  | .dict _, h => by simp [PyData.hasDict] at h
theorem shownAll_le : ∀ ds : List PyData, PyData.hasDictAll ds = false → piled (PyData.shownAll ds) ≤ WS ds
  | [], _ => by simp [PyData.shownAll, piled]
  | x :: xs, h => by
    have h' : x.hasDict = false ∧ PyData.hasDictAll xs = false := by simpa [PyData.hasDictAll] using h
    have h1 := shown_le x h'.1
    have h2 := shownAll_le xs h'.2
    simp only [PyData.shownAll, piled_cons, WS]
    omega
end
/-- a thing that may be shown: depth and size within bounds -/
structure Nice (m b : Nat) (d : PyData) : Prop where
  sh : d.showable = true
  nd : d.hasDict = false
  dp : d.depth ≤ m
  sz : W d ≤ b
structure Nices (m b : Nat) (ds : List PyData) : Prop where
  sh : PyData.showableAll ds = true
  nd : PyData.hasDictAll ds = false
  dp : PyData.depthAll ds ≤ m
  sz : WS ds ≤ b
theorem Nice.mono {m b m' b' : Nat} {d : PyData} (h : Nice m b d) (h1 : m ≤ m') (h2 : b ≤ b') : Nice m' b' d := ⟨h.sh, h.nd, Nat.le_trans h.dp h1, Nat.le_trans h.sz h2⟩
theorem Nices.mono {m b m' b' : Nat} {d : List PyData} (h : Nices m b d) (h1 : m ≤ m') (h2 : b ≤ b') : Nices m' b' d := ⟨h.sh, h.nd, Nat.le_trans h.dp h1, Nat.le_trans h.sz h2⟩
theorem Nices.nil : Nices 0 0 [] := ⟨by simp [PyData.showableAll], by simp [PyData.hasDictAll], by simp [PyData.depthAll], by simp [WS]⟩
theorem Nices.cons {m b c : Nat} {d : PyData} {ds : List PyData} (h : Nice m b d) (r : Nices m c ds) : Nices m (b + 2 + c) (d :: ds) := by
  have h1 := h.dp
  have h2 := r.dp
  have h3 := h.sz
  have h4 := r.sz
  exact ⟨by simp [PyData.showableAll, h.sh, r.sh], by simp [PyData.hasDictAll, h.nd, r.nd], by simp only [PyData.depthAll]; omega, by simp only [WS]; omega⟩
theorem Nices.tup {m b : Nat} {ds : List PyData} (h : Nices m b ds) : Nice (m + 1) (b + 3) (.tuple ds) := by
  have h1 := h.dp
  have h2 := h.sz
  exact ⟨by simp only [PyData.showable]; exact h.sh, by simp only [PyData.hasDict]; exact h.nd, by simp only [PyData.depth]; omega, by simp only [W]; omega⟩
theorem Nices.lst {m b : Nat} {ds : List PyData} (h : Nices m b ds) : Nice (m + 1) (b + 3) (.list ds) := by
  have h1 := h.dp
  have h2 := h.sz
  exact ⟨by simp only [PyData.showable]; exact h.sh, by simp only [PyData.hasDict]; exact h.nd, by simp only [PyData.depth]; omega, by simp only [W]; omega⟩
theorem Nices.hd {m b : Nat} {d : PyData} {ds : List PyData} (h : Nices m b (d :: ds)) : Nice m b d := by
  have h1 : d.showable = true ∧ PyData.showableAll ds = true := by simpa [PyData.showableAll] using h.sh
  have h2 : d.hasDict = false ∧ PyData.hasDictAll ds = false := by simpa [PyData.hasDictAll] using h.nd
  have h3 : max d.depth (PyData.depthAll ds) ≤ m := by simpa only [PyData.depthAll] using h.dp
  have h4 : W d + 2 + WS ds ≤ b := by simpa only [WS] using h.sz
  exact ⟨h1.1, h2.1, by omega, by omega⟩
theorem Nices.tl {m b : Nat} {d : PyData} {ds : List PyData} (h : Nices m b (d :: ds)) : Nices m (b - (W d + 2)) ds ∧ W d + 2 ≤ b := by
  have h1 : d.showable = true ∧ PyData.showableAll ds = true := by simpa [PyData.showableAll] using h.sh
  have h2 : d.hasDict = false ∧ PyData.hasDictAll ds = false := by simpa [PyData.hasDictAll] using h.nd
  have h3 : max d.depth (PyData.depthAll ds) ≤ m := by simpa only [PyData.depthAll] using h.dp
  have h4 : W d + 2 + WS ds ≤ b := by simpa only [WS] using h.sz
  exact ⟨⟨h1.2, h2.2, by omega, by omega⟩, by omega⟩
theorem Nices.get {m : Nat} : ∀ {ds : List PyData} {b i : Nat} {d : PyData}, Nices m b ds → ds[i]? = some d → Nice m b d
  | [], _, _, _, _, h => by simp at h
  | x :: r, b, 0, d, n, h => by simp at h; subst h; exact n.hd
  | x :: r, b, i + 1, d, n, h => (Nices.get n.tl.1 (by simpa using h)).mono (Nat.le_refl _) (by omega)
/-- one part of a row of things is another one -/
theorem Nices.put {m : Nat} : ∀ {ds : List PyData} {b c i : Nat} {d e : PyData}, Nices m b ds → ds[i]? = some d → Nice m (W d + c) e → Nices m (b + c) (ds.take i ++ [e] ++ ds.drop (i + 1))
  | [], _, _, _, _, _, _, h, _ => by simp at h
  | x :: r, b, c, 0, d, e, n, h, q => by
    simp at h; subst h
    obtain ⟨n1, n2⟩ := n.tl
    have := Nices.cons q n1
    simpa using this.mono (Nat.le_refl _) (by omega)
  | x :: r, b, c, i + 1, d, e, n, h, q => by
    obtain ⟨n1, n2⟩ := n.tl
    have ih := Nices.put n1 (i := i) (by simpa using h) q
    have hx : Nice m (W x) x := ⟨n.hd.sh, n.hd.nd, n.hd.dp, Nat.le_refl _⟩
    have := Nices.cons hx ih
    simpa using this.mono (Nat.le_refl _) (by omega)
theorem Nices.snoc {m : Nat} {e : PyData} {c : Nat} (q : Nice m c e) : ∀ {ds : List PyData} {b : Nat}, Nices m b ds → Nices m (b + c + 2) (ds ++ [e])
  | [], b, n => (Nices.cons q (Nices.nil.mono (Nat.zero_le _) (Nat.le_refl _))).mono (Nat.le_refl _) (by omega)
  | x :: r, b, n => by
    obtain ⟨n1, n2⟩ := n.tl
    have hx : Nice m (W x) x := ⟨n.hd.sh, n.hd.nd, n.hd.dp, Nat.le_refl _⟩
    have := Nices.cons hx (Nices.snoc q n1)
    exact this.mono (Nat.le_refl _) (by omega)
end K6
namespace L2
open PySem
theorem cutL (xs : List V) (k : Nat) (h : k ≤ xs.length) : cutV xs none (some (k : Int)) = xs.take k := by
  unfold cutV
  rw [HT.sIx_none, HT.sIx_nat, Nat.min_eq_left h, List.drop_zero, Nat.sub_zero]
theorem cutR (xs : List V) (k : Nat) : cutV xs (some (k : Int)) none = xs.drop k := by
  unfold cutV
  rw [HT.sIx_none, HT.sIx_nat]
  by_cases h : k ≤ xs.length
  · rw [Nat.min_eq_left h, List.take_of_length_le (by rw [List.length_drop]; omega)]
  · rw [Nat.min_eq_right (by omega), List.drop_length, List.take_nil, List.drop_eq_nil_of_le (by omega)]
end L2
namespace K6
open PySem L2
/-! ### expressions, conditions, statements -/
inductive E where
  | num (i : Int) | text (z : Str) | var (x : Str) | of_ (e : E) (f : Str) | with_ (e : E) (f : Str) (g : E) | new (r : Str) (es : List E)
  | add (a b : E) | sub (a b : E) | times (n : Int) (e : E) | div (e : E) (n : Int) | rest (e : E) (n : Int) | len (e : E) | at_ (a b : E)
  | rows (es : List E) | put (a b c : E) | more (a b : E) | signs (e : E)
inductive C where
  | less (a b : E) | same (a b : E) | and_ (c d : C) | or_ (c d : C) | not_ (c : C)
inductive S where
  | let_ (x : Str) (e : E) | say (w : Str) (c : C) | if_ (c : C) (a b : List S) | while_ (c : C) (a : List S) | call (x f : Str) (es : List E) | give (e : E)
mutual
def E.d : E → PyData
  | .num i => .tuple [.str "num", .int i]
  | .text z => .tuple [.str "text", .str z]
  | .var x => .tuple [.str "var", .str x]
  | .of_ e f => .tuple [.str "of", e.d, .str f]
  | .with_ e f g => .tuple [.str "with", e.d, .str f, g.d]
  | .new r es => .tuple [.str "new", .str r, .tuple (E.ds es)]
  | .add a b => .tuple [.str "add", a.d, b.d]
  | .sub a b => .tuple [.str "sub", a.d, b.d]
  | .times n e => .tuple [.str "times", .int n, e.d]
  | .div e n => .tuple [.str "div", e.d, .int n]
  | .rest e n => .tuple [.str "rest", e.d, .int n]
  | .len e => .tuple [.str "len", e.d]
  | .at_ a b => .tuple [.str "at", a.d, b.d]
  | .rows es => .tuple [.str "rows", .tuple (E.ds es)]
  | .put a b c => .tuple [.str "put", a.d, b.d, c.d]
  | .more a b => .tuple [.str "more", a.d, b.d]
  | .signs e => .tuple [.str "signs", e.d]
def E.ds : List E → List PyData
  | [] => []
  | e :: r => e.d :: E.ds r
end
def C.d : C → PyData
  | .less a b => .tuple [.str "less", a.d, b.d]
  | .same a b => .tuple [.str "same", a.d, b.d]
  | .and_ c d => .tuple [.str "and", c.d, d.d]
  | .or_ c d => .tuple [.str "or", c.d, d.d]
  | .not_ c => .tuple [.str "not", c.d]
mutual
def S.d : S → PyData
  | .let_ x e => .tuple [.str "let", .str x, e.d]
  | .say w c => .tuple [.str "say", .str w, c.d]
  | .if_ c a b => .tuple [.str "if", c.d, .tuple (S.ds a), .tuple (S.ds b)]
  | .while_ c a => .tuple [.str "while", c.d, .tuple (S.ds a)]
  | .call x f es => .tuple [.str "call", .str x, .str f, .tuple (E.ds es)]
  | .give e => .tuple [.str "give", e.d]
def S.ds : List S → List PyData
  | [] => []
  | s :: r => s.d :: S.ds r
end
theorem E.ds_snoc : ∀ (es : List E) (e : E), E.ds (es ++ [e]) = E.ds es ++ [e.d]
  | [], e => by simp [E.ds]
  | a :: r, e => by simp [E.ds, E.ds_snoc r e]
theorem E.ds_len : ∀ es : List E, (E.ds es).length = es.length
  | [] => rfl
  | a :: r => by simp [E.ds, E.ds_len r]
theorem S.ds_snoc : ∀ (es : List S) (e : S), S.ds (es ++ [e]) = S.ds es ++ [e.d]
  | [], e => by simp [S.ds]
  | a :: r, e => by simp [S.ds, S.ds_snoc r e]
theorem S.ds_app : ∀ a b : List S, S.ds (a ++ b) = S.ds a ++ S.ds b
  | [], b => rfl
  | s :: r, b => by simp [S.ds, S.ds_app r b]
theorem S.ds_len : ∀ es : List S, (S.ds es).length = es.length
  | [] => rfl
  | a :: r => by simp [S.ds, S.ds_len r]
/-! ### of its kind, by records and variables -/
mutual
def Ok (R : List Rec) (V : List Fld) : E → Str → Prop
  | .num i, k => k = "num" ∧ -1000000 ≤ i ∧ i ≤ 1000000
  | .text z, k => k = "text" ∧ z ∈ TXT
  | .var x, k => (x, k) ∈ V
  | .of_ e f, k => ∃ r, Ok R V e r ∧ (f, k) ∈ look R r
  | .with_ e f g, k => k ∉ PL ∧ Ok R V e k ∧ ∃ k', (f, k') ∈ look R k ∧ Ok R V g k'
  | .new r es, k => k = r ∧ r ∉ PL ∧ 1 ≤ (look R r).length ∧ OkL R V es ((look R r).map (·.2))
  | .add a b, k => k = "num" ∧ Ok R V a "num" ∧ Ok R V b "num"
  | .sub a b, k => k = "num" ∧ Ok R V a "num" ∧ Ok R V b "num"
  | .times n e, k => k = "num" ∧ (-1000000 ≤ n ∧ n ≤ 1000000) ∧ Ok R V e "num"
  | .div e n, k => k = "num" ∧ (2 ≤ n ∧ n ≤ 99) ∧ Ok R V e "num"
  | .rest e n, k => k = "num" ∧ (2 ≤ n ∧ n ≤ 99) ∧ Ok R V e "num"
  | .len e, k => k = "num" ∧ (Ok R V e "row" ∨ Ok R V e "text")
  | .at_ a b, k => k = "num" ∧ (Ok R V a "row" ∨ Ok R V a "text") ∧ Ok R V b "num"
  | .rows es, k => k = "row" ∧ es.length ≤ 8 ∧ OkN R V es
  | .put a b c, k => k = "row" ∧ Ok R V a "row" ∧ Ok R V b "num" ∧ Ok R V c "num"
  | .more a b, k => k = "row" ∧ Ok R V a "row" ∧ Ok R V b "num"
  | .signs e, k => k = "row" ∧ Ok R V e "text"
def OkL (R : List Rec) (V : List Fld) : List E → List Str → Prop
  | [], [] => True
  | e :: es, k :: ks => Ok R V e k ∧ OkL R V es ks
  | _, _ => False
def OkN (R : List Rec) (V : List Fld) : List E → Prop
  | [] => True
  | e :: es => Ok R V e "num" ∧ OkN R V es
end
theorem OkL.snoc {R : List Rec} {V : List Fld} {e : E} {k : Str} (h : Ok R V e k) : ∀ {es : List E} {ks : List Str}, OkL R V es ks → OkL R V (es ++ [e]) (ks ++ [k])
  | [], [], _ => by simp only [List.nil_append, OkL]; exact ⟨h, trivial⟩
  | a :: r, b :: s, q => by
    simp only [OkL] at q
    simp only [List.cons_append, OkL]
    exact ⟨q.1, OkL.snoc h q.2⟩
  | [], _ :: _, q => by simp only [OkL] at q
  | _ :: _, [], q => by simp only [OkL] at q
theorem OkN.snoc {R : List Rec} {V : List Fld} {e : E} (h : Ok R V e "num") : ∀ {es : List E}, OkN R V es → OkN R V (es ++ [e])
  | [], _ => by simp only [List.nil_append, OkN]; exact ⟨h, trivial⟩
  | a :: r, q => by
    simp only [OkN] at q
    simp only [List.cons_append, OkN]
    exact ⟨q.1, OkN.snoc h q.2⟩
end K6

set_option Elab.async false
set_option linter.all false
set_option maxRecDepth 100000
set_option maxHeartbeats 4000000
namespace K6
open PySem L2
theorem Paired.take' {α β : Type} {F : α → β → Prop} : ∀ (i : Nat) {l : List α} {m : List β}, Paired F l m → Paired F (l.take i) (m.take i)
  | 0, _, _, _ => by rw [List.take_zero, List.take_zero]; exact .nil
  | i + 1, _, _, .nil => .nil
  | i + 1, _, _, .cons h t => .cons h (Paired.take' i t)
theorem Paired.drop' {α β : Type} {F : α → β → Prop} : ∀ (i : Nat) {l : List α} {m : List β}, Paired F l m → Paired F (l.drop i) (m.drop i)
  | 0, _, _, h => h
  | i + 1, _, _, .nil => .nil
  | i + 1, _, _, .cons h t => Paired.drop' i t
theorem Paired.app' {α β : Type} {F : α → β → Prop} : ∀ {a c : List α} {b d : List β}, Paired F a b → Paired F c d → Paired F (a ++ c) (b ++ d)
  | _, _, _, _, .nil, q => q
  | _, _, _, _, .cons h t, q => .cons h (Paired.app' t q)
abbrev Head := Str × List Fld × List Fld × Str
def HeadAt (H : Hp) (v : V) (h : Head) : Prop := ∃ a p q, v = .ref a ∧ H a = some (.tup [.str h.1, p, q, .str h.2.2.2]) ∧ FldsAt H p h.2.1 ∧ FldsAt H q h.2.2.1
theorem HeadAt.mono {H H' : Hp} (t : Tk H H') {v : V} {p : Head} (h : HeadAt H v p) : HeadAt H' v p := let ⟨a, y, z, e, q, r, s⟩ := h; ⟨a, y, z, e, t _ _ q, r.mono t, s.mono t⟩
def KS (R : List Rec) : List Str := PL ++ R.map (·.1)
structure HOk (R : List Rec) (h : Head) : Prop where
  nm : h.1 ∈ POOL
  p2 : h.2.1.length ≤ 2
  l1 : 1 ≤ (h.2.1 ++ h.2.2.1).length
  l5 : (h.2.1 ++ h.2.2.1).length ≤ 5
  nd : ((h.2.1 ++ h.2.2.1).map (·.1)).Nodup
  vs : ∀ p ∈ h.2.1 ++ h.2.2.1, p.1 ∈ POOL ∧ p.2 ∈ KS R
  gv : h.2.2.2 ∈ KS R
structure HsOk (R : List Rec) (HS : List Head) : Prop where
  l1 : 1 ≤ HS.length
  l3 : HS.length ≤ 3
  nd : (HS.map (·.1)).Nodup
  ok : ∀ h ∈ HS, HOk R h
theorem Go.tk {tp : Addr} {H H' : Hp} (g : Go tp H H') (t : Tp H tp) : Tk H H' := fun b ys e => g.x _ _ (t.ne e) e
/-! ### what is shown of words and numbers -/
def WD : List Str := (["num", "text", "var", "of", "with", "new", "add", "sub", "times", "div", "rest", "len", "at", "rows", "put", "more", "signs", "less", "same", "and", "or", "not", "let", "say", "if", "while", "call", "give", "x", "main"] : List Str) ++ POOL ++ TXT ++ PL
theorem wd_nice : ∀ z ∈ WD, (PyData.str z).showable = true ∧ (PyData.str z).hasDict = false ∧ (PyData.str z).depth = 0 ∧ W (.str z) ≤ 12 := by decide +kernel
theorem nW {z : Str} (h : z ∈ WD) : Nice 0 12 (.str z) := by
  obtain ⟨a, b, c, d⟩ := wd_nice z h
  exact ⟨a, b, by omega, d⟩
def NUM : List Int := [0, 1, -1, 2, 3, 7, 1000000, -1000000, -4, -3, -2, 4, 99]
theorem num_nice : ∀ z ∈ NUM, (PyData.int z).showable = true ∧ (PyData.int z).hasDict = false ∧ (PyData.int z).depth = 0 ∧ W (.int z) ≤ 12 := by decide +kernel
theorem nI {z : Int} (h : z ∈ NUM) : Nice 0 12 (.int z) := by
  obtain ⟨a, b, c, d⟩ := num_nice z h
  exact ⟨a, b, by omega, d⟩
theorem pool_wd {z : Str} (h : z ∈ POOL) : z ∈ WD := by
  unfold WD
  simp only [List.mem_append]
  exact .inl (.inl (.inr h))
theorem txt_wd {z : Str} (h : z ∈ TXT) : z ∈ WD := by
  unfold WD
  simp only [List.mem_append]
  exact .inl (.inr h)
theorem nz {m : Nat} : Nices m 0 [] := Nices.nil.mono (Nat.zero_le _) (Nat.le_refl _)
mutual
def E.na : E → Bool
  | .num _ => true
  | .text _ => true
  | .var _ => true
  | .of_ e _ => e.na
  | .with_ e _ g => e.na && g.na
  | .new _ es => E.nas es
  | .add a b => a.na && b.na
  | .sub a b => a.na && b.na
  | .times _ e => e.na
  | .div e _ => e.na
  | .rest e _ => e.na
  | .len e => e.na
  | .at_ _ _ => false
  | .rows es => E.nas es
  | .put _ _ _ => false
  | .more a b => a.na && b.na
  | .signs e => e.na
def E.nas : List E → Bool
  | [] => true
  | e :: r => e.na && E.nas r
end
theorem E.nas_snoc {e : E} (h : e.na = true) : ∀ {es : List E}, E.nas es = true → E.nas (es ++ [e]) = true
  | [], _ => by simp [E.nas, h]
  | a :: r, q => by
    simp only [E.nas, Bool.and_eq_true] at q
    simp only [List.cons_append, E.nas, Bool.and_eq_true]
    exact ⟨q.1, E.nas_snoc h q.2⟩
/-! ### the kit -/
abbrev kitL (v : V) (hl vl : Addr) (g : Str) (n : Int) (b : Bool) : List (Key × V) := [(.inr "records", v), (.inr "heads", .ref hl), (.inr "variables", .ref vl), (.inr "gives", .str g), (.inr "left", .int n), (.inr "reach", .bl b)]
structure KitD (tp : Addr) (H : Hp) (R : List Rec) (HS : List Head) (Vs : List Fld) (v : V) (hl vl : Addr) : Prop where
  rs : RecsAt H v R
  ht : hl ≠ tp
  vt : vl ≠ tp
  hh : ∃ hs, H hl = some (.lst hs) ∧ Paired (HeadAt H) hs HS
  vv : ∃ vs, H vl = some (.lst vs) ∧ Paired (FldAt H) vs Vs
def KitAt (tp : Addr) (H : Hp) (kd : Addr) (R : List Rec) (HS : List Head) (Vs : List Fld) (g : Str) (n : Int) (b : Bool) : Prop :=
  ∃ v hl vl, H kd = some (.dK (kitL v hl vl g n b)) ∧ KitD tp H R HS Vs v hl vl
theorem KitD.mono {tp kd : Addr} {H H' : Hp} {R : List Rec} {HS : List Head} {Vs : List Fld} {v : V} {hl vl : Addr} (t : Tk H H') (e : ∀ b o, b ≠ tp → b ≠ kd → H b = some o → H' b = some o) (hk : hl ≠ kd) (vk : vl ≠ kd) (h : KitD tp H R HS Vs v hl vl) : KitD tp H' R HS Vs v hl vl := by
  obtain ⟨a, b, c, ⟨hs, d1, d2⟩, ⟨vs, e1, e2⟩⟩ := h
  exact ⟨a.mono t, b, c, ⟨hs, e _ _ b hk d1, Paired.mapP d2 fun _ _ z => z.mono t⟩, ⟨vs, e _ _ c vk e1, Paired.mapP e2 fun _ _ z => z.mono t⟩⟩
theorem KitAt.ne {tp kd : Addr} {H : Hp} {R : List Rec} {HS : List Head} {Vs : List Fld} {g : Str} {n : Int} {b : Bool} (h : KitAt tp H kd R HS Vs g n b) (t : Tp H tp) : kd ≠ tp := by
  obtain ⟨v, hl, vl, e, _⟩ := h
  obtain ⟨_, _, _, _, e2, _⟩ := t
  exact ne_of e e2 (fun z => by cases z)
theorem KitAt.go {tp kd : Addr} {H H' : Hp} {R : List Rec} {HS : List Head} {Vs : List Fld} {g : Str} {n : Int} {b : Bool} (h : KitAt tp H kd R HS Vs g n b) (t : Tp H tp) (G : Go tp H H') : KitAt tp H' kd R HS Vs g n b := by
  have kt := h.ne t
  obtain ⟨v, hl, vl, e, D⟩ := h
  obtain ⟨hs, d1, _⟩ := D.hh
  obtain ⟨vs, e1, _⟩ := D.vv
  exact ⟨v, hl, vl, G.x _ _ kt e, D.mono (kd := kd) (G.tk t) (fun b o q _ => G.x b o q) (ne_of d1 e (fun z => by cases z)) (ne_of e1 e (fun z => by cases z))⟩
/-- what the records and variables are -/
structure Env (R : List Rec) (Vs : List Fld) : Prop where
  rl : R.length ≤ 3
  g : GoodR R
  nd : (R.map (·.1)).Nodup
  vn : ∀ p ∈ Vs, p.1 ∈ POOL
  vl : Vs.length ≤ 5
theorem look_cons (r : Rec) (R : List Rec) (k : Str) : look (r :: R) k = if r.1 = k then r.2 else look R k := by
  unfold look
  rw [List.find?_cons]
  by_cases q : r.1 = k
  · rw [if_pos q, decide_eq_true q]; rfl
  · rw [if_neg q, decide_eq_false q]
theorem look_nd : ∀ {R : List Rec}, (R.map (·.1)).Nodup → ∀ r ∈ R, look R r.1 = r.2
  | [], _, r, h => nomatch h
  | a :: rs, nd, r, h => by
    rw [List.map_cons, List.nodup_cons] at nd
    rw [look_cons]
    rcases List.mem_cons.mp h with rfl | h
    · rw [if_pos rfl]
    · have : ¬ a.1 = r.1 := fun e => nd.1 (by rw [e]; exact List.mem_map.mpr ⟨r, h, rfl⟩)
      rw [if_neg this]
      exact look_nd nd.2 r h
theorem ks_deep {R : List Rec} (g : GoodR R) (hl : R.length ≤ 3) : ∀ k ∈ KS R, Deep R 4 k := by
  intro k hk
  rcases List.mem_append.mp hk with h | h
  · exact .inl h
  · obtain ⟨r, hr, rfl⟩ := List.mem_map.mp h
    obtain ⟨i, hi, e⟩ := List.mem_iff_getElem.mp hr
    exact (g.deep i (r := r) (by rw [List.getElem?_eq_getElem hi, e])).mono (by omega)
theorem good_mem {R : List Rec} (g : GoodR R) {r : Rec} (hr : r ∈ R) : r.1 ∈ POOL ∧ ((1 ≤ r.2.length ∧ r.2.length ≤ 3) ∧ (r.2.map (·.1)).Nodup ∧ ∀ p ∈ r.2, p.1 ∈ POOL) ∧ ∀ p ∈ r.2, p.2 ∈ KS R := by
  obtain ⟨i, hi, e⟩ := List.mem_iff_getElem.mp hr
  obtain ⟨h1, h2, h3⟩ := g i r (by rw [List.getElem?_eq_getElem hi, e])
  refine ⟨h1, h2, fun p hp => ?_⟩
  rcases h3 p hp with z | ⟨j, r', _, e1, e2⟩
  · exact List.mem_append_left _ z
  · exact List.mem_append_right _ (List.mem_map.mpr ⟨r', List.mem_of_getElem? e1, e2⟩)
section
variable {P : Program} {w : World} {K : PySem.W.Frag} {mg : Str → Option Value} {base : Heap} {f g : Addr} {fd gd : FuncData}
def spKind : Sp := fun vs H Q _ => ∃ tp v R, vs = [.ref tp, v] ∧ Tp H tp ∧ RecsAt H v R ∧ R.length ≤ 3 ∧ ∀ k H', Go tp H H' → k ∈ KS R → Q (.str k) H'
abbrev n_l_kind : List Str := ["_law_tape_here", "_law_records_here", "_law_some"]
abbrev nb_l_kind_0 : List Str := ["_law_record"]
theorem ndb_l_kind_0 : nb_l_kind_0.Nodup := by decide +kernel
theorem sc_l_kind : FnScope n_l_kind ["_law_tape_here", "_law_records_here"] (defScope s_l_kind) := ⟨rfl, rfl, rfl, by decide +kernel, rfl, by decide +kernel, by decide +kernel⟩
theorem ok_kind (T : G0 mg) (F : Fun K "_law_kind" "_law_kind" s_l_kind f fd) (D_l_draw : Cal P w K mg base 1 "_law_draw" dP spDraw2) : FnOk P w K mg base CX0 2 f fd ["_law_tape_here", "_law_records_here"] spKind := by
  obtain ⟨g_l_draw, gd_l_draw, G_l_draw, b_l_draw, k_l_draw, m_l_draw⟩ := D_l_draw.ex
  refine F.ok sc_l_kind (fun vs H Q E h => ?_) (fun cdv A outer s H vs Q E hr h => ?_)
  · obtain ⟨tp, v, R, rfl, _⟩ := h
    rfl
  obtain ⟨tp, v, R, rfl, ht, hR, hRl, q⟩ := h
  refine ⟨_, (@pss_cons _ _ _ _ _ (@ps_set _ _ 2 _ _ _ _ sc_l_kind.nd rfl (Or.inl rfl) (@pe_op _ _ _ _ _ _ _ _ op_cat (@pe_lst _ _ _ _ (@pa_cons _ _ _ _ _ pe_str (@pa_cons _ _ _ _ _ pe_str (@pa_cons _ _ _ _ _ pe_str (@pa_cons _ _ _ _ _ pe_str pa_nil (star_of rfl)) (star_of rfl)) (star_of rfl)) (star_of rfl))) (pe_comp (N' := nb_l_kind_0) (ρ := [none]) (m := 1) (BlkOk.of (fs := defScope s_l_kind) (N := n_l_kind) rfl rfl (by decide +kernel)) rfl (pi_tup (pv 1)) (fun _ _ _ _ => (pg_name (i := 0) ndb_l_kind_0 rfl (Or.inl rfl))) (fun _ _ _ _ => pts_nil) (fun _ _ _ _ => (pe_ix (ix_tupK (K := K) rfl) (pv 0) pe_int (fun _ _ => rfl))))) (swaps_of rfl) (.inr rfl)) (@pss_one _ _ _ (@ps_ret _ _ _ _ (@pe_ix _ _ _ _ _ _ _ ix_list (pv 2) (@pe_call _ _ _ _ _ _ _ _ _ _ _ _ _ _ _ _ G_l_draw (hr.mono (by omega)) rfl m_l_draw k_l_draw b_l_draw .nil pass0 (@pa_cons _ _ _ _ _ (pv 0) (@pa_cons _ _ _ _ _ (@pe_callB _ _ _ _ _ _ _ _ _ call_len_seq rfl T.len b_len (@pa_cons _ _ _ _ _ (pv 2) pa_nil (star_of rfl)) (by decide) (by decide) (star_of rfl) (plain_of rfl)) pa_nil (star_of rfl)) (star_of rfl)) (by decide) (star_of rfl) (plain_of rfl)) (fun _ _ => rfl))))), ?_⟩
  obtain ⟨rA, rxs, rfl, hrA, rrs⟩ := hR
  refine ⟨(by show 4 ≤ sizeLine; decide), fun l1 hl1 => ?_⟩
  have gl1 := same_new hl1 (.lst ((["num", "num", "text", "row"] : List Str).map V.str))
  refine ⟨_, rfl, rA, rfl, ⟨_, SqT.of (gl1 _ _ hrA)⟩, comp_tup rxs.length rfl (by rw [Paired.length rrs]; omega) (fun j acc H' => H' = upd H l1 (.lst ((["num", "num", "text", "row"] : List Str).map V.str)) ∧ acc = ((R.map (·.1)).take j).map V.str) ⟨rfl, rfl⟩ (fun j acc H' p => by obtain ⟨rfl, _⟩ := p; exact SqT.of (gl1 _ _ hrA)) (fun j acc H' u hj la hu p => ?_) (fun acc H' p la D hD => ?_)⟩
  · obtain ⟨rfl, rfl⟩ := p
    obtain ⟨r, er, a1, y1, rfl, ha1, _⟩ := paired_at rrs j u hu
    refine ⟨⟨rfl, rfl⟩, tTrue_i ⟨_, rfl, a1, _, _, _, rfl, rfl, SqT.of (gl1 _ _ ha1), rfl, nxT (by rw [Paired.length rrs]; omega) hj la ⟨rfl, ?_⟩⟩⟩
    have er2 : (R.map (·.1))[j]? = some r.1 := by rw [List.getElem?_map, er]; rfl
    rw [List.take_add_one, er2, List.map_append]
    rfl
  obtain ⟨rfl, rfl⟩ := p
  rw [Paired.length rrs, ← List.length_map (f := fun r : Rec => r.1), List.take_length]
  have gD := same_new hD (.lst ((R.map (·.1)).map V.str))
  have klen : ((["num", "num", "text", "row"] : List Str).map V.str).length + ((R.map (·.1)).map V.str).length ≤ 7 := by
    rw [List.length_map, List.length_map, List.length_map]
    show 4 + _ ≤ 7
    omega
  refine ⟨l1, D, _, _, rfl, rfl, gD _ _ upd_same, upd_same, Nat.le_of_lt (small1000 (by omega)), fun lp hlp => ?_⟩
  have gp := same_new hlp (.lst ((["num", "num", "text", "row"] : List Str).map V.str ++ (R.map (·.1)).map V.str))
  have G1 := Go.same ht ((gl1.trans gD).trans gp)
  have hlt : lp ≠ tp := (ht.same (gl1.trans gD)).nt hlp
  refine ⟨_, rfl, _, rfl, _, rfl, lp, _, rfl, .inl (SqL.of upd_same), tp, _, rfl, G1.t, ?_, ?_, fun i H2 i0 i1 x2 t2 y2 => ?_⟩
  · rw [List.length_append, List.length_map]
    show (0 : Int) < ((4 + _ : Nat) : Int)
    omega
  · rw [List.length_append]
    omega
  · obtain ⟨u, hu, _, hat⟩ := atI_ex i0 i1
    rw [← List.map_append] at hu
    obtain ⟨k, hk, rfl⟩ := List.mem_map.mp hu
    refine ⟨lp, _, _, _, rfl, rfl, SqL.of (x2 _ _ hlt upd_same), hat, q k _ (G1.trans ⟨x2, t2, y2⟩) ?_⟩
    rcases List.mem_append.mp hk with h | h
    · refine List.mem_append_left _ ?_
      have : ∀ k ∈ (["num", "num", "text", "row"] : List Str), k ∈ PL := by decide
      exact this k h
    · exact List.mem_append_right _ h
def spHeads : Sp := fun vs H Q _ => ∃ tp v R, vs = [.ref tp, v] ∧ Tp H tp ∧ RecsAt H v R ∧ R.length ≤ 3 ∧ ∀ r hs HS H', Go tp H H' → H r = none → H' r = some (.lst hs) → Paired (HeadAt H') hs HS → HsOk R HS → Q (.ref r) H'
abbrev n_l_heads : List Str := ["_law_tape_here", "_law_records_here", "_law_heads_here", "_law_name", "_law_names_here", "_law_many", "_law_pairs"]
abbrev nb_l_heads_0 : List Str := ["_law_one", "_law_tape_here", "_law_records_here"]
theorem ndb_l_heads_0 : nb_l_heads_0.Nodup := by decide +kernel
theorem sc_l_heads : FnScope n_l_heads ["_law_tape_here", "_law_records_here"] (defScope s_l_heads) := ⟨rfl, rfl, rfl, by decide +kernel, rfl, by decide +kernel, by decide +kernel⟩
theorem ok_heads (T : G0 mg) (F : Fun K "_law_heads" "_law_heads" s_l_heads f fd) (D_l_draw : Cal P w K mg base 1 "_law_draw" dP spDraw2) (D_l_names : Cal P w K mg base 2 "_law_names" dP spNames) (D_l_kind : Cal P w K mg base 2 "_law_kind" ["_law_tape_here", "_law_records_here"] spKind) :
    FnOk P w K mg base CX0 3 f fd ["_law_tape_here", "_law_records_here"] spHeads := by
  obtain ⟨g_l_draw, gd_l_draw, G_l_draw, b_l_draw, k_l_draw, m_l_draw⟩ := D_l_draw.ex
  obtain ⟨g_l_names, gd_l_names, G_l_names, b_l_names, k_l_names, m_l_names⟩ := D_l_names.ex
  obtain ⟨g_l_kind, gd_l_kind, G_l_kind, b_l_kind, k_l_kind, m_l_kind⟩ := D_l_kind.ex
  refine F.ok sc_l_heads (fun vs H Q E h => ?_) (fun cdv A outer s H vs Q E hr h => ?_)
  · obtain ⟨tp, v, R, rfl, _⟩ := h
    rfl
  obtain ⟨tp, v, R, rfl, ht, hR, hRl, q⟩ := h
  refine ⟨_, (@pss_cons _ _ _ _ _ (@ps_set _ _ 2 _ _ _ _ sc_l_heads.nd rfl (Or.inl rfl) (@pe_lst _ _ _ _ pa_nil) (swaps_of rfl) (.inr rfl)) (@pss_cons _ _ _ _ _ (@ps_for _ _ _ _ _ _ _ _ PassesOwn.never rfl (pi_list (@pe_call _ _ _ _ _ _ _ _ _ _ _ _ _ _ _ _ G_l_names (hr.mono (by omega)) rfl m_l_names k_l_names b_l_names .nil pass0 (@pa_cons _ _ _ _ _ (pv 0) (@pa_cons _ _ _ _ _ (@pe_op _ _ _ _ _ _ _ _ op_add pe_int (@pe_call _ _ _ _ _ _ _ _ _ _ _ _ _ _ _ _ G_l_draw (hr.mono (by omega)) rfl m_l_draw k_l_draw b_l_draw .nil pass0 (@pa_cons _ _ _ _ _ (pv 0) (@pa_cons _ _ _ _ _ pe_int pa_nil (star_of rfl)) (star_of rfl)) (by decide) (star_of rfl) (plain_of rfl))) pa_nil (star_of rfl)) (star_of rfl)) (by decide) (star_of rfl) (plain_of rfl))) (pg_name (i := 3) sc_l_heads.nd rfl (Or.inl rfl)) (@pss_cons _ _ _ _ _ (@ps_set _ _ 4 _ _ _ _ sc_l_heads.nd rfl (Or.inl rfl) (@pe_call _ _ _ _ _ _ _ _ _ _ _ _ _ _ _ _ G_l_names (hr.mono (by omega)) rfl m_l_names k_l_names b_l_names .nil pass0 (@pa_cons _ _ _ _ _ (pv 0) (@pa_cons _ _ _ _ _ pe_int pa_nil (star_of rfl)) (star_of rfl)) (by decide) (star_of rfl) (plain_of rfl)) (swaps_of rfl) (.inr rfl)) (@pss_cons _ _ _ _ _ (@ps_set _ _ 5 _ _ _ _ sc_l_heads.nd rfl (Or.inl rfl) (@pe_call _ _ _ _ _ _ _ _ _ _ _ _ _ _ _ _ G_l_draw (hr.mono (by omega)) rfl m_l_draw k_l_draw b_l_draw .nil pass0 (@pa_cons _ _ _ _ _ (pv 0) (@pa_cons _ _ _ _ _ pe_int pa_nil (star_of rfl)) (star_of rfl)) (by decide) (star_of rfl) (plain_of rfl)) (swaps_of rfl) (.inr rfl)) (@pss_cons _ _ _ _ _ (ps_comp (i := 6) (N' := nb_l_heads_0) (ρ := [none, some 0, some 1]) (m := 1) (BlkOk.of (fs := defScope s_l_heads) (N := n_l_heads) rfl rfl (by decide +kernel)) sc_l_heads.nd rfl (Or.inl rfl) rfl (pi_list (pe_slice sl_list (pv 4) po_none (po_some (pe_op op_add (pe_op op_add (pv 5) pe_int) (pe_call G_l_draw (hr.mono (by omega)) rfl m_l_draw k_l_draw b_l_draw .nil pass0 (pa_cons (pv 0) (pa_cons pe_int pa_nil))))))) (fun _ _ _ _ => (pg_name (i := 0) ndb_l_heads_0 rfl (Or.inl rfl))) (fun _ _ _ _ => pts_nil) (fun _ _ _ _ => (pe_tup (pa_cons (pv 0) (pa_cons (pe_call G_l_kind (hr.mono (by omega)) rfl m_l_kind k_l_kind b_l_kind .nil pass0 (pa_cons (pv 1) (pa_cons (pv 2) pa_nil))) pa_nil))))) (@pss_one _ _ _ (@ps_expr _ _ _ _ (@pe_bm _ _ _ _ _ _ _ _ _ _ _ _ PySem.F.plainAttrs_list PySem.F.slot_list_append PySem.F.type_list_append mt_append (pv 2) (@pa_cons _ _ _ _ _ (@pe_tup _ _ _ _ _ (@pa_cons _ _ _ _ _ (pv 3) (@pa_cons _ _ _ _ _ (@pe_callTy _ _ _ _ _ _ _ _ _ call_tuple_of rfl T.tuple b_tuple (@pa_cons _ _ _ _ _ (@pe_slice _ _ _ _ _ _ _ _ _ _ sl_list (pv 6) po_none (po_some (pv 5))) pa_nil (star_of rfl)) (by decide) (by decide) (star_of rfl) (plain_of rfl)) (@pa_cons _ _ _ _ _ (@pe_callTy _ _ _ _ _ _ _ _ _ call_tuple_of rfl T.tuple b_tuple (@pa_cons _ _ _ _ _ (@pe_slice _ _ _ _ _ _ _ _ _ _ sl_list (pv 6) (po_some (pv 5)) po_none) pa_nil (star_of rfl)) (by decide) (by decide) (star_of rfl) (plain_of rfl)) (@pa_cons _ _ _ _ _ (@pe_call _ _ _ _ _ _ _ _ _ _ _ _ _ _ _ _ G_l_kind (hr.mono (by omega)) rfl m_l_kind k_l_kind b_l_kind .nil pass0 (@pa_cons _ _ _ _ _ (pv 0) (@pa_cons _ _ _ _ _ (pv 1) pa_nil (star_of rfl)) (star_of rfl)) (by decide) (star_of rfl) (plain_of rfl)) pa_nil (star_of rfl)) (star_of rfl)) (star_of rfl)) (star_of rfl))) pa_nil (star_of rfl)) rfl (few_of rfl rfl) rfl (star_of rfl) (plain_of rfl)) (swaps_of rfl)))))) (fun _ => rfl)) (@pss_one _ _ _ (@ps_ret _ _ _ _ (pv 2))))), ?_⟩
  refine ⟨(by show 0 ≤ sizeLine; decide), fun rl hrl => ?_⟩
  have G1 : Go tp H (L2.upd H rl (.lst [])) := (Go.refl ht).new hrl _
  have hrt : rl ≠ tp := ht.nt hrl
  refine ⟨_, rfl, _, rfl, tp, 3, rfl, G1.t, by decide, by decide, fun v4 H4 b0 b1 x4 t4 y4 => ?_⟩
  have G4 := G1.trans ⟨x4, t4, y4⟩
  have rl4 : H4 rl = some (.lst []) := x4 _ _ hrt upd_same
  refine ⟨_, _, rfl, rfl, tp, _, rfl, t4, by omega, by omega, fun an l H5 g5 an0 han hl hpl hnd => ?_⟩
  have G5 := G4.trans g5
  have hra : rl ≠ an := ne_of_none rl4 an0
  have rl5 : H5 rl = some (.lst []) := g5.x _ _ hrt rl4
  have hat' : an ≠ tp := t4.nt an0
  have hl3 : l.length ≤ 3 := by omega
  have hl1 : 1 ≤ l.length := by omega
  refine ⟨an, rfl, ⟨_, SqL.of han⟩, for_list (xs := l.map V.str) (fun i σ H' => ∃ m3 m4 m5 m6 xs HS, σ = [some (.ref tp), some v, some (.ref rl), m3, m4, m5, m6] ∧ Go tp H H' ∧ H' an = some (.lst (l.map V.str)) ∧ H' rl = some (.lst xs) ∧ Paired (HeadAt H') xs HS ∧ HS.map (·.1) = l.take i ∧ ∀ h ∈ HS, HOk R h) ⟨none, none, none, none, [], [], rfl, G5, han, rl5, .nil, by simp, fun _ z => nomatch z⟩ (fun i σ H' _ p => ?_) (fun i x σ H' hx p => ?_) (fun σ H' p => ?_)⟩
  · obtain ⟨_, _, _, _, _, _, _, _, e, _⟩ := p
    exact SqL.of e
  · obtain ⟨m3, m4, m5, m6, xs, HS, rfl, GA, hnA, hlA, pA, nA, oA⟩ := p
    rw [List.getElem?_map] at hx
    obtain ⟨nm, hnm, rfl⟩ := Option.map_eq_some_iff.mp hx
    have hi3 : i < 3 := by
      have := (List.getElem?_eq_some_iff.mp hnm).1
      omega
    have xl : xs.length = i := by
      rw [Paired.length pA, ← List.length_map (f := fun h : Head => h.1), nA, List.length_take]
      have := (List.getElem?_eq_some_iff.mp hnm).1
      omega
    refine ⟨_, rfl, tp, 5, rfl, GA.t, by decide, by decide, fun nl ln H6 G6 nl0 hnl hln hpln hndn => ?_⟩
    have lnl : ln.length = 5 := by rw [hln]; rfl
    have hnt : nl ≠ tp := GA.t.nt nl0
    refine ⟨_, rfl, tp, 3, rfl, G6.t, by decide, by decide, fun mn H7 mn0 mn1 x7 t7 y7 => ?_⟩
    have G7 : Go tp H' H7 := G6.trans ⟨x7, t7, y7⟩
    have hnl7 := x7 _ _ hnt hnl
    refine ⟨_, rfl, _, rfl, _, _, rfl, rfl, _, rfl, tp, 3, rfl, t7, by decide, by decide, fun ex H8 ex0 ex1 x8 t8 y8 => ?_⟩
    have G8 := G7.trans ⟨x8, t8, y8⟩
    have hnl8 := x8 _ _ hnt hnl7
    obtain ⟨mN, rfl⟩ : ∃ mN : Nat, mn = mN := ⟨mn.toNat, by omega⟩
    obtain ⟨eN, rfl⟩ : ∃ eN : Nat, ex = eN := ⟨ex.toNat, by omega⟩
    refine ⟨_, _, rfl, rfl, _, rfl, nl, _, rfl, SqL.of hnl8, fun ps hps => ?_⟩
    have en : ((mN : Int) + 1 + (eN : Int)) = ((mN + 1 + eN : Nat) : Int) := by omega
    have ec : cutV (ln.map V.str) none (some ((mN : Int) + 1 + (eN : Int))) = (ln.take (mN + 1 + eN)).map V.str := by
      rw [en, cutL _ _ (by rw [List.length_map]; omega), List.map_take]
    rw [ec]
    have G9 := G8.new hps (.lst ((ln.take (mN + 1 + eN)).map V.str))
    have hpt : ps ≠ tp := G8.t.nt hps
    have hnn : (ln.take (mN + 1 + eN)).length = mN + 1 + eN := by rw [List.length_take]; omega
    refine ⟨ps, rfl, ⟨_, SqL.of upd_same⟩, comp_list (xs := (ln.take (mN + 1 + eN)).map V.str) (mN + 1 + eN) (by rw [List.length_map]; omega) (by omega) (fun j acc H2 => Go tp (L2.upd H8 ps (.lst ((ln.take (mN + 1 + eN)).map V.str))) H2 ∧ ∃ fs : List Fld, Paired (FldAt H2) acc fs ∧ fs.map (·.1) = (ln.take (mN + 1 + eN)).take j ∧ ∀ p ∈ fs, p.2 ∈ KS R) ⟨Go.refl G9.t, [], .nil, by simp, fun _ z => nomatch z⟩ (fun j acc H2 p => SqL.of (p.1.x _ _ hpt upd_same)) (fun j acc H2 x hj la hx p => ?_) (fun acc H2 p la D hD => ?_)⟩
    · obtain ⟨GB, fs, pf, ef, kf⟩ := p
      rw [List.getElem?_map] at hx
      obtain ⟨one, hone, rfl⟩ := Option.map_eq_some_iff.mp hx
      have G9B := G9.trans GB
      refine ⟨⟨rfl, rfl⟩, tTrue_i ⟨_, rfl, _, rfl, _, rfl, tp, v, R, rfl, GB.t, hR.mono ((GA.trans G9B).tk ht), hRl, fun kk H3 G3 hkk => ⟨(by show 2 ≤ sizeLine; decide), fun pp hpp => nxT (by omega) hj la ⟨(GB.trans G3).new hpp _, fs ++ [(one, kk)], ?_, ?_, fun y hy => ?_⟩⟩⟩⟩
      · exact Paired.snoc (Paired.mapP pf fun _ _ z => z.mono ((G3.tk GB.t).trans (tk_new hpp _))) ⟨pp, rfl, upd_same⟩
      · rw [List.map_append, ef, List.take_add_one, hone]; rfl
      · rcases List.mem_append.mp hy with hy | hy
        · exact kf y hy
        · rw [List.mem_singleton.mp hy]; exact hkk
    · obtain ⟨GB, fs, pf, ef, kf⟩ := p
      have ef' : fs.map (·.1) = ln.take (mN + 1 + eN) := by rw [ef, List.take_of_length_le (by omega)]
      have lf : fs.length = mN + 1 + eN := by rw [← List.length_map (f := fun p : Fld => p.1), ef', hnn]
      have lacc := Paired.length pf
      have GD := (G9.trans GB).new hD (.lst acc)
      have hDt : D ≠ tp := GB.t.nt hD
      have pfD := Paired.mapP pf fun _ _ z => FldAt.mono (tk_new hD (.lst acc)) z
      have eD : (L2.upd H2 D (.lst acc)) D = some (.lst acc) := upd_same
      have hlD := GD.x _ _ hrt hlA
      have hnD := GD.x _ _ hat' hnA
      refine ⟨_, rfl, .inl ⟨rfl, _, SqL.of hlD⟩, _, rfl, _, rfl, _, rfl, _, rfl, D, _, rfl, SqL.of eD, fun c1 hc1 => ?_⟩
      have e1 : cutV acc none (some (mN : Int)) = acc.take mN := cutL _ _ (by omega)
      have e2 : cutV acc (some (mN : Int)) none = acc.drop mN := cutR _ _
      rw [e1]
      have s1 := same_new hc1 (.lst (acc.take mN))
      refine ⟨c1, _, rfl, .inl ⟨SqL.of upd_same, fun c2 hc2 => ?_⟩⟩
      have s2 := same_new hc2 (.tup (acc.take mN))
      refine ⟨_, rfl, _, rfl, _, rfl, D, _, rfl, SqL.of (s2 _ _ (s1 _ _ eD)), fun c3 hc3 => ?_⟩
      rw [e2]
      have s3 := same_new hc3 (.lst (acc.drop mN))
      refine ⟨c3, _, rfl, .inl ⟨SqL.of upd_same, fun c4 hc4 => ?_⟩⟩
      have s4 := same_new hc4 (.tup (acc.drop mN))
      have sA := ((s1.trans s2).trans s3).trans s4
      have GE := GD.trans (Go.same GD.t sA)
      refine ⟨_, rfl, _, rfl, tp, v, R, rfl, GE.t, hR.mono ((GA.trans GE).tk ht), hRl, fun gk H3 G3 hgk => ⟨(by show 4 ≤ sizeLine; decide), fun tr htr => ?_⟩⟩
      have GF := (GE.trans G3).new htr (.tup [.str nm, .ref c2, .ref c4, .str gk])
      have hlF := GF.x _ _ hrt hlA
      refine ⟨rl, xs, _, rfl, rfl, hlF, small1000 (by omega), ?_⟩
      have kL := tk_lst hlF (.lst (xs ++ [.ref tr]))
      have GZ := GA.trans GF
      have kG : Tk (L2.upd H2 D (.lst acc)) H3 := (tk_same sA).trans (G3.tk GE.t)
      have kH : Tk H3 (L2.upd (L2.upd H3 tr (.tup [.str nm, .ref c2, .ref c4, .str gk])) rl (.lst (xs ++ [.ref tr]))) := (tk_new htr _).trans kL
      refine ⟨_, _, _, _, xs ++ [.ref tr], HS ++ [(nm, fs.take mN, fs.drop mN, gk)], rfl, GZ.upd ht hrl _, ?_, upd_same, ?_, ?_, fun h hh => ?_⟩
      · rw [upd_ne hra.symm]
        exact GF.x _ _ hat' hnA
      · have kA : Tk H' (L2.upd _ rl (.lst (xs ++ [.ref tr]))) := (GF.tk GA.t).trans kL
        refine Paired.snoc (Paired.mapP pA fun _ _ z => z.mono kA) ⟨tr, .ref c2, .ref c4, rfl, kL _ _ upd_same, ⟨c2, acc.take mN, rfl, ?_, ?_⟩, ⟨c4, acc.drop mN, rfl, ?_, ?_⟩⟩
        · exact kH _ _ (G3.tk GE.t _ _ (s4 _ _ (s3 _ _ upd_same)))
        · exact Paired.mapP (Paired.take' mN pfD) fun _ _ z => z.mono (kG.trans kH)
        · exact kH _ _ (G3.tk GE.t _ _ upd_same)
        · exact Paired.mapP (Paired.drop' mN pfD) fun _ _ z => z.mono (kG.trans kH)
      · rw [List.map_append, nA, List.take_add_one, hnm]; rfl
      · rcases List.mem_append.mp hh with hh | hh
        · exact oA h hh
        · rw [List.mem_singleton.mp hh]
          have eA : fs.take mN ++ fs.drop mN = fs := List.take_append_drop _ _
          refine ⟨hpl nm (List.mem_of_getElem? hnm), ?_, ?_, ?_, ?_, fun p hp => ?_, hgk⟩
          · show (fs.take mN).length ≤ 2
            rw [List.length_take]; omega
          · show 1 ≤ (fs.take mN ++ fs.drop mN).length
            rw [eA]; omega
          · show (fs.take mN ++ fs.drop mN).length ≤ 5
            rw [eA]; omega
          · show ((fs.take mN ++ fs.drop mN).map (·.1)).Nodup
            rw [eA, ef']
            exact hndn.sublist (List.take_sublist _ _)
          · have hp' : p ∈ fs := by
              have hp2 : p ∈ fs.take mN ++ fs.drop mN := hp
              rwa [eA] at hp2
            have : p.1 ∈ ln.take (mN + 1 + eN) := by rw [← ef']; exact List.mem_map.mpr ⟨p, hp', rfl⟩
            exact ⟨hpln _ (List.mem_of_mem_take this), kf p hp'⟩
  · obtain ⟨m3, m4, m5, m6, xs, HS, rfl, GA, hnA, hlA, pA, nA, oA⟩ := p
    refine ⟨_, rfl, ?_⟩
    rw [List.length_map, List.take_length] at nA
    have hl : HS.length = l.length := by rw [← List.length_map (f := fun h : Head => h.1), nA]
    exact q rl xs HS _ GA hrl hlA pA ⟨by omega, by omega, by rw [nA]; exact hnd, oA⟩
end
end K6

set_option Elab.async false
set_option linter.all false
set_option maxRecDepth 100000
set_option maxHeartbeats 4000000
namespace K6
open PySem L2
def lbf : Nat → Nat
  | 0 => 0
  | m + 1 => 3 * lbf m + 42
theorem nums8 : ∀ v ∈ ([V.int 0, V.int 1, V.int (-1), V.int 2, V.int 3, V.int 7, V.int (10 ^ (6 : Int).toNat), V.int (-(10 ^ (6 : Int).toNat))] : List V), ∃ i, v = V.int i ∧ i ∈ NUM ∧ -1000000 ≤ i ∧ i ≤ 1000000 := by
  intro v h
  simp only [List.mem_cons, List.not_mem_nil, or_false] at h
  rcases h with h | h | h | h | h | h | h | h <;> subst h <;> exact ⟨_, rfl, by decide +kernel, by decide, by decide⟩
theorem txts5 : ∀ v ∈ ([V.str "", V.str "a", V.str "b a", V.str "~ !", V.str "ab&"] : List V), ∃ z, v = V.str z ∧ z ∈ TXT := by
  intro v h
  simp only [List.mem_cons, List.not_mem_nil, or_false] at h
  rcases h with h | h | h | h | h <;> subst h <;> exact ⟨_, rfl, by decide +kernel⟩
theorem lbf_pos {m : Nat} : 42 ≤ lbf (m + 1) := by unfold lbf; omega
/-- a tuple of a word and one thing, shown -/
theorem nice2 {m b c : Nat} {x y : PyData} (h : Nice m b x) (k : Nice m c y) : Nice (m + 1) (b + c + 7) (.tuple [x, y]) := (Nices.cons h (Nices.cons k nz)).tup.mono (Nat.le_refl _) (by omega)
theorem nice3 {m b c d : Nat} {x y z : PyData} (h : Nice m b x) (k : Nice m c y) (l : Nice m d z) : Nice (m + 1) (b + c + d + 9) (.tuple [x, y, z]) := (Nices.cons h (Nices.cons k (Nices.cons l nz))).tup.mono (Nat.le_refl _) (by omega)
theorem nice4 {m b c d e : Nat} {x y z t : PyData} (h : Nice m b x) (k : Nice m c y) (l : Nice m d z) (n : Nice m e t) : Nice (m + 1) (b + c + d + e + 11) (.tuple [x, y, z, t]) := (Nices.cons h (Nices.cons k (Nices.cons l (Nices.cons n nz)))).tup.mono (Nat.le_refl _) (by omega)
theorem Nice.up {m m' b : Nat} {d : PyData} (h : Nice m b d) (q : m ≤ m') : Nice m' b d := h.mono q (Nat.le_refl _)
/-- expressions, each shown so far -/
theorem nices_es {m b : Nat} : ∀ {es : List E}, (∀ e ∈ es, Nice m b e.d) → Nices m (es.length * (b + 2)) (E.ds es)
  | [], _ => nz.mono (Nat.le_refl _) (Nat.zero_le _)
  | e :: r, h => by
    have h1 := h e List.mem_cons_self
    have h2 := nices_es (es := r) fun j hj => h j (List.mem_cons_of_mem _ hj)
    exact (Nices.cons h1 h2).mono (Nat.le_refl _) (by rw [List.length_cons, Nat.add_mul]; omega)
theorem wd (z : Str) (h : decide (z ∈ WD) = true) : Nice 0 12 (.str z) := nW (of_decide_eq_true h)
section
variable {P : Program} {w : World} {K : PySem.W.Frag} {mg : Str → Option Value} {base : Heap} {f g : Addr} {fd gd : FuncData}
def spLeaf (K : PySem.W.Frag) (m : Nat) : Sp := fun vs H Q _ => ∃ tp kd k R HS Vs gv n b, vs = [.ref tp, .ref kd, .str k] ∧ Tp H tp ∧ KitAt tp H kd R HS Vs gv n b ∧ Env R Vs ∧ Deep R m k ∧ ∀ u e H', Go tp H H' → DT K H' u e.d → Ok R Vs e k → e.na = true → Nice (2 * m) (lbf m) e.d → Q u H'
abbrev pLf : List Str := ["_law_tape_here", "_law_kit_here", "_law_kind_here"]
abbrev n_l_leaf : List Str := ["_law_tape_here", "_law_kit_here", "_law_kind_here", "_law_some", "_law_fields"]
abbrev nb_l_leaf_0 : List Str := ["_law_name", "_law_own", "_law_tape_here", "_law_kit_here"]
theorem ndb_l_leaf_0 : nb_l_leaf_0.Nodup := by decide +kernel
abbrev nb_l_leaf_1 : List Str := ["_law_record", "_law_kind_here"]
theorem ndb_l_leaf_1 : nb_l_leaf_1.Nodup := by decide +kernel
abbrev nb_l_leaf_2 : List Str := ["_law_name", "_law_own", "_law_kind_here"]
theorem ndb_l_leaf_2 : nb_l_leaf_2.Nodup := by decide +kernel
theorem sc_l_leaf : FnScope n_l_leaf ["_law_tape_here", "_law_kit_here", "_law_kind_here"] (defScope s_l_leaf) := ⟨rfl, rfl, rfl, by decide +kernel, rfl, by decide +kernel, by decide +kernel⟩
theorem ok_leaf {m : Nat} (T : G0 mg) (F : Fun K "_law_leaf" "_law_leaf" s_l_leaf f fd) (D_l_draw : Cal P w K mg base 1 "_law_draw" dP spDraw2) (D_l_leaf : Cal P w K mg base (m + 1) "_law_leaf" pLf (spLeaf K m)) :
    FnOk P w K mg base CX0 (m + 2) f fd pLf (spLeaf K (m + 1)) := by
  obtain ⟨g_l_draw, gd_l_draw, G_l_draw, b_l_draw, k_l_draw, m_l_draw⟩ := D_l_draw.ex
  obtain ⟨g_l_leaf, gd_l_leaf, G_l_leaf, b_l_leaf, k_l_leaf, m_l_leaf⟩ := D_l_leaf.ex
  refine F.ok sc_l_leaf (fun vs H Q EX h => ?_) (fun cdv A outer s H vs Q EX hr h => ?_)
  · obtain ⟨tp, kd, k, R, HS, Vs, gv, n, b, rfl, _⟩ := h
    rfl
  obtain ⟨tp, kd, k, R, HS, Vs, gv, n, b, rfl, ht, hkit, env, hk, q⟩ := h
  refine ⟨_, (@pss_cons _ _ _ _ _ (ps_comp (i := 3) (N' := nb_l_leaf_2) (ρ := [none, none, some 2]) (m := 2) (BlkOk.of (fs := defScope s_l_leaf) (N := n_l_leaf) rfl rfl (by decide +kernel)) sc_l_leaf.nd rfl (Or.inl rfl) rfl (pi_list (pe_ix ix_dict (pv 1) pe_str (fun _ _ => rfl))) (fun _ _ _ _ => (pg_tupK (n := 2) (K := K) rfl rfl (pgs_cons (pg_name (i := 0) ndb_l_leaf_2 rfl (Or.inl rfl)) (pgs_cons (pg_name (i := 1) ndb_l_leaf_2 rfl (Or.inl rfl)) pgs_nil)))) (fun _ _ _ _ => (pts_one (pt_cmpR op_eq (pv 1) (pv 2) (nomark _)))) (fun _ _ _ _ => (pv 0))) (@pss_cons _ _ _ _ _ (@ps_if _ _ _ _ _ _ _ _ (PW.pt (pw_and (@pt_cmpR _ _ _ _ _ _ _ _ (op_neNil hr.units0) (pv 3) (@pe_lst _ _ _ _ pa_nil) (nomark _)) (pw_and1 (@pt_cmpR _ _ _ _ _ _ _ _ op_gt (@pe_call _ _ _ _ _ _ _ _ _ _ _ _ _ _ _ _ G_l_draw (hr.mono (by omega)) rfl m_l_draw k_l_draw b_l_draw .nil pass0 (@pa_cons _ _ _ _ _ (pv 0) (@pa_cons _ _ _ _ _ pe_int pa_nil (star_of rfl)) (star_of rfl)) (by decide) (star_of rfl) (plain_of rfl)) pe_int (nomark _))))) (@pss_one _ _ _ (@ps_ret _ _ _ _ (@pe_tup _ _ _ _ _ (@pa_cons _ _ _ _ _ pe_str (@pa_cons _ _ _ _ _ (@pe_ix _ _ _ _ _ _ _ ix_list (pv 3) (@pe_call _ _ _ _ _ _ _ _ _ _ _ _ _ _ _ _ G_l_draw (hr.mono (by omega)) rfl m_l_draw k_l_draw b_l_draw .nil pass0 (@pa_cons _ _ _ _ _ (pv 0) (@pa_cons _ _ _ _ _ (@pe_callB _ _ _ _ _ _ _ _ _ call_len_seq rfl T.len b_len (@pa_cons _ _ _ _ _ (pv 3) pa_nil (star_of rfl)) (by decide) (by decide) (star_of rfl) (plain_of rfl)) pa_nil (star_of rfl)) (star_of rfl)) (by decide) (star_of rfl) (plain_of rfl)) (fun _ _ => rfl)) pa_nil (star_of rfl)) (star_of rfl))))) pss_nil) (@pss_cons _ _ _ _ _ (@ps_if _ _ _ _ _ _ _ _ (@pt_cmpR _ _ _ _ _ _ _ _ op_eq (pv 2) pe_str (nomark _)) (@pss_one _ _ _ (@ps_ret _ _ _ _ (@pe_tup _ _ _ _ _ (@pa_cons _ _ _ _ _ pe_str (@pa_cons _ _ _ _ _ (@pe_ix _ _ _ _ _ _ _ ix_list (@pe_lst _ _ _ _ (@pa_cons _ _ _ _ _ pe_int (@pa_cons _ _ _ _ _ pe_int (@pa_cons _ _ _ _ _ (@pe_un _ _ _ _ _ _ un_neg pe_int) (@pa_cons _ _ _ _ _ pe_int (@pa_cons _ _ _ _ _ pe_int (@pa_cons _ _ _ _ _ pe_int (@pa_cons _ _ _ _ _ (@pe_op _ _ _ _ _ _ _ _ op_pow pe_int pe_int) (@pa_cons _ _ _ _ _ (@pe_un _ _ _ _ _ _ un_neg (@pe_op _ _ _ _ _ _ _ _ op_pow pe_int pe_int)) pa_nil (star_of rfl)) (star_of rfl)) (star_of rfl)) (star_of rfl)) (star_of rfl)) (star_of rfl)) (star_of rfl)) (star_of rfl))) (@pe_call _ _ _ _ _ _ _ _ _ _ _ _ _ _ _ _ G_l_draw (hr.mono (by omega)) rfl m_l_draw k_l_draw b_l_draw .nil pass0 (@pa_cons _ _ _ _ _ (pv 0) (@pa_cons _ _ _ _ _ pe_int pa_nil (star_of rfl)) (star_of rfl)) (by decide) (star_of rfl) (plain_of rfl)) (fun _ _ => rfl)) pa_nil (star_of rfl)) (star_of rfl))))) pss_nil) (@pss_cons _ _ _ _ _ (@ps_if _ _ _ _ _ _ _ _ (@pt_cmpR _ _ _ _ _ _ _ _ op_eq (pv 2) pe_str (nomark _)) (@pss_one _ _ _ (@ps_ret _ _ _ _ (@pe_tup _ _ _ _ _ (@pa_cons _ _ _ _ _ pe_str (@pa_cons _ _ _ _ _ (@pe_ix _ _ _ _ _ _ _ ix_list (@pe_lst _ _ _ _ (@pa_cons _ _ _ _ _ pe_str (@pa_cons _ _ _ _ _ pe_str (@pa_cons _ _ _ _ _ pe_str (@pa_cons _ _ _ _ _ pe_str (@pa_cons _ _ _ _ _ pe_str pa_nil (star_of rfl)) (star_of rfl)) (star_of rfl)) (star_of rfl)) (star_of rfl))) (@pe_call _ _ _ _ _ _ _ _ _ _ _ _ _ _ _ _ G_l_draw (hr.mono (by omega)) rfl m_l_draw k_l_draw b_l_draw .nil pass0 (@pa_cons _ _ _ _ _ (pv 0) (@pa_cons _ _ _ _ _ pe_int pa_nil (star_of rfl)) (star_of rfl)) (by decide) (star_of rfl) (plain_of rfl)) (fun _ _ => rfl)) pa_nil (star_of rfl)) (star_of rfl))))) pss_nil) (@pss_cons _ _ _ _ _ (@ps_if _ _ _ _ _ _ _ _ (@pt_cmpR _ _ _ _ _ _ _ _ op_eq (pv 2) pe_str (nomark _)) (@pss_one _ _ _ (@ps_ret _ _ _ _ (@pe_tup _ _ _ _ _ (@pa_cons _ _ _ _ _ pe_str (@pa_cons _ _ _ _ _ (@pe_tup _ _ _ _ _ pa_nil) pa_nil (star_of rfl)) (star_of rfl))))) pss_nil) (@pss_cons _ _ _ _ _ (ps_comp (i := 4) (N' := nb_l_leaf_1) (ρ := [none, some 2]) (m := 1) (BlkOk.of (fs := defScope s_l_leaf) (N := n_l_leaf) rfl rfl (by decide +kernel)) sc_l_leaf.nd rfl (Or.inl rfl) rfl (pi_tup (pe_ix ix_dict (pv 1) pe_str (fun _ _ => rfl))) (fun _ _ _ _ => (pg_name (i := 0) ndb_l_leaf_1 rfl (Or.inl rfl))) (fun _ _ _ _ => (pts_one (pt_cmpR op_eq (pe_ix (ix_tupK (K := K) rfl) (pv 0) pe_int (fun _ _ => rfl)) (pv 1) (nomark _)))) (fun _ _ _ _ => (pe_ix (ix_tupK (K := K) rfl) (pv 0) pe_int (fun _ _ => rfl)))) (@pss_one _ _ _ (@ps_ret _ _ _ _ (@pe_tup _ _ _ _ _ (@pa_cons _ _ _ _ _ pe_str (@pa_cons _ _ _ _ _ (pv 2) (@pa_cons _ _ _ _ _ (@pe_callTy _ _ _ _ _ _ _ _ _ call_tuple_of rfl T.tuple b_tuple (@pa_cons _ _ _ _ _ (pe_comp (N' := nb_l_leaf_0) (ρ := [none, none, some 0, some 1]) (m := 2) (BlkOk.of (fs := defScope s_l_leaf) (N := n_l_leaf) rfl rfl (by decide +kernel)) rfl (pi_tup (pe_ix ix_list (pv 4) pe_int (fun _ _ => rfl))) (fun _ _ _ _ => (pg_tupK (n := 2) (K := K) rfl rfl (pgs_cons (pg_name (i := 0) ndb_l_leaf_0 rfl (Or.inl rfl)) (pgs_cons (pg_name (i := 1) ndb_l_leaf_0 rfl (Or.inl rfl)) pgs_nil)))) (fun _ _ _ _ => pts_nil) (fun _ _ _ _ => (pe_call G_l_leaf (hr.mono (by omega)) rfl m_l_leaf k_l_leaf b_l_leaf .nil pass0 (pa_cons (pv 2) (pa_cons (pv 3) (pa_cons (pv 1) pa_nil)))))) pa_nil (star_of rfl)) (by decide) (by decide) (star_of rfl) (plain_of rfl)) pa_nil (star_of rfl)) (star_of rfl)) (star_of rfl))))))))))), ?_⟩
  have kt := hkit.ne ht
  obtain ⟨v, hl, vl, hkd, KD⟩ := id hkit
  obtain ⟨vs, hvl, pvs⟩ := KD.vv
  have lvs := Paired.length pvs
  have lV := env.vl
  have lp := lbf_pos (m := m)
  refine ⟨_, rfl, kd, _, _, _, rfl, rfl, hkd, rfl, vl, rfl, ⟨_, SqL.of hvl⟩, comp_list (xs := vs) vs.length rfl (by omega) (fun i acc H' => H' = H ∧ ∃ ss : List Str, acc = ss.map V.str ∧ ∀ z ∈ ss, (z, k) ∈ Vs) ⟨rfl, [], rfl, fun _ z => nomatch z⟩ (fun i acc H' p => by rw [p.1]; exact SqL.of hvl) (fun i acc H' x hi la hx p => ?_) (fun acc H' p la D hD => ?_)⟩
  · obtain ⟨rfl, ss, rfl, hss⟩ := p
    obtain ⟨fl, hfl, c, rfl, hc⟩ := paired_at pvs i x hx
    refine ⟨c, _, rfl, SqT.of hc, rfl, _, _, rfl, _, _, rfl, rfl, ⟨rfl, rfl⟩, ⟨_, rfl, _, rfl, rfl, _, rfl, ?_⟩⟩
    refine ite2 (fun d1 => ?_) (fun d1 => ?_)
    · refine ⟨_, rfl, nxT (by omega) hi la ⟨rfl, ss ++ [fl.1], by simp, fun z hz => ?_⟩⟩
      rcases List.mem_append.mp hz with hz | hz
      · exact hss z hz
      · rw [List.mem_singleton.mp hz, ← eqS d1]
        exact List.mem_of_getElem? hfl
    · exact nxF hi la ⟨rfl, ss, rfl, hss⟩
  obtain ⟨rfl, ss, rfl, hss⟩ := p
  have gD := same_new hD (.lst (ss.map V.str))
  have G1 := Go.same ht gD
  have hDt : D ≠ tp := ht.nt hD
  have eD : (upd H' D (.lst (ss.map V.str))) D = some (.lst (ss.map V.str)) := upd_same
  have sl : ss.length ≤ 5 := by rw [List.length_map] at la; omega
  dsimp only [gName]
  refine seq_join (fun σ H1 => σ = [some (.ref tp), some (.ref kd), some (.str k), some (.ref D), none] ∧ Go tp H' H1) (fun NX hNX => ?_) (fun σ H1 jj => ?_)
  · refine ⟨_, rfl, (by show 0 ≤ sizeLine; decide), fun pe hpe => ?_⟩
    have G2 := G1.new hpe (.lst [])
    have eD2 := same_new hpe (.lst []) _ _ eD
    refine ⟨D, pe, _, rfl, rfl, SqL.of eD2, SqL.of upd_same, _, rfl, ?_⟩
    refine ite2 (fun c1 => ?_) (fun c1 => hNX _ _ ⟨rfl, G2⟩)
    have sp : 0 < ss.length := by
      cases ss with
      | nil => exact absurd c1 (by decide)
      | cons _ _ => simp
    refine ⟨_, rfl, tp, 3, rfl, G2.t, by decide, by decide, fun v3 H3 _ _ x3 t3 y3 => ⟨_, _, rfl, rfl, _, rfl, ?_⟩⟩
    have G3 := G2.trans ⟨x3, t3, y3⟩
    refine ite2 (fun c2 => ?_) (fun c2 => hNX _ _ ⟨rfl, G3⟩)
    have eD3 := x3 _ _ hDt eD2
    refine ⟨_, rfl, _, rfl, _, rfl, D, _, rfl, .inl (SqL.of eD3), tp, _, rfl, t3, by rw [List.length_map]; omega, by rw [List.length_map]; omega, fun v4 H4 f0 f1 x4 t4 y4 => ?_⟩
    obtain ⟨u, hu, _, hat⟩ := atI_ex (xs := ss.map V.str) (i := v4) f0 f1
    obtain ⟨z, hz, rfl⟩ := List.mem_map.mp hu
    refine ⟨D, _, _, _, rfl, rfl, SqL.of (x4 _ _ hDt eD3), hat, (by show 2 ≤ sizeLine; decide), fun p hp => ?_⟩
    have hzV := hss z hz
    refine q (.ref p) (.var z) _ ((G3.trans ⟨x4, t4, y4⟩).new hp _) (.tup (.inl upd_same) (.cons (.str _) (.cons (.str _) .nil))) hzV rfl ?_
    exact (nice2 (wd "var" (by decide +kernel)) (nW (pool_wd (env.vn _ hzV)))).mono (by omega) (by omega)
  obtain ⟨rfl, G2⟩ := jj
  have hkd2 := G2.x _ _ kt hkd
  have KD2 := hkit.go ht G2
  refine ⟨_, rfl, rfl, _, rfl, ?_⟩
  refine ite2 (fun c1 => ?_) (fun c1 => ?_)
  · refine ⟨_, rfl, _, _, rfl, rfl, ⟨by decide, by decide, by decide⟩, _, _, rfl, rfl, ⟨by decide, by decide, by decide⟩, _, rfl, (by show 8 ≤ sizeLine; decide), fun lc hlc => ?_⟩
    have G3 := G2.new hlc (.lst [V.int 0, V.int 1, V.int (-1), V.int 2, V.int 3, V.int 7, V.int (10 ^ (6 : Int).toNat), V.int (-(10 ^ (6 : Int).toNat))])
    refine ⟨_, rfl, tp, 8, rfl, G3.t, by decide, by decide, fun v1 H3 v0 v2 x1 t1 y1 => ?_⟩
    obtain ⟨u, hu, _, hat⟩ := atI_ex (xs := [V.int 0, V.int 1, V.int (-1), V.int 2, V.int 3, V.int 7, V.int (10 ^ (6 : Int).toNat), V.int (-(10 ^ (6 : Int).toNat))]) (i := v1) v0 v2
    obtain ⟨i, rfl, hi, hi1, hi2⟩ := nums8 u hu
    refine ⟨lc, _, _, _, rfl, rfl, SqL.of (x1 _ _ (G2.t.nt hlc) upd_same), hat, (by show 2 ≤ sizeLine; decide), fun p hp => ?_⟩
    refine q (.ref p) (.num i) _ ((G3.trans ⟨x1, t1, y1⟩).new hp _) (.tup (.inl upd_same) (.cons (.str _) (.cons (.int _) .nil))) ⟨eqS c1, hi1, hi2⟩ rfl ?_
    exact (nice2 (wd "num" (by decide +kernel)) (nI hi)).mono (by omega) (by omega)
  refine ⟨_, rfl, rfl, _, rfl, ?_⟩
  refine ite2 (fun c2 => ?_) (fun c2 => ?_)
  · refine ⟨(by show 5 ≤ sizeLine; decide), fun lc hlc => ?_⟩
    have G3 := G2.new hlc (.lst [V.str "", V.str "a", V.str "b a", V.str "~ !", V.str "ab&"])
    refine ⟨_, rfl, tp, 5, rfl, G3.t, by decide, by decide, fun v1 H3 v0 v2 x1 t1 y1 => ?_⟩
    obtain ⟨u, hu, _, hat⟩ := atI_ex (xs := [V.str "", V.str "a", V.str "b a", V.str "~ !", V.str "ab&"]) (i := v1) v0 v2
    obtain ⟨z, rfl, hz⟩ := txts5 u hu
    refine ⟨lc, _, _, _, rfl, rfl, SqL.of (x1 _ _ (G2.t.nt hlc) upd_same), hat, (by show 2 ≤ sizeLine; decide), fun p hp => ?_⟩
    refine q (.ref p) (.text z) _ ((G3.trans ⟨x1, t1, y1⟩).new hp _) (.tup (.inl upd_same) (.cons (.str _) (.cons (.str _) .nil))) ⟨eqS c2, hz⟩ rfl ?_
    exact (nice2 (wd "text" (by decide +kernel)) (nW (txt_wd hz))).mono (by omega) (by omega)
  refine ⟨_, rfl, rfl, _, rfl, ?_⟩
  refine ite2 (fun c3 => ?_) (fun c3 => ?_)
  · refine ⟨(by show 0 ≤ sizeLine; decide), fun p1 h1 => ⟨(by show 2 ≤ sizeLine; decide), fun p hp => ?_⟩⟩
    refine q (.ref p) (.rows []) _ ((G2.new h1 _).new hp _) (.tup (.inl upd_same) (.cons (.str _) (.cons (.tup (.inl (same_new hp _ _ _ upd_same)) (by simp only [E.ds]; exact .nil)) .nil))) ⟨eqS c3, by simp, by simp only [OkN]⟩ rfl ?_
    have n0 : Nice 1 3 (.tuple []) := (nz (m := 0)).tup
    show Nice _ _ (.tuple [.str "rows", .tuple (E.ds [])])
    simp only [E.ds]
    exact (nice2 ((wd "rows" (by decide +kernel)).up (Nat.zero_le 1)) n0).mono (by omega) (by omega)
  have n1 := neS c1
  have n2 := neS c2
  have n3 := neS c3
  obtain ⟨npl, kin, hl13, hf⟩ : k ∉ PL ∧ k ∈ R.map (·.1) ∧ (1 ≤ (look R k).length ∧ (look R k).length ≤ 3) ∧ ∀ p ∈ look R k, Deep R m p.2 := by
    rcases hk with hk | ⟨z0, z1, z2, z3⟩
    · rcases List.mem_cons.mp hk with e | hk
      · exact absurd e n1
      rcases List.mem_cons.mp hk with e | hk
      · exact absurd e n2
      · exact absurd (List.mem_singleton.mp hk) n3
    · exact ⟨z0, z1, z2, z3⟩
  obtain ⟨r0, hr0, er0⟩ := List.mem_map.mp kin
  have kP : k ∈ POOL := by rw [← er0]; exact (good_mem env.g hr0).1
  obtain ⟨rest, hrest⟩ := look_hd kin
  obtain ⟨bR, rxs, rfl, hbR, rs⟩ := KD.rs
  have lrx : rxs.length ≤ 3 := by rw [Paired.length rs]; exact env.rl
  have hb2' := G2.tk ht _ _ hbR
  refine ⟨_, rfl, kd, _, _, _, rfl, rfl, hkd2, rfl, bR, rfl, ⟨rxs, SqT.of hb2'⟩, comp_tup (xs := rxs) rxs.length rfl (by omega) (fun i acc H3 => H3 = H1 ∧ Paired (FldsAt H1) acc (((R.take i).filter fun r => decide (r.1 = k)).map (·.2))) ⟨rfl, .nil⟩ (fun i acc H3 p => by rw [p.1]; exact SqT.of hb2') (fun i acc H3 x hi la hx p => ?_) (fun acc H3 p la D2 hD2 => ?_)⟩
  · obtain ⟨rfl, pr⟩ := p
    obtain ⟨rc, hrc, hra⟩ := paired_at rs i x hx
    obtain ⟨cc, yy, rfl, hcc, hff⟩ := hra.mono (G2.tk ht)
    refine ⟨⟨rfl, rfl⟩, ⟨_, rfl, cc, _, _, _, rfl, rfl, SqT.of hcc, rfl, _, rfl, rfl, _, rfl, ?_⟩⟩
    have step : ((R.take (i + 1)).filter fun r => decide (r.1 = k)).map (·.2) = ((R.take i).filter fun r => decide (r.1 = k)).map (·.2) ++ (if rc.1 = k then [rc.2] else []) := by
      rw [List.take_add_one, hrc, List.filter_append, List.map_append]
      by_cases e : rc.1 = k
      · simp [e]
      · simp [e]
    refine ite2 (fun d1 => ?_) (fun d1 => ?_)
    · refine ⟨_, rfl, cc, _, _, _, rfl, rfl, SqT.of hcc, rfl, nxT (by omega) hi la ⟨rfl, ?_⟩⟩
      rw [step, if_pos (eqS d1)]
      exact Paired.snoc pr hff
    · refine nxF hi la ⟨rfl, ?_⟩
      rw [step, if_neg (neS d1), List.append_nil]
      exact pr
  obtain ⟨rfl, pr⟩ := p
  rw [Paired.length rs, List.take_length, hrest] at pr
  obtain ⟨y0, ys, rfl, hy0⟩ : ∃ y0 ys, acc = y0 :: ys ∧ FldsAt H3 y0 (look R k) := by
    cases pr with
    | cons r _ => exact ⟨_, _, rfl, r⟩
  obtain ⟨b2, fx, rfl, hb2, fs⟩ := hy0
  have gM := same_new hD2 (.lst (.ref b2 :: ys))
  have G3 := G2.trans (Go.same G2.t gM)
  have eD2 : (upd H3 D2 (.lst (.ref b2 :: ys))) D2 = some (.lst (.ref b2 :: ys)) := upd_same
  have lfx := Paired.length fs
  have tM := G2.t.same gM
  have hb2M := gM _ _ hb2
  refine ⟨_, rfl, _, rfl, D2, _, _, _, rfl, rfl, SqL.of eD2, at0 _ _, b2, rfl, ⟨fx, SqT.of hb2M⟩, comp_tup (xs := fx) fx.length rfl (by omega) (fun i acc H4 => Go tp (upd H3 D2 (.lst (.ref b2 :: ys))) H4 ∧ ∃ es : List E, DTs K H4 acc (E.ds es) ∧ OkL R Vs es (((look R k).take i).map (·.2)) ∧ E.nas es = true ∧ ∀ e ∈ es, Nice (2 * m) (lbf m) e.d) ⟨Go.refl tM, [], by simp only [E.ds]; exact .nil, by simp only [List.take_zero, List.map_nil, OkL], by simp only [E.nas], fun _ z => nomatch z⟩ (fun i acc H4 p => SqT.of (p.1.tk tM _ _ hb2M)) (fun i acc H4 x hi la hx p => ?_) (fun acc H4 p la D3 hD3 => ?_)⟩
  · obtain ⟨G4, es, des, oks, nas, ns⟩ := p
    obtain ⟨fl, hfl, cf, rfl, hcf⟩ := paired_at fs i x hx
    refine ⟨cf, _, rfl, SqT.of (G4.tk tM _ _ (gM _ _ hcf)), rfl, _, _, rfl, _, _, rfl, rfl, ⟨rfl, rfl⟩, tTrue_i ⟨_, rfl, _, rfl, _, rfl, tp, kd, fl.2, R, HS, Vs, gv, n, b, rfl, G4.t, hkit.go ht (G3.trans G4), env, hf fl (List.mem_of_getElem? hfl), fun u e H5 G5 de oe ne ni => nxT (by omega) hi la ⟨G4.trans G5, es ++ [e], ?_, ?_, E.nas_snoc ne nas, fun y hy => ?_⟩⟩⟩
    · rw [E.ds_snoc]
      exact DTs.snoc de (des.mono (G5.tk G4.t))
    · rw [List.take_add_one, hfl, List.map_append]
      exact OkL.snoc oe oks
    · rcases List.mem_append.mp hy with hy | hy
      · exact ns y hy
      · rw [List.mem_singleton.mp hy]; exact ni
  · obtain ⟨G4, es, des, oks, nas, ns⟩ := p
    rw [lfx, List.take_length] at oks
    have les : es.length ≤ 3 := by rw [← E.ds_len, ← des.len]; omega
    refine ⟨D3, _, rfl, .inl ⟨SqL.of upd_same, fun l hl2 => ⟨(by show 3 ≤ sizeLine; decide), fun p hp => ?_⟩⟩⟩
    have sA := (same_new hD3 (.lst acc)).trans (same_new hl2 (.tup acc))
    have sB := same_new hp (.tup [.str "new", .str k, .ref l])
    have G5 := (G3.trans G4).trans (Go.same G4.t (sA.trans sB))
    refine q (.ref p) (.new k es) _ G5 (.tup (.inl upd_same) (.cons (.str _) (.cons (.str _) (.cons (.tup (.inl (sB _ _ upd_same)) (des.mono (tk_same (sA.trans sB)))) .nil)))) ⟨rfl, npl, hl13.1, oks⟩ nas ?_
    have nt := (nices_es ns).tup
    have h1 : es.length * (lbf m + 2) ≤ 3 * (lbf m + 2) := Nat.mul_le_mul_right _ les
    refine (nice3 ((wd "new" (by decide +kernel)).up (Nat.zero_le _)) ((nW (pool_wd kP)).up (Nat.zero_le _)) nt).mono (by omega) ?_
    show _ ≤ 3 * lbf m + 42
    omega
end
end K6

set_option Elab.async false
set_option linter.all false
set_option maxRecDepth 100000
set_option maxHeartbeats 4000000
namespace K6
open PySem L2
def bm : Nat → Nat
  | 0 => lbf 4
  | d + 1 => 3 * bm d + 60
theorem bm_pos : ∀ d : Nat, 42 ≤ bm d
  | 0 => by decide
  | d + 1 => by have := bm_pos d; unfold bm; omega
section
variable {P : Program} {w : World} {K : PySem.W.Frag} {mg : Str → Option Value} {base : Heap} {f g : Addr} {fd gd : FuncData}
def spE (K : PySem.W.Frag) (d : Nat) : Sp := fun vs H Q _ => ∃ tp kd k R HS Vs gv n b, vs = [.ref tp, .ref kd, .str k, .int (d : Int)] ∧ Tp H tp ∧ KitAt tp H kd R HS Vs gv n b ∧ Env R Vs ∧ k ∈ KS R ∧ ∀ u e H', Go tp H H' → DT K H' u e.d → Ok R Vs e k → (b = false → e.na = true) → Nice (8 + 2 * d) (bm d) e.d → Q u H'
def spT (K : PySem.W.Frag) (k : Str) (d : Nat) : Sp := fun vs H Q _ => ∃ tp kd R HS Vs gv n b, vs = [.ref tp, .ref kd, .int ((d : Int) + 1)] ∧ Tp H tp ∧ KitAt tp H kd R HS Vs gv n b ∧ Env R Vs ∧ ∀ u e H', Go tp H H' → DT K H' u e.d → Ok R Vs e k → (b = false → e.na = true) → Nice (8 + 2 * (d + 1)) (bm (d + 1)) e.d → Q u H'
abbrev pEx : List Str := ["_law_tape_here", "_law_kit_here", "_law_kind_here", "_law_deep"]
abbrev pTx : List Str := ["_law_tape_here", "_law_kit_here", "_law_deep"]
theorem w3 {i : Int} (h0 : 0 ≤ i) (h1 : i < 3) : ∃ z : Str, atI ((["add", "sub", "times"] : List Str).map V.str) i = some (.str z) ∧ ((i = 2 ∧ z = "times") ∨ (¬ i = 2 ∧ (z = "add" ∨ z = "sub"))) := by
  have : i = 0 ∨ i = 1 ∨ i = 2 := by omega
  rcases this with h | h | h <;> subst h
  · exact ⟨"add", by decide +kernel, .inr ⟨by decide, .inl rfl⟩⟩
  · exact ⟨"sub", by decide +kernel, .inr ⟨by decide, .inr rfl⟩⟩
  · exact ⟨"times", by decide +kernel, .inl ⟨rfl, rfl⟩⟩
theorem w2 {i : Int} (h0 : 0 ≤ i) (h1 : i < 2) : ∃ z : Str, atI ((["div", "rest"] : List Str).map V.str) i = some (.str z) ∧ (z = "div" ∨ z = "rest") := by
  have : i = 0 ∨ i = 1 := by omega
  rcases this with h | h <;> subst h
  · exact ⟨"div", by decide +kernel, .inl rfl⟩
  · exact ⟨"rest", by decide +kernel, .inr rfl⟩
theorem wrt {i : Int} (h0 : 0 ≤ i) (h1 : i < 2) : ∃ z : Str, atI ((["row", "text"] : List Str).map V.str) i = some (.str z) ∧ (z = "row" ∨ z = "text") := by
  have : i = 0 ∨ i = 1 := by omega
  rcases this with h | h <;> subst h
  · exact ⟨"row", by decide +kernel, .inl rfl⟩
  · exact ⟨"text", by decide +kernel, .inr rfl⟩
theorem d3 {i : Int} (h0 : 0 ≤ i) (h1 : i < 3) : ∃ z : Int, atI ([V.int 2, V.int 3, V.int 99] : List V) i = some (.int z) ∧ z ∈ NUM ∧ 2 ≤ z ∧ z ≤ 99 := by
  have : i = 0 ∨ i = 1 ∨ i = 2 := by omega
  rcases this with h | h | h <;> subst h
  · exact ⟨2, by decide +kernel, by decide, by decide, by decide⟩
  · exact ⟨3, by decide +kernel, by decide, by decide, by decide⟩
  · exact ⟨99, by decide +kernel, by decide, by decide, by decide⟩
theorem nsmall {v : Int} (h0 : 0 ≤ v) (h1 : v < 9) : v - 4 ∈ NUM ∧ -1000000 ≤ v - 4 ∧ v - 4 ≤ 1000000 := by
  have : v = 0 ∨ v = 1 ∨ v = 2 ∨ v = 3 ∨ v = 4 ∨ v = 5 ∨ v = 6 ∨ v = 7 ∨ v = 8 := by omega
  rcases this with h | h | h | h | h | h | h | h | h <;> subst h <;> exact ⟨by decide, by decide, by decide⟩
theorem bmS (d : Nat) : bm (d + 1) = 3 * bm d + 60 := rfl
abbrev n_l_num : List Str := ["_law_tape_here", "_law_kit_here", "_law_deep", "_law_way", "_law_word", "_law_first", "_law_row_here"]
theorem sc_l_num : FnScope n_l_num ["_law_tape_here", "_law_kit_here", "_law_deep"] (defScope s_l_num) := ⟨rfl, rfl, rfl, by decide +kernel, rfl, by decide +kernel, by decide +kernel⟩
theorem ok_num {d : Nat} (T : G0 mg) (F : Fun K "_law_num" "_law_num" s_l_num f fd) (D_l_draw : Cal P w K mg base 1 "_law_draw" dP spDraw2) (D_l_e : Cal P w K mg base (2 * d + 6) "_law_e" pEx (spE K d)) :
    FnOk P w K mg base CX0 (2 * d + 7) f fd pTx (spT K "num" d) := by
  obtain ⟨g_l_draw, gd_l_draw, G_l_draw, b_l_draw, k_l_draw, m_l_draw⟩ := D_l_draw.ex
  obtain ⟨g_l_e, gd_l_e, G_l_e, b_l_e, k_l_e, m_l_e⟩ := D_l_e.ex
  refine F.ok sc_l_num (fun vs H Q EX h => ?_) (fun cdv A outer s H vs Q EX hr h => ?_)
  · obtain ⟨tp, kd, R, HS, Vs, gv, n, b, rfl, _⟩ := h
    rfl
  obtain ⟨tp, kd, R, HS, Vs, gv, n, b, rfl, ht, hkit, env, q⟩ := h
  have kNum : Str.ofString "num" ∈ KS R := List.mem_append_left _ (by decide)
  have kText : Str.ofString "text" ∈ KS R := List.mem_append_left _ (by decide)
  have kRow : Str.ofString "row" ∈ KS R := List.mem_append_left _ (by decide)
  have hd1 : ((d : Int) + 1 - 1) = (d : Int) := by omega
  have callE : ∀ {H1 : Hp} {k : Str} {Q' : VK}, Go tp H H1 → k ∈ KS R → (∀ u e H2, Go tp H1 H2 → Go tp H H2 → DT K H2 u e.d → Ok R Vs e k → (b = false → e.na = true) → Nice (8 + 2 * d) (bm d) e.d → Q' u H2) → spE K d [.ref tp, .ref kd, .str k, .int ((d : Int) + 1 - 1)] H1 Q' E0 :=
    fun {H1 k Q'} G1 hk q' => ⟨tp, kd, k, R, HS, Vs, gv, n, b, by rw [hd1], G1.t, hkit.go ht G1, env, hk, fun u e H2 G2 a1 a2 a3 a4 => q' u e H2 G2 (G1.trans G2) a1 a2 a3 a4⟩
  refine ⟨_, (@pss_cons _ _ _ _ _ (@ps_set _ _ 3 _ _ _ _ sc_l_num.nd rfl (Or.inl rfl) (@pe_call _ _ _ _ _ _ _ _ _ _ _ _ _ _ _ _ G_l_draw (hr.mono (by omega)) rfl m_l_draw k_l_draw b_l_draw .nil pass0 (@pa_cons _ _ _ _ _ (pv 0) (@pa_cons _ _ _ _ _ pe_int pa_nil (star_of rfl)) (star_of rfl)) (by decide) (star_of rfl) (plain_of rfl)) (swaps_of rfl) (.inr rfl)) (@pss_cons _ _ _ _ _ (@ps_if _ _ _ _ _ _ _ _ (@pt_cmpR _ _ _ _ _ _ _ _ op_lt (pv 3) pe_int (nomark _)) (@pss_cons _ _ _ _ _ (@ps_set _ _ 4 _ _ _ _ sc_l_num.nd rfl (Or.inl rfl) (@pe_ix _ _ _ _ _ _ _ ix_list (@pe_lst _ _ _ _ (@pa_cons _ _ _ _ _ pe_str (@pa_cons _ _ _ _ _ pe_str (@pa_cons _ _ _ _ _ pe_str pa_nil (star_of rfl)) (star_of rfl)) (star_of rfl))) (pv 3) (fun _ _ => rfl)) (swaps_of rfl) (.inr rfl)) (@pss_cons _ _ _ _ _ (@ps_set _ _ 5 _ _ _ _ sc_l_num.nd rfl (Or.inl rfl) (@pe_call _ _ _ _ _ _ _ _ _ _ _ _ _ _ _ _ G_l_e (hr.mono (by omega)) rfl m_l_e k_l_e b_l_e .nil pass0 (@pa_cons _ _ _ _ _ (pv 0) (@pa_cons _ _ _ _ _ (pv 1) (@pa_cons _ _ _ _ _ pe_str (@pa_cons _ _ _ _ _ (@pe_op _ _ _ _ _ _ _ _ op_sub (pv 2) pe_int) pa_nil (star_of rfl)) (star_of rfl)) (star_of rfl)) (star_of rfl)) (by decide) (star_of rfl) (plain_of rfl)) (swaps_of rfl) (.inr rfl)) (@pss_one _ _ _ (@ps_ret _ _ _ _ (@pe_tup _ _ _ _ _ (@pa_cons _ _ _ _ _ (pv 4) (@pa_cons _ _ _ _ _ (@pe_ifExp _ _ _ _ _ _ _ _ (@pt_cmpR _ _ _ _ _ _ _ _ op_eq (pv 3) pe_int (nomark _)) (@pe_op _ _ _ _ _ _ _ _ op_sub (@pe_call _ _ _ _ _ _ _ _ _ _ _ _ _ _ _ _ G_l_draw (hr.mono (by omega)) rfl m_l_draw k_l_draw b_l_draw .nil pass0 (@pa_cons _ _ _ _ _ (pv 0) (@pa_cons _ _ _ _ _ pe_int pa_nil (star_of rfl)) (star_of rfl)) (by decide) (star_of rfl) (plain_of rfl)) pe_int) (@pe_call _ _ _ _ _ _ _ _ _ _ _ _ _ _ _ _ G_l_e (hr.mono (by omega)) rfl m_l_e k_l_e b_l_e .nil pass0 (@pa_cons _ _ _ _ _ (pv 0) (@pa_cons _ _ _ _ _ (pv 1) (@pa_cons _ _ _ _ _ pe_str (@pa_cons _ _ _ _ _ (@pe_op _ _ _ _ _ _ _ _ op_sub (pv 2) pe_int) pa_nil (star_of rfl)) (star_of rfl)) (star_of rfl)) (star_of rfl)) (by decide) (star_of rfl) (plain_of rfl))) (@pa_cons _ _ _ _ _ (pv 5) pa_nil (star_of rfl)) (star_of rfl)) (star_of rfl))))))) pss_nil) (@pss_cons _ _ _ _ _ (@ps_if _ _ _ _ _ _ _ _ (@pt_cmpR _ _ _ _ _ _ _ _ op_lt (pv 3) pe_int (nomark _)) (@pss_one _ _ _ (@ps_ret _ _ _ _ (@pe_tup _ _ _ _ _ (@pa_cons _ _ _ _ _ (@pe_ix _ _ _ _ _ _ _ ix_list (@pe_lst _ _ _ _ (@pa_cons _ _ _ _ _ pe_str (@pa_cons _ _ _ _ _ pe_str pa_nil (star_of rfl)) (star_of rfl))) (@pe_op _ _ _ _ _ _ _ _ op_sub (pv 3) pe_int) (fun _ _ => rfl)) (@pa_cons _ _ _ _ _ (@pe_call _ _ _ _ _ _ _ _ _ _ _ _ _ _ _ _ G_l_e (hr.mono (by omega)) rfl m_l_e k_l_e b_l_e .nil pass0 (@pa_cons _ _ _ _ _ (pv 0) (@pa_cons _ _ _ _ _ (pv 1) (@pa_cons _ _ _ _ _ pe_str (@pa_cons _ _ _ _ _ (@pe_op _ _ _ _ _ _ _ _ op_sub (pv 2) pe_int) pa_nil (star_of rfl)) (star_of rfl)) (star_of rfl)) (star_of rfl)) (by decide) (star_of rfl) (plain_of rfl)) (@pa_cons _ _ _ _ _ (@pe_ix _ _ _ _ _ _ _ ix_list (@pe_lst _ _ _ _ (@pa_cons _ _ _ _ _ pe_int (@pa_cons _ _ _ _ _ pe_int (@pa_cons _ _ _ _ _ pe_int pa_nil (star_of rfl)) (star_of rfl)) (star_of rfl))) (@pe_call _ _ _ _ _ _ _ _ _ _ _ _ _ _ _ _ G_l_draw (hr.mono (by omega)) rfl m_l_draw k_l_draw b_l_draw .nil pass0 (@pa_cons _ _ _ _ _ (pv 0) (@pa_cons _ _ _ _ _ pe_int pa_nil (star_of rfl)) (star_of rfl)) (by decide) (star_of rfl) (plain_of rfl)) (fun _ _ => rfl)) pa_nil (star_of rfl)) (star_of rfl)) (star_of rfl))))) pss_nil) (@pss_cons _ _ _ _ _ (@ps_set _ _ 6 _ _ _ _ sc_l_num.nd rfl (Or.inl rfl) (@pe_call _ _ _ _ _ _ _ _ _ _ _ _ _ _ _ _ G_l_e (hr.mono (by omega)) rfl m_l_e k_l_e b_l_e .nil pass0 (@pa_cons _ _ _ _ _ (pv 0) (@pa_cons _ _ _ _ _ (pv 1) (@pa_cons _ _ _ _ _ (@pe_ix _ _ _ _ _ _ _ ix_list (@pe_lst _ _ _ _ (@pa_cons _ _ _ _ _ pe_str (@pa_cons _ _ _ _ _ pe_str pa_nil (star_of rfl)) (star_of rfl))) (@pe_call _ _ _ _ _ _ _ _ _ _ _ _ _ _ _ _ G_l_draw (hr.mono (by omega)) rfl m_l_draw k_l_draw b_l_draw .nil pass0 (@pa_cons _ _ _ _ _ (pv 0) (@pa_cons _ _ _ _ _ pe_int pa_nil (star_of rfl)) (star_of rfl)) (by decide) (star_of rfl) (plain_of rfl)) (fun _ _ => rfl)) (@pa_cons _ _ _ _ _ (@pe_op _ _ _ _ _ _ _ _ op_sub (pv 2) pe_int) pa_nil (star_of rfl)) (star_of rfl)) (star_of rfl)) (star_of rfl)) (by decide) (star_of rfl) (plain_of rfl)) (swaps_of rfl) (.inr rfl)) (@pss_cons _ _ _ _ _ (@ps_if _ _ _ _ _ _ _ _ (PW.pt (pw_or (@pt_cmpR _ _ _ _ _ _ _ _ op_eq (pv 3) pe_int (nomark _)) (pw_or1 (pt_not (pt_val (@pe_ix _ _ _ _ _ _ _ ix_dict (pv 1) pe_str (fun _ _ => rfl))))))) (@pss_one _ _ _ (@ps_ret _ _ _ _ (@pe_tup _ _ _ _ _ (@pa_cons _ _ _ _ _ pe_str (@pa_cons _ _ _ _ _ (pv 6) pa_nil (star_of rfl)) (star_of rfl))))) pss_nil) (@pss_one _ _ _ (@ps_ret _ _ _ _ (@pe_tup _ _ _ _ _ (@pa_cons _ _ _ _ _ pe_str (@pa_cons _ _ _ _ _ (pv 6) (@pa_cons _ _ _ _ _ (@pe_call _ _ _ _ _ _ _ _ _ _ _ _ _ _ _ _ G_l_e (hr.mono (by omega)) rfl m_l_e k_l_e b_l_e .nil pass0 (@pa_cons _ _ _ _ _ (pv 0) (@pa_cons _ _ _ _ _ (pv 1) (@pa_cons _ _ _ _ _ pe_str (@pa_cons _ _ _ _ _ (@pe_op _ _ _ _ _ _ _ _ op_sub (pv 2) pe_int) pa_nil (star_of rfl)) (star_of rfl)) (star_of rfl)) (star_of rfl)) (by decide) (star_of rfl) (plain_of rfl)) pa_nil (star_of rfl)) (star_of rfl)) (star_of rfl)))))))))), ?_⟩
  have bp := bm_pos d
  have kt := hkit.ne ht
  obtain ⟨v, hl, vl, hkd, KD⟩ := id hkit
  refine ⟨_, rfl, tp, 8, rfl, ht, by decide, by decide, fun way H1 w0 w1 x1 t1 y1 => ?_⟩
  have G1 : Go tp H H1 := ⟨x1, t1, y1⟩
  refine ⟨_, rfl, _, _, rfl, rfl, _, rfl, ?_⟩
  refine ite2 (fun c1 => ?_) (fun c1 => ?_)
  · have c1' : way < 3 := of_decide_eq_true c1
    obtain ⟨wd', hat, hw⟩ := w3 w0 c1'
    refine ⟨(by show 3 ≤ sizeLine; decide), fun lw hlw => ⟨_, rfl, lw, _, _, _, rfl, rfl, SqL.of upd_same, hat, ?_⟩⟩
    have G2 := G1.new hlw (.lst ((["add", "sub", "times"] : List Str).map V.str))
    refine ⟨_, rfl, _, rfl, _, rfl, _, _, rfl, rfl, callE G2 kNum fun u1 e1 H3 G23 G3 de1 oe1 ne1 ni1 => ?_⟩
    refine ⟨_, rfl, _, rfl, rfl, _, rfl, ?_⟩
    refine ite2 (fun c2 => ?_) (fun c2 => ?_)
    · have c2' : way = 2 := V.int.inj (of_decide_eq_true c2)
      have ew : wd' = "times" := by
        rcases hw with ⟨_, z⟩ | ⟨z, _⟩
        · exact z
        · exact absurd c2' z
      subst ew
      refine ⟨_, rfl, tp, 9, rfl, G3.t, by decide, by decide, fun v4 H4 a0 a1 x4 t4 y4 => ⟨_, _, rfl, rfl, _, rfl, (by show 3 ≤ sizeLine; decide), fun p hp => ?_⟩⟩
      obtain ⟨m1, m2, m3⟩ := nsmall a0 a1
      have G4 : Go tp H3 H4 := ⟨x4, t4, y4⟩
      refine q (.ref p) (.times (v4 - 4) e1) _ ((G3.trans G4).new hp _) (.tup (.inl upd_same) (.cons (.str _) (.cons (.int _) (.cons (de1.mono ((G4.tk G3.t).trans (tk_new hp _))) .nil)))) ⟨rfl, ⟨m2, m3⟩, oe1⟩ ne1 ?_
      exact (nice3 ((wd "times" (by decide +kernel)).up (Nat.zero_le _)) ((nI m1).up (Nat.zero_le _)) ni1).mono (by omega) (by rw [bmS]; omega)
    · have ew : wd' = "add" ∨ wd' = "sub" := by
        rcases hw with ⟨z, _⟩ | ⟨_, z⟩
        · exact absurd (decide_eq_true (congrArg V.int z)) c2
        · exact z
      refine ⟨_, rfl, _, rfl, _, rfl, _, _, rfl, rfl, callE G3 kNum fun u2 e2 H4 G34 G4 de2 oe2 ne2 ni2 => ⟨_, rfl, (by show 3 ≤ sizeLine; decide), fun p hp => ?_⟩⟩
      have dd1 := de1.mono ((G34.tk G3.t).trans (tk_new hp (.tup [.str wd', u2, u1])))
      have dd2 := de2.mono (tk_new hp (.tup [.str wd', u2, u1]))
      rcases ew with rfl | rfl
      · refine q (.ref p) (.add e2 e1) _ (G4.new hp _) (.tup (.inl upd_same) (.cons (.str _) (.cons dd2 (.cons dd1 .nil)))) ⟨rfl, oe2, oe1⟩ (fun z => by simp only [E.na, ne1 z, ne2 z, Bool.and_self]) ?_
        exact (nice3 ((wd "add" (by decide +kernel)).up (Nat.zero_le _)) ni2 ni1).mono (by omega) (by rw [bmS]; omega)
      · refine q (.ref p) (.sub e2 e1) _ (G4.new hp _) (.tup (.inl upd_same) (.cons (.str _) (.cons dd2 (.cons dd1 .nil)))) ⟨rfl, oe2, oe1⟩ (fun z => by simp only [E.na, ne1 z, ne2 z, Bool.and_self]) ?_
        exact (nice3 ((wd "sub" (by decide +kernel)).up (Nat.zero_le _)) ni2 ni1).mono (by omega) (by rw [bmS]; omega)
  have c1' : ¬ way < 3 := fun z => c1 (decide_eq_true z)
  refine ⟨_, rfl, _, _, rfl, rfl, _, rfl, ?_⟩
  refine ite2 (fun c2 => ?_) (fun c2 => ?_)
  · have c2' : way < 5 := of_decide_eq_true c2
    obtain ⟨wd', hat, hw⟩ := w2 (i := way - 3) (by omega) (by omega)
    refine ⟨(by show 2 ≤ sizeLine; decide), fun lw hlw => ⟨_, rfl, _, _, rfl, rfl, lw, _, _, _, rfl, rfl, SqL.of upd_same, hat, ?_⟩⟩
    have G2 := G1.new hlw (.lst ((["div", "rest"] : List Str).map V.str))
    refine ⟨_, rfl, _, rfl, _, rfl, _, _, rfl, rfl, callE G2 kNum fun u1 e1 H3 G23 G3 de1 oe1 ne1 ni1 => ?_⟩
    refine ⟨(by show 3 ≤ sizeLine; decide), fun li hli => ?_⟩
    have G4 := G3.new hli (.lst [V.int 2, V.int 3, V.int 99])
    refine ⟨_, rfl, tp, 3, rfl, G4.t, by decide, by decide, fun v5 H5 a0 a1 x5 t5 y5 => ?_⟩
    obtain ⟨dn, hat2, m1, m2, m3⟩ := d3 a0 a1
    refine ⟨li, _, _, _, rfl, rfl, SqL.of (x5 _ _ (G3.t.nt hli) upd_same), hat2, (by show 3 ≤ sizeLine; decide), fun p hp => ?_⟩
    have G5 : Go tp H3 H5 := ((Go.refl G3.t).new hli (.lst [V.int 2, V.int 3, V.int 99])).trans ⟨x5, t5, y5⟩
    have dd1 := de1.mono ((G5.tk G3.t).trans (tk_new hp (.tup [.str wd', u1, .int dn])))
    have nn := (nice3 (m := 8 + 2 * d) ((wd "times" (by decide +kernel)).up (Nat.zero_le _)) ni1 ((nI m1).up (Nat.zero_le _)))
    rcases hw with rfl | rfl
    · refine q (.ref p) (.div e1 dn) _ ((G3.trans G5).new hp _) (.tup (.inl upd_same) (.cons (.str _) (.cons dd1 (.cons (.int _) .nil)))) ⟨rfl, ⟨m2, m3⟩, oe1⟩ ne1 ?_
      exact (nice3 ((wd "div" (by decide +kernel)).up (Nat.zero_le _)) ni1 ((nI m1).up (Nat.zero_le _))).mono (by omega) (by rw [bmS]; omega)
    · refine q (.ref p) (.rest e1 dn) _ ((G3.trans G5).new hp _) (.tup (.inl upd_same) (.cons (.str _) (.cons dd1 (.cons (.int _) .nil)))) ⟨rfl, ⟨m2, m3⟩, oe1⟩ ne1 ?_
      exact (nice3 ((wd "rest" (by decide +kernel)).up (Nat.zero_le _)) ni1 ((nI m1).up (Nat.zero_le _))).mono (by omega) (by rw [bmS]; omega)
  refine ⟨_, rfl, _, rfl, (by show 2 ≤ sizeLine; decide), fun lk hlk => ?_⟩
  have G2 := G1.new hlk (.lst ((["row", "text"] : List Str).map V.str))
  refine ⟨_, rfl, tp, 2, rfl, G2.t, by decide, by decide, fun v3 H3 a0 a1 x3 t3 y3 => ?_⟩
  obtain ⟨kk, hat, hkk⟩ := wrt a0 a1
  have G3 := G2.trans ⟨x3, t3, y3⟩
  have kkS : kk ∈ KS R := by rcases hkk with rfl | rfl; exact kRow; exact kText
  refine ⟨lk, _, _, _, rfl, rfl, SqL.of (x3 _ _ (G1.t.nt hlk) upd_same), hat, _, rfl, _, _, rfl, rfl, callE G3 kkS fun u1 e1 H4 G34 G4 de1 oe1 ne1 ni1 => ?_⟩
  have orow : Ok R Vs e1 "row" ∨ Ok R Vs e1 "text" := by rcases hkk with rfl | rfl; exact .inl oe1; exact .inr oe1
  have len : ∀ p, H4 p = none → Q (.ref p) (upd H4 p (.tup [.str "len", u1])) := fun p hp => by
    refine q (.ref p) (.len e1) _ (G4.new hp _) (.tup (.inl upd_same) (.cons (.str _) (.cons (de1.mono (tk_new hp _)) .nil))) ⟨rfl, orow⟩ ne1 ?_
    exact (nice2 ((wd "len" (by decide +kernel)).up (Nat.zero_le _)) ni1).mono (by omega) (by rw [bmS]; omega)
  refine ⟨_, rfl, rfl, _, rfl, ?_⟩
  refine ite2 (fun c3 => iteT ⟨_, rfl, (by show 2 ≤ sizeLine; decide), len⟩) (fun c3 => ?_)
  refine ⟨_, rfl, kd, _, _, _, rfl, rfl, G4.x _ _ kt hkd, rfl, _, rfl, ?_⟩
  refine ite2 (fun c4 => ⟨_, rfl, (by show 2 ≤ sizeLine; decide), len⟩) (fun c4 => ?_)
  have hb : b = true := by
    cases b with
    | true => rfl
    | false => exact absurd rfl c4
  refine ⟨_, rfl, _, rfl, _, rfl, _, rfl, _, _, rfl, rfl, callE G4 kNum fun u2 e2 H5 G45 G5 de2 oe2 ne2 ni2 => ⟨(by show 3 ≤ sizeLine; decide), fun p hp => ?_⟩⟩
  refine q (.ref p) (.at_ e1 e2) _ (G5.new hp _) (.tup (.inl upd_same) (.cons (.str _) (.cons (de1.mono ((G45.tk G4.t).trans (tk_new hp _))) (.cons (de2.mono (tk_new hp _)) .nil)))) ⟨rfl, orow, oe2⟩ (fun z => by rw [hb] at z; cases z) ?_
  exact (nice3 ((wd "at" (by decide +kernel)).up (Nat.zero_le _)) ni1 ni2).mono (by omega) (by rw [bmS]; omega)
abbrev n_l_row : List Str := ["_law_tape_here", "_law_kit_here", "_law_deep", "_law_way", "_law_row_here", "_law_place"]
abbrev nb_l_row_0 : List Str := ["_law_k", "_law_tape_here", "_law_kit_here", "_law_deep"]
theorem ndb_l_row_0 : nb_l_row_0.Nodup := by decide +kernel
theorem sc_l_row : FnScope n_l_row ["_law_tape_here", "_law_kit_here", "_law_deep"] (defScope s_l_row) := ⟨rfl, rfl, rfl, by decide +kernel, rfl, by decide +kernel, by decide +kernel⟩
theorem ok_row {d : Nat} (T : G0 mg) (F : Fun K "_law_row" "_law_row" s_l_row f fd) (D_l_draw : Cal P w K mg base 1 "_law_draw" dP spDraw2) (D_l_e : Cal P w K mg base (2 * d + 6) "_law_e" pEx (spE K d)) :
    FnOk P w K mg base CX0 (2 * d + 7) f fd pTx (spT K "row" d) := by
  obtain ⟨g_l_draw, gd_l_draw, G_l_draw, b_l_draw, k_l_draw, m_l_draw⟩ := D_l_draw.ex
  obtain ⟨g_l_e, gd_l_e, G_l_e, b_l_e, k_l_e, m_l_e⟩ := D_l_e.ex
  refine F.ok sc_l_row (fun vs H Q EX h => ?_) (fun cdv A outer s H vs Q EX hr h => ?_)
  · obtain ⟨tp, kd, R, HS, Vs, gv, n, b, rfl, _⟩ := h
    rfl
  obtain ⟨tp, kd, R, HS, Vs, gv, n, b, rfl, ht, hkit, env, q⟩ := h
  have kNum : Str.ofString "num" ∈ KS R := List.mem_append_left _ (by decide)
  have kText : Str.ofString "text" ∈ KS R := List.mem_append_left _ (by decide)
  have kRow : Str.ofString "row" ∈ KS R := List.mem_append_left _ (by decide)
  have hd1 : ((d : Int) + 1 - 1) = (d : Int) := by omega
  have callE : ∀ {H1 : Hp} {k : Str} {Q' : VK}, Go tp H H1 → k ∈ KS R → (∀ u e H2, Go tp H1 H2 → Go tp H H2 → DT K H2 u e.d → Ok R Vs e k → (b = false → e.na = true) → Nice (8 + 2 * d) (bm d) e.d → Q' u H2) → spE K d [.ref tp, .ref kd, .str k, .int ((d : Int) + 1 - 1)] H1 Q' E0 :=
    fun {H1 k Q'} G1 hk q' => ⟨tp, kd, k, R, HS, Vs, gv, n, b, by rw [hd1], G1.t, hkit.go ht G1, env, hk, fun u e H2 G2 a1 a2 a3 a4 => q' u e H2 G2 (G1.trans G2) a1 a2 a3 a4⟩
  refine ⟨_, (@pss_cons _ _ _ _ _ (@ps_set _ _ 3 _ _ _ _ sc_l_row.nd rfl (Or.inl rfl) (@pe_call _ _ _ _ _ _ _ _ _ _ _ _ _ _ _ _ G_l_draw (hr.mono (by omega)) rfl m_l_draw k_l_draw b_l_draw .nil pass0 (@pa_cons _ _ _ _ _ (pv 0) (@pa_cons _ _ _ _ _ pe_int pa_nil (star_of rfl)) (star_of rfl)) (by decide) (star_of rfl) (plain_of rfl)) (swaps_of rfl) (.inr rfl)) (@pss_cons _ _ _ _ _ (@ps_if _ _ _ _ _ _ _ _ (@pt_cmpR _ _ _ _ _ _ _ _ op_eq (pv 3) pe_int (nomark _)) (@pss_one _ _ _ (@ps_ret _ _ _ _ (@pe_tup _ _ _ _ _ (@pa_cons _ _ _ _ _ pe_str (@pa_cons _ _ _ _ _ (@pe_call _ _ _ _ _ _ _ _ _ _ _ _ _ _ _ _ G_l_e (hr.mono (by omega)) rfl m_l_e k_l_e b_l_e .nil pass0 (@pa_cons _ _ _ _ _ (pv 0) (@pa_cons _ _ _ _ _ (pv 1) (@pa_cons _ _ _ _ _ pe_str (@pa_cons _ _ _ _ _ (@pe_op _ _ _ _ _ _ _ _ op_sub (pv 2) pe_int) pa_nil (star_of rfl)) (star_of rfl)) (star_of rfl)) (star_of rfl)) (by decide) (star_of rfl) (plain_of rfl)) pa_nil (star_of rfl)) (star_of rfl))))) pss_nil) (@pss_cons _ _ _ _ _ (@ps_if _ _ _ _ _ _ _ _ (@pt_cmpR _ _ _ _ _ _ _ _ op_eq (pv 3) pe_int (nomark _)) (@pss_one _ _ _ (@ps_ret _ _ _ _ (@pe_tup _ _ _ _ _ (@pa_cons _ _ _ _ _ pe_str (@pa_cons _ _ _ _ _ (@pe_callTy _ _ _ _ _ _ _ _ _ call_tuple_of rfl T.tuple b_tuple (@pa_cons _ _ _ _ _ (pe_comp (N' := nb_l_row_0) (ρ := [none, some 0, some 1, some 2]) (m := 1) (BlkOk.of (fs := defScope s_l_row) (N := n_l_row) rfl rfl (by decide +kernel)) rfl (pi_range1 rfl T.range (pa_cons (pe_call G_l_draw (hr.mono (by omega)) rfl m_l_draw k_l_draw b_l_draw .nil pass0 (pa_cons (pv 0) (pa_cons pe_int pa_nil))) pa_nil)) (fun _ _ _ _ => (pg_name (i := 0) ndb_l_row_0 rfl (Or.inl rfl))) (fun _ _ _ _ => pts_nil) (fun _ _ _ _ => (pe_call G_l_e (hr.mono (by omega)) rfl m_l_e k_l_e b_l_e .nil pass0 (pa_cons (pv 1) (pa_cons (pv 2) (pa_cons pe_str (pa_cons (pe_op op_sub (pv 3) pe_int) pa_nil))))))) pa_nil (star_of rfl)) (by decide) (by decide) (star_of rfl) (plain_of rfl)) pa_nil (star_of rfl)) (star_of rfl))))) pss_nil) (@pss_cons _ _ _ _ _ (@ps_set _ _ 4 _ _ _ _ sc_l_row.nd rfl (Or.inl rfl) (@pe_call _ _ _ _ _ _ _ _ _ _ _ _ _ _ _ _ G_l_e (hr.mono (by omega)) rfl m_l_e k_l_e b_l_e .nil pass0 (@pa_cons _ _ _ _ _ (pv 0) (@pa_cons _ _ _ _ _ (pv 1) (@pa_cons _ _ _ _ _ pe_str (@pa_cons _ _ _ _ _ (@pe_op _ _ _ _ _ _ _ _ op_sub (pv 2) pe_int) pa_nil (star_of rfl)) (star_of rfl)) (star_of rfl)) (star_of rfl)) (by decide) (star_of rfl) (plain_of rfl)) (swaps_of rfl) (.inr rfl)) (@pss_cons _ _ _ _ _ (@ps_if _ _ _ _ _ _ _ _ (PW.pt (pw_or (@pt_cmpR _ _ _ _ _ _ _ _ op_eq (pv 3) pe_int (nomark _)) (pw_or1 (pt_not (pt_val (@pe_ix _ _ _ _ _ _ _ ix_dict (pv 1) pe_str (fun _ _ => rfl))))))) (@pss_one _ _ _ (@ps_ret _ _ _ _ (@pe_tup _ _ _ _ _ (@pa_cons _ _ _ _ _ pe_str (@pa_cons _ _ _ _ _ (pv 4) (@pa_cons _ _ _ _ _ (@pe_call _ _ _ _ _ _ _ _ _ _ _ _ _ _ _ _ G_l_e (hr.mono (by omega)) rfl m_l_e k_l_e b_l_e .nil pass0 (@pa_cons _ _ _ _ _ (pv 0) (@pa_cons _ _ _ _ _ (pv 1) (@pa_cons _ _ _ _ _ pe_str (@pa_cons _ _ _ _ _ (@pe_op _ _ _ _ _ _ _ _ op_sub (pv 2) pe_int) pa_nil (star_of rfl)) (star_of rfl)) (star_of rfl)) (star_of rfl)) (by decide) (star_of rfl) (plain_of rfl)) pa_nil (star_of rfl)) (star_of rfl)) (star_of rfl))))) pss_nil) (@pss_cons _ _ _ _ _ (@ps_set _ _ 5 _ _ _ _ sc_l_row.nd rfl (Or.inl rfl) (@pe_call _ _ _ _ _ _ _ _ _ _ _ _ _ _ _ _ G_l_e (hr.mono (by omega)) rfl m_l_e k_l_e b_l_e .nil pass0 (@pa_cons _ _ _ _ _ (pv 0) (@pa_cons _ _ _ _ _ (pv 1) (@pa_cons _ _ _ _ _ pe_str (@pa_cons _ _ _ _ _ (@pe_op _ _ _ _ _ _ _ _ op_sub (pv 2) pe_int) pa_nil (star_of rfl)) (star_of rfl)) (star_of rfl)) (star_of rfl)) (by decide) (star_of rfl) (plain_of rfl)) (swaps_of rfl) (.inr rfl)) (@pss_one _ _ _ (@ps_ret _ _ _ _ (@pe_tup _ _ _ _ _ (@pa_cons _ _ _ _ _ pe_str (@pa_cons _ _ _ _ _ (pv 4) (@pa_cons _ _ _ _ _ (pv 5) (@pa_cons _ _ _ _ _ (@pe_call _ _ _ _ _ _ _ _ _ _ _ _ _ _ _ _ G_l_e (hr.mono (by omega)) rfl m_l_e k_l_e b_l_e .nil pass0 (@pa_cons _ _ _ _ _ (pv 0) (@pa_cons _ _ _ _ _ (pv 1) (@pa_cons _ _ _ _ _ pe_str (@pa_cons _ _ _ _ _ (@pe_op _ _ _ _ _ _ _ _ op_sub (pv 2) pe_int) pa_nil (star_of rfl)) (star_of rfl)) (star_of rfl)) (star_of rfl)) (by decide) (star_of rfl) (plain_of rfl)) pa_nil (star_of rfl)) (star_of rfl)) (star_of rfl)) (star_of rfl))))))))))), ?_⟩
  have bp := bm_pos d
  have kt := hkit.ne ht
  obtain ⟨v, hl, vl, hkd, KD⟩ := id hkit
  refine ⟨_, rfl, tp, 4, rfl, ht, by decide, by decide, fun way H1 w0 w1 x1 t1 y1 => ?_⟩
  have G1 : Go tp H H1 := ⟨x1, t1, y1⟩
  refine ⟨_, rfl, rfl, _, rfl, ?_⟩
  refine ite2 (fun c1 => ?_) (fun c1 => ?_)
  · refine ⟨_, rfl, _, rfl, _, rfl, _, _, rfl, rfl, callE G1 kText fun u1 e1 H3 G23 G3 de1 oe1 ne1 ni1 => ⟨(by show 2 ≤ sizeLine; decide), fun p hp => ?_⟩⟩
    refine q (.ref p) (.signs e1) _ (G3.new hp _) (.tup (.inl upd_same) (.cons (.str _) (.cons (de1.mono (tk_new hp _)) .nil))) ⟨rfl, oe1⟩ ne1 ?_
    exact (nice2 ((wd "signs" (by decide +kernel)).up (Nat.zero_le _)) ni1).mono (by omega) (by rw [bmS]; omega)
  refine ⟨_, rfl, rfl, _, rfl, ?_⟩
  refine ite2 (fun c2 => ?_) (fun c2 => ?_)
  · refine ⟨_, rfl, tp, 3, rfl, t1, by decide, by decide, fun v3 H3 a0 a1 x3 t3 y3 => ?_⟩
    have G3 := G1.trans ⟨x3, t3, y3⟩
    refine ⟨_, rfl, by omega, by omega, comp_range v3.toNat (by omega) (fun j acc H' => Go tp H3 H' ∧ ∃ es : List E, DTs K H' acc (E.ds es) ∧ es.length = j ∧ OkN R Vs es ∧ (b = false → E.nas es = true) ∧ ∀ e ∈ es, Nice (8 + 2 * d) (bm d) e.d) ⟨Go.refl t3, [], by simp only [E.ds]; exact .nil, rfl, by simp only [OkN], fun _ => by simp only [E.nas], fun _ z => nomatch z⟩ (fun j acc H' hj la p => ?_) (fun acc H' p la D hD => ?_)⟩
    · obtain ⟨G4, es, des, les, oks, nas, ns⟩ := p
      refine ⟨⟨rfl, rfl⟩, tTrue_i ⟨_, rfl, _, rfl, _, rfl, _, _, rfl, rfl, callE (G3.trans G4) kNum fun u1 e1 H5 G45 G5 de1 oe1 ne1 ni1 => nxT (by omega) hj la ⟨G4.trans G45, es ++ [e1], ?_, by simp [les], OkN.snoc oe1 oks, fun z => E.nas_snoc (ne1 z) (nas z), fun y hy => ?_⟩⟩⟩
      · rw [E.ds_snoc]
        exact DTs.snoc de1 (des.mono (G45.tk G4.t))
      · rcases List.mem_append.mp hy with hy | hy
        · exact ns y hy
        · rw [List.mem_singleton.mp hy]; exact ni1
    · obtain ⟨G4, es, des, les, oks, nas, ns⟩ := p
      have l2 : es.length ≤ 2 := by omega
      refine ⟨D, _, rfl, .inl ⟨SqL.of upd_same, fun l hl2 => ⟨(by show 2 ≤ sizeLine; decide), fun p hp => ?_⟩⟩⟩
      have sA := (same_new hD (.lst acc)).trans (same_new hl2 (.tup acc))
      have sB := same_new hp (.tup [.str "rows", .ref l])
      have G5 := (G3.trans G4).trans (Go.same G4.t (sA.trans sB))
      refine q (.ref p) (.rows es) _ G5 (.tup (.inl upd_same) (.cons (.str _) (.cons (.tup (.inl (sB _ _ upd_same)) (des.mono (tk_same (sA.trans sB)))) .nil))) ⟨rfl, by omega, oks⟩ nas ?_
      have nt := (nices_es ns).tup
      have h1 : es.length * (bm d + 2) ≤ 2 * (bm d + 2) := Nat.mul_le_mul_right _ l2
      exact (nice2 ((wd "rows" (by decide +kernel)).up (Nat.zero_le _)) nt).mono (by omega) (by rw [bmS]; omega)
  refine ⟨_, rfl, _, rfl, _, rfl, _, _, rfl, rfl, callE G1 kRow fun u1 e1 H4 G34 G4 de1 oe1 ne1 ni1 => ?_⟩
  have more : ∀ u2 e2 H5, Go tp H4 H5 → Go tp H H5 → DT K H5 u2 e2.d → Ok R Vs e2 "num" → (b = false → e2.na = true) → Nice (8 + 2 * d) (bm d) e2.d → ∀ p, H5 p = none → Q (.ref p) (upd H5 p (.tup [.str "more", u1, u2])) := fun u2 e2 H5 G45 G5 de2 oe2 ne2 ni2 p hp => by
    refine q (.ref p) (.more e1 e2) _ (G5.new hp _) (.tup (.inl upd_same) (.cons (.str _) (.cons (de1.mono ((G45.tk G4.t).trans (tk_new hp _))) (.cons (de2.mono (tk_new hp _)) .nil)))) ⟨rfl, oe1, oe2⟩ (fun z => by simp only [E.na, ne1 z, ne2 z, Bool.and_self]) ?_
    exact (nice3 ((wd "more" (by decide +kernel)).up (Nat.zero_le _)) ni1 ni2).mono (by omega) (by rw [bmS]; omega)
  refine ⟨_, rfl, rfl, _, rfl, ?_⟩
  refine ite2 (fun c3 => iteT ⟨_, rfl, _, rfl, _, rfl, _, rfl, _, _, rfl, rfl, callE G4 kNum fun u2 e2 H5 G45 G5 de2 oe2 ne2 ni2 => ⟨(by show 3 ≤ sizeLine; decide), more u2 e2 H5 G45 G5 de2 oe2 ne2 ni2⟩⟩) (fun c3 => ?_)
  refine ⟨_, rfl, kd, _, _, _, rfl, rfl, G4.x _ _ kt hkd, rfl, _, rfl, ?_⟩
  refine ite2 (fun c4 => ⟨_, rfl, _, rfl, _, rfl, _, rfl, _, _, rfl, rfl, callE G4 kNum fun u2 e2 H5 G45 G5 de2 oe2 ne2 ni2 => ⟨(by show 3 ≤ sizeLine; decide), more u2 e2 H5 G45 G5 de2 oe2 ne2 ni2⟩⟩) (fun c4 => ?_)
  have hb : b = true := by
    cases b with
    | true => rfl
    | false => exact absurd rfl c4
  refine ⟨_, rfl, _, rfl, _, rfl, _, _, rfl, rfl, callE G4 kNum fun u2 e2 H5 G45 G5 de2 oe2 ne2 ni2 => ?_⟩
  refine ⟨_, rfl, _, rfl, _, rfl, _, rfl, _, rfl, _, _, rfl, rfl, callE G5 kNum fun u3 e3 H6 G56 G6 de3 oe3 ne3 ni3 => ⟨(by show 4 ≤ sizeLine; decide), fun p hp => ?_⟩⟩
  refine q (.ref p) (.put e1 e2 e3) _ (G6.new hp _) (.tup (.inl upd_same) (.cons (.str _) (.cons (de1.mono (((G45.trans G56).tk G4.t).trans (tk_new hp _))) (.cons (de2.mono ((G56.tk G5.t).trans (tk_new hp _))) (.cons (de3.mono (tk_new hp _)) .nil))))) ⟨rfl, oe1, oe2, oe3⟩ (fun z => by rw [hb] at z; cases z) ?_
  exact (nice4 ((wd "put" (by decide +kernel)).up (Nat.zero_le _)) ni1 ni2 ni3).mono (by omega) (by rw [bmS]; omega)
end
end K6

set_option Elab.async false
set_option linter.all false
set_option maxRecDepth 100000
set_option maxHeartbeats 4000000
namespace K6
open PySem L2
theorem bm_0 : ∀ d : Nat, bm 0 ≤ bm d
  | 0 => Nat.le_refl _
  | d + 1 => by have := bm_0 d; rw [show bm (d + 1) = 3 * bm d + 60 from rfl]; omega
/-- (name, field), the field of this kind in the record of this name -/
def PO (R : List Rec) (k : Str) (p : Fld) : Prop := p.1 ∈ R.map (·.1) ∧ (p.2, k) ∈ look R p.1
section
variable {P : Program} {w : World} {K : PySem.W.Frag} {mg : Str → Option Value} {base : Heap} {f g : Addr} {fd gd : FuncData}
theorem no_sp {k : Nat} {ps : List Str} {sp : Sp} (no : ∀ vs H Q E, ¬ sp vs H Q E) : FnOk P w K mg base CX0 k f fd ps sp :=
  ⟨fun vs H Q E h => absurd h (no vs H Q E), fun A outer s H args us vs Q E _ _ _ _ h => absurd h (no vs H Q E)⟩
abbrev n_l_e : List Str := ["_law_tape_here", "_law_kit_here", "_law_kind_here", "_law_deep", "_law_some", "_law_name", "_law_fields", "_law_field", "_law_own"]
abbrev nb_l_e_0 : List Str := ["_law_record", "_law_kind_here"]
theorem ndb_l_e_0 : nb_l_e_0.Nodup := by decide +kernel
abbrev nb_l_e_1 : List Str := ["_law_field", "_law_own", "_law_kind_here", "_law_name"]
theorem ndb_l_e_1 : nb_l_e_1.Nodup := by decide +kernel
theorem sc_l_e : FnScope n_l_e ["_law_tape_here", "_law_kit_here", "_law_kind_here", "_law_deep"] (defScope s_l_e) := ⟨rfl, rfl, rfl, by decide +kernel, rfl, by decide +kernel, by decide +kernel⟩
theorem ok_e0 {r1 r2 r3 : Nat} (h1 : r1 ≤ 5) (h2 : r2 ≤ 5) (h3 : r3 ≤ 5) (T : G0 mg) (F : Fun K "_law_e" "_law_e" s_l_e f fd) (D_l_draw : Cal P w K mg base 1 "_law_draw" dP spDraw2) (D_l_leaf : Cal P w K mg base 5 "_law_leaf" pLf (spLeaf K 4)) (D_l_e : Cal P w K mg base r1 "_law_e" pEx (fun _ _ _ _ => False)) (D_l_num : Cal P w K mg base r2 "_law_num" pTx (fun _ _ _ _ => False)) (D_l_row : Cal P w K mg base r3 "_law_row" pTx (fun _ _ _ _ => False)) :
    FnOk P w K mg base CX0 6 f fd pEx (spE K 0) := by
  obtain ⟨g_l_draw, gd_l_draw, G_l_draw, b_l_draw, k_l_draw, m_l_draw⟩ := D_l_draw.ex
  obtain ⟨g_l_leaf, gd_l_leaf, G_l_leaf, b_l_leaf, k_l_leaf, m_l_leaf⟩ := D_l_leaf.ex
  obtain ⟨g_l_e, gd_l_e, G_l_e, b_l_e, k_l_e, m_l_e⟩ := D_l_e.ex
  obtain ⟨g_l_num, gd_l_num, G_l_num, b_l_num, k_l_num, m_l_num⟩ := D_l_num.ex
  obtain ⟨g_l_row, gd_l_row, G_l_row, b_l_row, k_l_row, m_l_row⟩ := D_l_row.ex
  refine F.ok sc_l_e (fun vs H Q EX h => ?_) (fun cdv A outer s H vs Q EX hr h => ?_)
  · obtain ⟨tp, kd, k, R, HS, Vs, gv, n, b, rfl, _⟩ := h
    rfl
  obtain ⟨tp, kd, k, R, HS, Vs, gv, n, b, rfl, ht, hkit, env, hk, q⟩ := h
  refine ⟨_, (@pss_cons _ _ _ _ _ (@ps_if _ _ _ _ _ _ _ _ (PW.pt (pw_or (@pt_cmpR _ _ _ _ _ _ _ _ op_eq (pv 3) pe_int (nomark _)) (pw_or1 (@pt_cmpR _ _ _ _ _ _ _ _ op_eq (@pe_call _ _ _ _ _ _ _ _ _ _ _ _ _ _ _ _ G_l_draw (hr.mono (by omega)) rfl m_l_draw k_l_draw b_l_draw .nil pass0 (@pa_cons _ _ _ _ _ (pv 0) (@pa_cons _ _ _ _ _ pe_int pa_nil (star_of rfl)) (star_of rfl)) (by decide) (star_of rfl) (plain_of rfl)) pe_int (nomark _))))) (@pss_one _ _ _ (@ps_ret _ _ _ _ (@pe_call _ _ _ _ _ _ _ _ _ _ _ _ _ _ _ _ G_l_leaf (hr.mono (by omega)) rfl m_l_leaf k_l_leaf b_l_leaf .nil pass0 (@pa_cons _ _ _ _ _ (pv 0) (@pa_cons _ _ _ _ _ (pv 1) (@pa_cons _ _ _ _ _ (pv 2) pa_nil (star_of rfl)) (star_of rfl)) (star_of rfl)) (by decide) (star_of rfl) (plain_of rfl)))) pss_nil) (@pss_cons _ _ _ _ _ (@ps_set _ _ 4 _ _ _ _ sc_l_e.nd rfl (Or.inl rfl) (@pe_lst _ _ _ _ pa_nil) (swaps_of rfl) (.inr rfl)) (@pss_cons _ _ _ _ _ (@ps_for _ _ _ _ _ _ _ _ PassesOwn.never rfl (pi_tup (@pe_ix _ _ _ _ _ _ _ ix_dict (pv 1) pe_str (fun _ _ => rfl))) (pg_tup rfl (pgs_cons (pg_name (i := 5) sc_l_e.nd rfl (Or.inr rfl)) (pgs_cons (pg_name (i := 6) sc_l_e.nd rfl (Or.inl rfl)) pgs_nil))) (@pss_one _ _ _ (@ps_expr _ _ _ _ (@pe_bm _ _ _ _ _ _ _ _ _ _ _ _ PySem.F.plainAttrs_list PySem.F.slot_list_extend PySem.F.type_list_extend mt_extend (pv 4) (@pa_cons _ _ _ _ _ (pe_comp (N' := nb_l_e_1) (ρ := [none, none, some 2, some 5]) (m := 2) (BlkOk.of (fs := defScope s_l_e) (N := n_l_e) rfl rfl (by decide +kernel)) rfl (pi_tup (pv 6)) (fun _ _ _ _ => (pg_tupK (n := 2) (K := K) rfl rfl (pgs_cons (pg_name (i := 0) ndb_l_e_1 rfl (Or.inl rfl)) (pgs_cons (pg_name (i := 1) ndb_l_e_1 rfl (Or.inl rfl)) pgs_nil)))) (fun _ _ _ _ => (pts_one (pt_cmpR op_eq (pv 1) (pv 2) (nomark _)))) (fun _ _ _ _ => (pe_tup (pa_cons (pv 3) (pa_cons (pv 0) pa_nil))))) pa_nil (star_of rfl)) rfl (few_of rfl rfl) rfl (star_of rfl) (plain_of rfl)) (swaps_of rfl))) (fun _ => rfl)) (@pss_cons _ _ _ _ _ (@ps_if _ _ _ _ _ _ _ _ (PW.pt (pw_and (@pt_cmpR _ _ _ _ _ _ _ _ (op_neNil hr.units0) (pv 4) (@pe_lst _ _ _ _ pa_nil) (nomark _)) (pw_and1 (@pt_cmpR _ _ _ _ _ _ _ _ op_eq (@pe_call _ _ _ _ _ _ _ _ _ _ _ _ _ _ _ _ G_l_draw (hr.mono (by omega)) rfl m_l_draw k_l_draw b_l_draw .nil pass0 (@pa_cons _ _ _ _ _ (pv 0) (@pa_cons _ _ _ _ _ pe_int pa_nil (star_of rfl)) (star_of rfl)) (by decide) (star_of rfl) (plain_of rfl)) pe_int (nomark _))))) (@pss_cons _ _ _ _ _ (@ps_asg _ _ _ _ _ _ (@pe_ix _ _ _ _ _ _ _ ix_list (pv 4) (@pe_call _ _ _ _ _ _ _ _ _ _ _ _ _ _ _ _ G_l_draw (hr.mono (by omega)) rfl m_l_draw k_l_draw b_l_draw .nil pass0 (@pa_cons _ _ _ _ _ (pv 0) (@pa_cons _ _ _ _ _ (@pe_callB _ _ _ _ _ _ _ _ _ call_len_seq rfl T.len b_len (@pa_cons _ _ _ _ _ (pv 4) pa_nil (star_of rfl)) (by decide) (by decide) (star_of rfl) (plain_of rfl)) pa_nil (star_of rfl)) (star_of rfl)) (by decide) (star_of rfl) (plain_of rfl)) (fun _ _ => rfl)) (pg_tup rfl (pgs_cons (pg_name (i := 5) sc_l_e.nd rfl (Or.inr rfl)) (pgs_cons (pg_name (i := 7) sc_l_e.nd rfl (Or.inl rfl)) pgs_nil))) rfl rfl rfl) (@pss_one _ _ _ (@ps_ret _ _ _ _ (@pe_tup _ _ _ _ _ (@pa_cons _ _ _ _ _ pe_str (@pa_cons _ _ _ _ _ (@pe_call _ _ _ _ _ _ _ _ _ _ _ _ _ _ _ _ G_l_e (hr.mono (by omega)) rfl m_l_e k_l_e b_l_e .nil pass0 (@pa_cons _ _ _ _ _ (pv 0) (@pa_cons _ _ _ _ _ (pv 1) (@pa_cons _ _ _ _ _ (pv 5) (@pa_cons _ _ _ _ _ (@pe_op _ _ _ _ _ _ _ _ op_sub (pv 3) pe_int) pa_nil (star_of rfl)) (star_of rfl)) (star_of rfl)) (star_of rfl)) (by decide) (star_of rfl) (plain_of rfl)) (@pa_cons _ _ _ _ _ (pv 7) pa_nil (star_of rfl)) (star_of rfl)) (star_of rfl)))))) pss_nil) (@pss_cons _ _ _ _ _ (@ps_if _ _ _ _ _ _ _ _ (@pt_cmpR _ _ _ _ _ _ _ _ op_eq (pv 2) pe_str (nomark _)) (@pss_one _ _ _ (@ps_ret _ _ _ _ (@pe_call _ _ _ _ _ _ _ _ _ _ _ _ _ _ _ _ G_l_num (hr.mono (by omega)) rfl m_l_num k_l_num b_l_num .nil pass0 (@pa_cons _ _ _ _ _ (pv 0) (@pa_cons _ _ _ _ _ (pv 1) (@pa_cons _ _ _ _ _ (pv 3) pa_nil (star_of rfl)) (star_of rfl)) (star_of rfl)) (by decide) (star_of rfl) (plain_of rfl)))) pss_nil) (@pss_cons _ _ _ _ _ (@ps_if _ _ _ _ _ _ _ _ (@pt_cmpR _ _ _ _ _ _ _ _ op_eq (pv 2) pe_str (nomark _)) (@pss_one _ _ _ (@ps_ret _ _ _ _ (@pe_call _ _ _ _ _ _ _ _ _ _ _ _ _ _ _ _ G_l_row (hr.mono (by omega)) rfl m_l_row k_l_row b_l_row .nil pass0 (@pa_cons _ _ _ _ _ (pv 0) (@pa_cons _ _ _ _ _ (pv 1) (@pa_cons _ _ _ _ _ (pv 3) pa_nil (star_of rfl)) (star_of rfl)) (star_of rfl)) (by decide) (star_of rfl) (plain_of rfl)))) pss_nil) (@pss_cons _ _ _ _ _ (ps_comp (i := 6) (N' := nb_l_e_0) (ρ := [none, some 2]) (m := 1) (BlkOk.of (fs := defScope s_l_e) (N := n_l_e) rfl rfl (by decide +kernel)) sc_l_e.nd rfl (Or.inl rfl) rfl (pi_tup (pe_ix ix_dict (pv 1) pe_str (fun _ _ => rfl))) (fun _ _ _ _ => (pg_name (i := 0) ndb_l_e_0 rfl (Or.inl rfl))) (fun _ _ _ _ => (pts_one (pt_cmpR op_eq (pe_ix (ix_tupK (K := K) rfl) (pv 0) pe_int (fun _ _ => rfl)) (pv 1) (nomark _)))) (fun _ _ _ _ => (pe_ix (ix_tupK (K := K) rfl) (pv 0) pe_int (fun _ _ => rfl)))) (@pss_cons _ _ _ _ _ (@ps_if _ _ _ _ _ _ _ _ (@pt_cmpR _ _ _ _ _ _ _ _ (op_eqNil hr.units0) (pv 6) (@pe_lst _ _ _ _ pa_nil) (nomark _)) (@pss_one _ _ _ (@ps_ret _ _ _ _ (@pe_call _ _ _ _ _ _ _ _ _ _ _ _ _ _ _ _ G_l_leaf (hr.mono (by omega)) rfl m_l_leaf k_l_leaf b_l_leaf .nil pass0 (@pa_cons _ _ _ _ _ (pv 0) (@pa_cons _ _ _ _ _ (pv 1) (@pa_cons _ _ _ _ _ (pv 2) pa_nil (star_of rfl)) (star_of rfl)) (star_of rfl)) (by decide) (star_of rfl) (plain_of rfl)))) pss_nil) (@pss_cons _ _ _ _ _ (@ps_asg _ _ _ _ _ _ (@pe_ix _ _ _ _ _ _ _ ix_tup (@pe_ix _ _ _ _ _ _ _ ix_list (pv 6) pe_int (fun _ _ => rfl)) (@pe_call _ _ _ _ _ _ _ _ _ _ _ _ _ _ _ _ G_l_draw (hr.mono (by omega)) rfl m_l_draw k_l_draw b_l_draw .nil pass0 (@pa_cons _ _ _ _ _ (pv 0) (@pa_cons _ _ _ _ _ (@pe_callB _ _ _ _ _ _ _ _ _ call_len_seq rfl T.len b_len (@pa_cons _ _ _ _ _ (@pe_ix _ _ _ _ _ _ _ ix_list (pv 6) pe_int (fun _ _ => rfl)) pa_nil (star_of rfl)) (by decide) (by decide) (star_of rfl) (plain_of rfl)) pa_nil (star_of rfl)) (star_of rfl)) (by decide) (star_of rfl) (plain_of rfl)) (fun _ _ => rfl)) (pg_tup rfl (pgs_cons (pg_name (i := 7) sc_l_e.nd rfl (Or.inl rfl)) (pgs_cons (pg_name (i := 8) sc_l_e.nd rfl (Or.inl rfl)) pgs_nil))) rfl rfl rfl) (@pss_one _ _ _ (@ps_ret _ _ _ _ (@pe_tup _ _ _ _ _ (@pa_cons _ _ _ _ _ pe_str (@pa_cons _ _ _ _ _ (@pe_call _ _ _ _ _ _ _ _ _ _ _ _ _ _ _ _ G_l_e (hr.mono (by omega)) rfl m_l_e k_l_e b_l_e .nil pass0 (@pa_cons _ _ _ _ _ (pv 0) (@pa_cons _ _ _ _ _ (pv 1) (@pa_cons _ _ _ _ _ (pv 2) (@pa_cons _ _ _ _ _ (@pe_op _ _ _ _ _ _ _ _ op_sub (pv 3) pe_int) pa_nil (star_of rfl)) (star_of rfl)) (star_of rfl)) (star_of rfl)) (by decide) (star_of rfl) (plain_of rfl)) (@pa_cons _ _ _ _ _ (pv 7) (@pa_cons _ _ _ _ _ (@pe_call _ _ _ _ _ _ _ _ _ _ _ _ _ _ _ _ G_l_e (hr.mono (by omega)) rfl m_l_e k_l_e b_l_e .nil pass0 (@pa_cons _ _ _ _ _ (pv 0) (@pa_cons _ _ _ _ _ (pv 1) (@pa_cons _ _ _ _ _ (pv 8) (@pa_cons _ _ _ _ _ (@pe_op _ _ _ _ _ _ _ _ op_sub (pv 3) pe_int) pa_nil (star_of rfl)) (star_of rfl)) (star_of rfl)) (star_of rfl)) (by decide) (star_of rfl) (plain_of rfl)) pa_nil (star_of rfl)) (star_of rfl)) (star_of rfl)) (star_of rfl)))))))))))))), ?_⟩
  refine ⟨_, rfl, rfl, _, rfl, ?_⟩
  refine ite2 (fun c1 => iteT ⟨_, rfl, _, rfl, _, rfl, tp, kd, k, R, HS, Vs, gv, n, b, rfl, ht, hkit, env, ks_deep env.g env.rl k hk, fun u e H' G a1 a2 a3 a4 => q u e H' G a1 a2 (fun _ => a3) a4⟩) (fun c1 => absurd (by decide) c1)
theorem ok_e {d : Nat} (T : G0 mg) (F : Fun K "_law_e" "_law_e" s_l_e f fd) (D_l_draw : Cal P w K mg base 1 "_law_draw" dP spDraw2) (D_l_leaf : Cal P w K mg base 5 "_law_leaf" pLf (spLeaf K 4)) (D_l_e : Cal P w K mg base (2 * d + 6) "_law_e" pEx (spE K d)) (D_l_num : Cal P w K mg base (2 * d + 7) "_law_num" pTx (spT K "num" d)) (D_l_row : Cal P w K mg base (2 * d + 7) "_law_row" pTx (spT K "row" d)) :
    FnOk P w K mg base CX0 (2 * (d + 1) + 6) f fd pEx (spE K (d + 1)) := by
  obtain ⟨g_l_draw, gd_l_draw, G_l_draw, b_l_draw, k_l_draw, m_l_draw⟩ := D_l_draw.ex
  obtain ⟨g_l_leaf, gd_l_leaf, G_l_leaf, b_l_leaf, k_l_leaf, m_l_leaf⟩ := D_l_leaf.ex
  obtain ⟨g_l_e, gd_l_e, G_l_e, b_l_e, k_l_e, m_l_e⟩ := D_l_e.ex
  obtain ⟨g_l_num, gd_l_num, G_l_num, b_l_num, k_l_num, m_l_num⟩ := D_l_num.ex
  obtain ⟨g_l_row, gd_l_row, G_l_row, b_l_row, k_l_row, m_l_row⟩ := D_l_row.ex
  refine F.ok sc_l_e (fun vs H Q EX h => ?_) (fun cdv A outer s H vs Q EX hr h => ?_)
  · obtain ⟨tp, kd, k, R, HS, Vs, gv, n, b, rfl, _⟩ := h
    rfl
  obtain ⟨tp, kd, k, R, HS, Vs, gv, n, b, rfl, ht, hkit, env, hk, q⟩ := h
  have hd1 : (((d + 1 : Nat) : Int) - 1) = (d : Int) := by omega
  have hd2 : ((d + 1 : Nat) : Int) = (d : Int) + 1 := by omega
  have callE : ∀ {H1 : Hp} {k : Str} {Q' : VK}, Go tp H H1 → k ∈ KS R → (∀ u e H2, Go tp H1 H2 → Go tp H H2 → DT K H2 u e.d → Ok R Vs e k → (b = false → e.na = true) → Nice (8 + 2 * d) (bm d) e.d → Q' u H2) → spE K d [.ref tp, .ref kd, .str k, .int (((d + 1 : Nat) : Int) - 1)] H1 Q' E0 :=
    fun {H1 k Q'} G1 hk q' => ⟨tp, kd, k, R, HS, Vs, gv, n, b, by rw [hd1], G1.t, hkit.go ht G1, env, hk, fun u e H2 G2 a1 a2 a3 a4 => q' u e H2 G2 (G1.trans G2) a1 a2 a3 a4⟩
  have leaf : ∀ {H1 : Hp}, Go tp H H1 → spLeaf K 4 [.ref tp, .ref kd, .str k] H1 Q E0 := fun {H1} G1 =>
    ⟨tp, kd, k, R, HS, Vs, gv, n, b, rfl, G1.t, hkit.go ht G1, env, ks_deep env.g env.rl k hk, fun u e H' G a1 a2 a3 a4 => q u e H' (G1.trans G) a1 a2 (fun _ => a3) (a4.mono (by omega) (bm_0 (d + 1)))⟩
  refine ⟨_, (@pss_cons _ _ _ _ _ (@ps_if _ _ _ _ _ _ _ _ (PW.pt (pw_or (@pt_cmpR _ _ _ _ _ _ _ _ op_eq (pv 3) pe_int (nomark _)) (pw_or1 (@pt_cmpR _ _ _ _ _ _ _ _ op_eq (@pe_call _ _ _ _ _ _ _ _ _ _ _ _ _ _ _ _ G_l_draw (hr.mono (by omega)) rfl m_l_draw k_l_draw b_l_draw .nil pass0 (@pa_cons _ _ _ _ _ (pv 0) (@pa_cons _ _ _ _ _ pe_int pa_nil (star_of rfl)) (star_of rfl)) (by decide) (star_of rfl) (plain_of rfl)) pe_int (nomark _))))) (@pss_one _ _ _ (@ps_ret _ _ _ _ (@pe_call _ _ _ _ _ _ _ _ _ _ _ _ _ _ _ _ G_l_leaf (hr.mono (by omega)) rfl m_l_leaf k_l_leaf b_l_leaf .nil pass0 (@pa_cons _ _ _ _ _ (pv 0) (@pa_cons _ _ _ _ _ (pv 1) (@pa_cons _ _ _ _ _ (pv 2) pa_nil (star_of rfl)) (star_of rfl)) (star_of rfl)) (by decide) (star_of rfl) (plain_of rfl)))) pss_nil) (@pss_cons _ _ _ _ _ (@ps_set _ _ 4 _ _ _ _ sc_l_e.nd rfl (Or.inl rfl) (@pe_lst _ _ _ _ pa_nil) (swaps_of rfl) (.inr rfl)) (@pss_cons _ _ _ _ _ (@ps_for _ _ _ _ _ _ _ _ PassesOwn.never rfl (pi_tup (@pe_ix _ _ _ _ _ _ _ ix_dict (pv 1) pe_str (fun _ _ => rfl))) (pg_tup rfl (pgs_cons (pg_name (i := 5) sc_l_e.nd rfl (Or.inr rfl)) (pgs_cons (pg_name (i := 6) sc_l_e.nd rfl (Or.inl rfl)) pgs_nil))) (@pss_one _ _ _ (@ps_expr _ _ _ _ (@pe_bm _ _ _ _ _ _ _ _ _ _ _ _ PySem.F.plainAttrs_list PySem.F.slot_list_extend PySem.F.type_list_extend mt_extend (pv 4) (@pa_cons _ _ _ _ _ (pe_comp (N' := nb_l_e_1) (ρ := [none, none, some 2, some 5]) (m := 2) (BlkOk.of (fs := defScope s_l_e) (N := n_l_e) rfl rfl (by decide +kernel)) rfl (pi_tup (pv 6)) (fun _ _ _ _ => (pg_tupK (n := 2) (K := K) rfl rfl (pgs_cons (pg_name (i := 0) ndb_l_e_1 rfl (Or.inl rfl)) (pgs_cons (pg_name (i := 1) ndb_l_e_1 rfl (Or.inl rfl)) pgs_nil)))) (fun _ _ _ _ => (pts_one (pt_cmpR op_eq (pv 1) (pv 2) (nomark _)))) (fun _ _ _ _ => (pe_tup (pa_cons (pv 3) (pa_cons (pv 0) pa_nil))))) pa_nil (star_of rfl)) rfl (few_of rfl rfl) rfl (star_of rfl) (plain_of rfl)) (swaps_of rfl))) (fun _ => rfl)) (@pss_cons _ _ _ _ _ (@ps_if _ _ _ _ _ _ _ _ (PW.pt (pw_and (@pt_cmpR _ _ _ _ _ _ _ _ (op_neNil hr.units0) (pv 4) (@pe_lst _ _ _ _ pa_nil) (nomark _)) (pw_and1 (@pt_cmpR _ _ _ _ _ _ _ _ op_eq (@pe_call _ _ _ _ _ _ _ _ _ _ _ _ _ _ _ _ G_l_draw (hr.mono (by omega)) rfl m_l_draw k_l_draw b_l_draw .nil pass0 (@pa_cons _ _ _ _ _ (pv 0) (@pa_cons _ _ _ _ _ pe_int pa_nil (star_of rfl)) (star_of rfl)) (by decide) (star_of rfl) (plain_of rfl)) pe_int (nomark _))))) (@pss_cons _ _ _ _ _ (@ps_asg _ _ _ _ _ _ (@pe_ix _ _ _ _ _ _ _ ix_list (pv 4) (@pe_call _ _ _ _ _ _ _ _ _ _ _ _ _ _ _ _ G_l_draw (hr.mono (by omega)) rfl m_l_draw k_l_draw b_l_draw .nil pass0 (@pa_cons _ _ _ _ _ (pv 0) (@pa_cons _ _ _ _ _ (@pe_callB _ _ _ _ _ _ _ _ _ call_len_seq rfl T.len b_len (@pa_cons _ _ _ _ _ (pv 4) pa_nil (star_of rfl)) (by decide) (by decide) (star_of rfl) (plain_of rfl)) pa_nil (star_of rfl)) (star_of rfl)) (by decide) (star_of rfl) (plain_of rfl)) (fun _ _ => rfl)) (pg_tup rfl (pgs_cons (pg_name (i := 5) sc_l_e.nd rfl (Or.inr rfl)) (pgs_cons (pg_name (i := 7) sc_l_e.nd rfl (Or.inl rfl)) pgs_nil))) rfl rfl rfl) (@pss_one _ _ _ (@ps_ret _ _ _ _ (@pe_tup _ _ _ _ _ (@pa_cons _ _ _ _ _ pe_str (@pa_cons _ _ _ _ _ (@pe_call _ _ _ _ _ _ _ _ _ _ _ _ _ _ _ _ G_l_e (hr.mono (by omega)) rfl m_l_e k_l_e b_l_e .nil pass0 (@pa_cons _ _ _ _ _ (pv 0) (@pa_cons _ _ _ _ _ (pv 1) (@pa_cons _ _ _ _ _ (pv 5) (@pa_cons _ _ _ _ _ (@pe_op _ _ _ _ _ _ _ _ op_sub (pv 3) pe_int) pa_nil (star_of rfl)) (star_of rfl)) (star_of rfl)) (star_of rfl)) (by decide) (star_of rfl) (plain_of rfl)) (@pa_cons _ _ _ _ _ (pv 7) pa_nil (star_of rfl)) (star_of rfl)) (star_of rfl)))))) pss_nil) (@pss_cons _ _ _ _ _ (@ps_if _ _ _ _ _ _ _ _ (@pt_cmpR _ _ _ _ _ _ _ _ op_eq (pv 2) pe_str (nomark _)) (@pss_one _ _ _ (@ps_ret _ _ _ _ (@pe_call _ _ _ _ _ _ _ _ _ _ _ _ _ _ _ _ G_l_num (hr.mono (by omega)) rfl m_l_num k_l_num b_l_num .nil pass0 (@pa_cons _ _ _ _ _ (pv 0) (@pa_cons _ _ _ _ _ (pv 1) (@pa_cons _ _ _ _ _ (pv 3) pa_nil (star_of rfl)) (star_of rfl)) (star_of rfl)) (by decide) (star_of rfl) (plain_of rfl)))) pss_nil) (@pss_cons _ _ _ _ _ (@ps_if _ _ _ _ _ _ _ _ (@pt_cmpR _ _ _ _ _ _ _ _ op_eq (pv 2) pe_str (nomark _)) (@pss_one _ _ _ (@ps_ret _ _ _ _ (@pe_call _ _ _ _ _ _ _ _ _ _ _ _ _ _ _ _ G_l_row (hr.mono (by omega)) rfl m_l_row k_l_row b_l_row .nil pass0 (@pa_cons _ _ _ _ _ (pv 0) (@pa_cons _ _ _ _ _ (pv 1) (@pa_cons _ _ _ _ _ (pv 3) pa_nil (star_of rfl)) (star_of rfl)) (star_of rfl)) (by decide) (star_of rfl) (plain_of rfl)))) pss_nil) (@pss_cons _ _ _ _ _ (ps_comp (i := 6) (N' := nb_l_e_0) (ρ := [none, some 2]) (m := 1) (BlkOk.of (fs := defScope s_l_e) (N := n_l_e) rfl rfl (by decide +kernel)) sc_l_e.nd rfl (Or.inl rfl) rfl (pi_tup (pe_ix ix_dict (pv 1) pe_str (fun _ _ => rfl))) (fun _ _ _ _ => (pg_name (i := 0) ndb_l_e_0 rfl (Or.inl rfl))) (fun _ _ _ _ => (pts_one (pt_cmpR op_eq (pe_ix (ix_tupK (K := K) rfl) (pv 0) pe_int (fun _ _ => rfl)) (pv 1) (nomark _)))) (fun _ _ _ _ => (pe_ix (ix_tupK (K := K) rfl) (pv 0) pe_int (fun _ _ => rfl)))) (@pss_cons _ _ _ _ _ (@ps_if _ _ _ _ _ _ _ _ (@pt_cmpR _ _ _ _ _ _ _ _ (op_eqNil hr.units0) (pv 6) (@pe_lst _ _ _ _ pa_nil) (nomark _)) (@pss_one _ _ _ (@ps_ret _ _ _ _ (@pe_call _ _ _ _ _ _ _ _ _ _ _ _ _ _ _ _ G_l_leaf (hr.mono (by omega)) rfl m_l_leaf k_l_leaf b_l_leaf .nil pass0 (@pa_cons _ _ _ _ _ (pv 0) (@pa_cons _ _ _ _ _ (pv 1) (@pa_cons _ _ _ _ _ (pv 2) pa_nil (star_of rfl)) (star_of rfl)) (star_of rfl)) (by decide) (star_of rfl) (plain_of rfl)))) pss_nil) (@pss_cons _ _ _ _ _ (@ps_asg _ _ _ _ _ _ (@pe_ix _ _ _ _ _ _ _ ix_tup (@pe_ix _ _ _ _ _ _ _ ix_list (pv 6) pe_int (fun _ _ => rfl)) (@pe_call _ _ _ _ _ _ _ _ _ _ _ _ _ _ _ _ G_l_draw (hr.mono (by omega)) rfl m_l_draw k_l_draw b_l_draw .nil pass0 (@pa_cons _ _ _ _ _ (pv 0) (@pa_cons _ _ _ _ _ (@pe_callB _ _ _ _ _ _ _ _ _ call_len_seq rfl T.len b_len (@pa_cons _ _ _ _ _ (@pe_ix _ _ _ _ _ _ _ ix_list (pv 6) pe_int (fun _ _ => rfl)) pa_nil (star_of rfl)) (by decide) (by decide) (star_of rfl) (plain_of rfl)) pa_nil (star_of rfl)) (star_of rfl)) (by decide) (star_of rfl) (plain_of rfl)) (fun _ _ => rfl)) (pg_tup rfl (pgs_cons (pg_name (i := 7) sc_l_e.nd rfl (Or.inl rfl)) (pgs_cons (pg_name (i := 8) sc_l_e.nd rfl (Or.inl rfl)) pgs_nil))) rfl rfl rfl) (@pss_one _ _ _ (@ps_ret _ _ _ _ (@pe_tup _ _ _ _ _ (@pa_cons _ _ _ _ _ pe_str (@pa_cons _ _ _ _ _ (@pe_call _ _ _ _ _ _ _ _ _ _ _ _ _ _ _ _ G_l_e (hr.mono (by omega)) rfl m_l_e k_l_e b_l_e .nil pass0 (@pa_cons _ _ _ _ _ (pv 0) (@pa_cons _ _ _ _ _ (pv 1) (@pa_cons _ _ _ _ _ (pv 2) (@pa_cons _ _ _ _ _ (@pe_op _ _ _ _ _ _ _ _ op_sub (pv 3) pe_int) pa_nil (star_of rfl)) (star_of rfl)) (star_of rfl)) (star_of rfl)) (by decide) (star_of rfl) (plain_of rfl)) (@pa_cons _ _ _ _ _ (pv 7) (@pa_cons _ _ _ _ _ (@pe_call _ _ _ _ _ _ _ _ _ _ _ _ _ _ _ _ G_l_e (hr.mono (by omega)) rfl m_l_e k_l_e b_l_e .nil pass0 (@pa_cons _ _ _ _ _ (pv 0) (@pa_cons _ _ _ _ _ (pv 1) (@pa_cons _ _ _ _ _ (pv 8) (@pa_cons _ _ _ _ _ (@pe_op _ _ _ _ _ _ _ _ op_sub (pv 3) pe_int) pa_nil (star_of rfl)) (star_of rfl)) (star_of rfl)) (star_of rfl)) (by decide) (star_of rfl) (plain_of rfl)) pa_nil (star_of rfl)) (star_of rfl)) (star_of rfl)) (star_of rfl)))))))))))))), ?_⟩
  have bp := bm_pos d
  have kt := hkit.ne ht
  obtain ⟨v, hl, vl, hkd, KD⟩ := id hkit
  obtain ⟨bR, rxs, rfl, hbR, rs⟩ := KD.rs
  have lrx : rxs.length ≤ 3 := by rw [Paired.length rs]; exact env.rl
  refine ⟨_, rfl, rfl, _, rfl, ?_⟩
  refine ite2 (fun c1 => absurd (V.int.inj (of_decide_eq_true c1)) (by omega)) (fun c1 => ?_)
  refine ⟨_, rfl, tp, 3, rfl, ht, by decide, by decide, fun v1 H1 _ _ x1 t1 y1 => ⟨rfl, _, rfl, ?_⟩⟩
  have G1 : Go tp H H1 := ⟨x1, t1, y1⟩
  refine ite2 (fun c2 => ⟨_, rfl, _, rfl, _, rfl, leaf G1⟩) (fun c2 => ?_)
  refine ⟨(by show 0 ≤ sizeLine; decide), fun sl hsl => ?_⟩
  have G2 := G1.new hsl (.lst [])
  have hst : sl ≠ tp := t1.nt hsl
  have hs0 : H sl = none := G1.free ht hsl
  have hkd2 := G2.x _ _ kt hkd
  have hbR2 := G2.tk ht _ _ hbR
  have es0 : (upd H1 sl (.lst [])) sl = some (.lst []) := upd_same
  have hks : kd ≠ sl := ne_of_none hkd hs0
  refine ⟨_, rfl, kd, _, _, _, rfl, rfl, hkd2, rfl, bR, rfl, ⟨rxs, SqT.of hbR2⟩, for_tup (xs := rxs) (fun i σ H' => ∃ m5 m6 ys fs, σ = [some (.ref tp), some (.ref kd), some (.str k), some (.int ((d + 1 : Nat) : Int)), some (.ref sl), m5, m6, none, none] ∧ Ext sl (upd H1 sl (.lst [])) H' ∧ H' sl = some (.lst ys) ∧ Paired (FldAt H') ys fs ∧ (∀ p ∈ fs, PO R k p) ∧ ys.length ≤ 3 * i)
      ⟨none, none, [], [], rfl, Ext.refl _ _, es0, .nil, (fun _ z => nomatch z), by simp⟩ (fun i σ H' _ p => ?_) (fun i x σ H' hx p => ?_) (fun σ H' p => ?_)⟩
  · obtain ⟨_, _, _, _, _, x3, _⟩ := p
    exact SqT.of (tk_extL x3 es0 _ _ hbR2)
  · obtain ⟨m5, m6, ys, fs, rfl, x3, hys, pfs, ofs, lys⟩ := p
    have k3 := (G2.tk ht).trans (tk_extL x3 es0)
    obtain ⟨r, hr', hra⟩ := paired_at rs i x hx
    obtain ⟨c, y, rfl, hc, b2, fx, rfl, hb2, ffs⟩ := hra.mono k3
    have rm := List.mem_of_getElem? hr'
    have i3 : i < 3 := by have := (List.getElem?_eq_some_iff.mp hr').1; have := env.rl; omega
    have lfx : fx.length ≤ 3 := by rw [Paired.length ffs]; exact (good_mem env.g rm).2.1.1.2
    refine ⟨c, _, rfl, SqT.of hc, rfl, _, _, rfl, _, _, rfl, rfl, ?_⟩
    refine ⟨_, rfl, .inl ⟨rfl, _, SqL.of hys⟩, _, rfl, b2, rfl, ⟨fx, SqT.of hb2⟩, comp_tup (xs := fx) fx.length rfl (by omega) (fun j acc H2 => Same H' H2 ∧ ∃ gs : List Fld, Paired (FldAt H2) acc gs ∧ ∀ p ∈ gs, p.1 = r.1 ∧ (p.2, k) ∈ r.2) ⟨Same.refl _, [], .nil, fun _ z => nomatch z⟩ (fun j acc H2 p => SqT.of (p.1 _ _ hb2)) (fun j acc H2 x hj la hx p => ?_) (fun acc H2 p la D hD => ?_)⟩
    · obtain ⟨g2, gs, pgs, ogs⟩ := p
      obtain ⟨fl, hfl, cf, rfl, hcf⟩ := paired_at ffs j x hx
      refine ⟨cf, _, rfl, SqT.of (g2 _ _ hcf), rfl, _, _, rfl, _, _, rfl, rfl, ⟨rfl, rfl⟩, ⟨_, rfl, _, rfl, rfl, _, rfl, ?_⟩⟩
      refine ite2 (fun d1 => ?_) (fun d1 => nxF hj la ⟨g2, gs, pgs, ogs⟩)
      refine ⟨_, rfl, _, rfl, (by show 2 ≤ sizeLine; decide), fun pp hpp => nxT (by omega) hj la ⟨g2.trans (same_new hpp _), gs ++ [(r.1, fl.1)], Paired.snoc (Paired.mapP pgs fun _ _ z => z.mono (tk_new hpp _)) ⟨pp, rfl, upd_same⟩, fun z hz => ?_⟩⟩
      rcases List.mem_append.mp hz with hz | hz
      · exact ogs z hz
      · rw [List.mem_singleton.mp hz]
        refine ⟨rfl, ?_⟩
        have := List.mem_of_getElem? hfl
        rw [← eqS d1]
        exact this
    · obtain ⟨g2, gs, pgs, ogs⟩ := p
      have gD := same_new hD (.lst acc)
      have hy2 := (g2.trans gD) _ _ hys
      have kL := tk_lst hy2 (.lst (ys ++ acc))
      refine ⟨sl, D, ys, acc, rfl, rfl, hy2, upd_same, Nat.le_of_lt (small1000 (by omega)), _, _, ys ++ acc, fs ++ gs, rfl, (x3.trans (Same.ext (g2.trans gD))).trans Ext.upd, upd_same, ?_, fun p hp => ?_, by rw [List.length_append]; omega⟩
      · exact Paired.app' (Paired.mapP pfs fun _ _ z => z.mono ((tk_same (g2.trans gD)).trans kL)) (Paired.mapP pgs fun _ _ z => z.mono ((tk_same gD).trans kL))
      · rcases List.mem_append.mp hp with hp | hp
        · exact ofs p hp
        · obtain ⟨e1, e2⟩ := ogs p hp
          refine ⟨by rw [e1]; exact List.mem_map.mpr ⟨r, rm, rfl⟩, ?_⟩
          rw [e1, look_nd env.nd r rm]
          exact e2
  obtain ⟨m5, m6, ys, fs, rfl, x3, hys, pfs, ofs, lys⟩ := p
  have G3 : Go tp H H' := by
    obtain ⟨sc, kk, rr, ns, a1, a2⟩ := id G2.t
    have hsc : sc ≠ sl := fun z => by
      obtain ⟨sc', k', r', ns', b1, b2⟩ := id ht
      obtain ⟨k2, r2, b3⟩ := G2.y sc' k' r' b1
      rw [b3] at a1
      cases a1
      exact ne_of_none b2 hs0 z
    refine ⟨fun bb o hn hb => x3 _ _ (ne_of_none hb hs0) (G2.x _ _ hn hb), ⟨sc, kk, rr, ns, x3 _ _ hst.symm a1, x3 _ _ hsc a2⟩, fun sc2 k2 r2 e2 => ?_⟩
    obtain ⟨k3, r3, e3⟩ := G2.y sc2 k2 r2 e2
    exact ⟨k3, r3, x3 _ _ hst.symm e3⟩
  have lys' : ys.length ≤ 9 := by omega
  dsimp only
  refine seq_join (fun σ H4 => ∃ m5 m7, σ = [some (.ref tp), some (.ref kd), some (.str k), some (.int ((d + 1 : Nat) : Int)), some (.ref sl), m5, m6, m7, none] ∧ Go tp H H4) (fun NX hNX => ?_) (fun σ H4 jj => ?_)
  · refine ⟨_, rfl, (by show 0 ≤ sizeLine; decide), fun pe hpe => ?_⟩
    have G4 := G3.new hpe (.lst [])
    have hy4 := same_new hpe (.lst []) _ _ hys
    refine ⟨sl, pe, _, rfl, rfl, SqL.of hy4, SqL.of upd_same, _, rfl, ?_⟩
    refine ite2 (fun c3 => ?_) (fun c3 => hNX _ _ ⟨_, _, rfl, G4⟩)
    have yp : 0 < ys.length := by
      cases ys with
      | nil => exact absurd c3 (by decide)
      | cons _ _ => simp
    refine ⟨_, rfl, tp, 4, rfl, G4.t, by decide, by decide, fun v5 H5 _ _ x5 t5 y5 => ⟨rfl, _, rfl, ?_⟩⟩
    have G5 := G4.trans ⟨x5, t5, y5⟩
    refine ite2 (fun c4 => ?_) (fun c4 => hNX _ _ ⟨_, _, rfl, G5⟩)
    have hy5 := x5 _ _ hst hy4
    refine ⟨_, rfl, _, rfl, _, rfl, sl, _, rfl, .inl (SqL.of hy5), tp, _, rfl, t5, by omega, by omega, fun v6 H6 f0 f1 x6 t6 y6 => ?_⟩
    have G6 := G5.trans ⟨x6, t6, y6⟩
    obtain ⟨u, hu, hat3, hat4⟩ := atI_ex (xs := ys) (i := v6) f0 f1
    obtain ⟨pr, hpr, hpa⟩ := paired_at pfs _ u hat3
    have k6 : Tk H' H6 := (tk_new hpe _).trans (fun bb zs e => x6 _ _ (t5.ne (x5 _ _ (G4.t.ne e) e)) (x5 _ _ (G4.t.ne e) e))
    obtain ⟨cp, rfl, hcp⟩ := hpa.mono k6
    obtain ⟨o1, o2⟩ := ofs pr (List.mem_of_getElem? hpr)
    refine ⟨sl, _, _, _, rfl, rfl, SqL.of (x6 _ _ hst hy5), hat4, cp, _, rfl, SqT.of hcp, rfl, _, _, rfl, _, _, rfl, rfl, ?_⟩
    refine ⟨_, rfl, _, rfl, _, rfl, _, rfl, _, _, rfl, rfl, callE G6 (List.mem_append_right _ o1) fun u1 e1 H7 G67 G7 de1 oe1 ne1 ni1 => ⟨_, rfl, (by show 3 ≤ sizeLine; decide), fun p hp => ?_⟩⟩
    obtain ⟨r0, hr0, er0⟩ := List.mem_map.mp o1
    have pP : pr.2 ∈ POOL := by
      have e2 := o2
      rw [← er0, look_nd env.nd r0 hr0] at e2
      exact (good_mem env.g hr0).2.1.2.2 _ e2
    refine q (.ref p) (.of_ e1 pr.2) _ (G7.new hp _) (.tup (.inl upd_same) (.cons (.str _) (.cons (de1.mono (tk_new hp _)) (.cons (.str _) .nil)))) ⟨pr.1, oe1, o2⟩ ne1 ?_
    exact (nice3 ((wd "of" (by decide +kernel)).up (Nat.zero_le _)) ni1 ((nW (pool_wd pP)).up (Nat.zero_le _))).mono (by omega) (by rw [bmS]; omega)
  obtain ⟨m5', m7, rfl, G4⟩ := jj
  refine ⟨_, rfl, rfl, _, rfl, ?_⟩
  refine ite2 (fun c3 => ?_) (fun c3 => ?_)
  · refine ⟨_, rfl, _, rfl, _, rfl, tp, kd, R, HS, Vs, gv, n, b, (by rw [hd2]; rfl), G4.t, hkit.go ht G4, env, fun u e H5 G a1 a2 a3 a4 => q u e H5 (G4.trans G) a1 (by rw [eqS c3]; exact a2) a3 a4⟩
  refine ⟨_, rfl, rfl, _, rfl, ?_⟩
  refine ite2 (fun c4 => ?_) (fun c4 => ?_)
  · refine ⟨_, rfl, _, rfl, _, rfl, tp, kd, R, HS, Vs, gv, n, b, (by rw [hd2]; rfl), G4.t, hkit.go ht G4, env, fun u e H5 G a1 a2 a3 a4 => q u e H5 (G4.trans G) a1 (by rw [eqS c4]; exact a2) a3 a4⟩
  have hb4 := G4.tk ht _ _ hbR
  refine ⟨_, rfl, kd, _, _, _, rfl, rfl, G4.x _ _ kt hkd, rfl, bR, rfl, ⟨rxs, SqT.of hb4⟩, comp_tup (xs := rxs) rxs.length rfl (by omega) (fun i acc H3 => H3 = H4 ∧ Paired (FldsAt H4) acc (((R.take i).filter fun r => decide (r.1 = k)).map (·.2))) ⟨rfl, .nil⟩ (fun i acc H3 p => by rw [p.1]; exact SqT.of hb4) (fun i acc H3 x hi la hx p => ?_) (fun acc H3 p la D2 hD2 => ?_)⟩
  · obtain ⟨rfl, pr⟩ := p
    obtain ⟨rc, hrc, hra⟩ := paired_at rs i x hx
    obtain ⟨cc, yy, rfl, hcc, hff⟩ := hra.mono (G4.tk ht)
    refine ⟨⟨rfl, rfl⟩, ⟨_, rfl, cc, _, _, _, rfl, rfl, SqT.of hcc, rfl, _, rfl, rfl, _, rfl, ?_⟩⟩
    have step : ((R.take (i + 1)).filter fun r => decide (r.1 = k)).map (·.2) = ((R.take i).filter fun r => decide (r.1 = k)).map (·.2) ++ (if rc.1 = k then [rc.2] else []) := by
      rw [List.take_add_one, hrc, List.filter_append, List.map_append]
      by_cases e : rc.1 = k
      · simp [e]
      · simp [e]
    refine ite2 (fun d1 => ?_) (fun d1 => ?_)
    · refine ⟨_, rfl, cc, _, _, _, rfl, rfl, SqT.of hcc, rfl, nxT (by omega) hi la ⟨rfl, ?_⟩⟩
      rw [step, if_pos (eqS d1)]
      exact Paired.snoc pr hff
    · refine nxF hi la ⟨rfl, ?_⟩
      rw [step, if_neg (neS d1), List.append_nil]
      exact pr
  obtain ⟨rfl, pr⟩ := p
  rw [Paired.length rs, List.take_length] at pr
  have gD := same_new hD2 (.lst acc)
  have G5 := G4.trans (Go.same G4.t gD)
  refine ⟨_, rfl, (by show 0 ≤ sizeLine; decide), fun pe hpe => ?_⟩
  have gE := same_new hpe (.lst [])
  have G6 := G5.trans (Go.same G5.t gE)
  have eD : (upd (upd H3 D2 (.lst acc)) pe (.lst [])) D2 = some (.lst acc) := gE _ _ upd_same
  have gDE := gD.trans gE
  refine ⟨D2, pe, acc, rfl, rfl, SqL.of eD, SqL.of upd_same, _, rfl, ?_⟩
  refine ite2 (fun c5 => ⟨_, rfl, _, rfl, _, rfl, leaf G6⟩) (fun c5 => ?_)
  have hDt : D2 ≠ tp := G4.t.nt hD2
  obtain ⟨kin, npl⟩ : k ∈ R.map (·.1) ∧ k ∉ PL := by
    cases pr' : (R.filter fun r => decide (r.1 = k)) with
    | nil =>
      rw [pr'] at pr
      cases pr
      exact absurd (by decide) c5
    | cons r0 rr =>
      have hm : r0 ∈ R.filter fun r => decide (r.1 = k) := by rw [pr']; exact List.mem_cons_self
      obtain ⟨h1, h2⟩ := List.mem_filter.mp hm
      have h3 : r0.1 = k := of_decide_eq_true h2
      exact ⟨List.mem_map.mpr ⟨r0, h1, h3⟩, by rw [← h3]; exact pool_pl _ (good_mem env.g h1).1⟩
  obtain ⟨rest, hrest⟩ := look_hd kin
  rw [hrest] at pr
  obtain ⟨y0, ys', rfl, hy0⟩ : ∃ y0 ys, acc = y0 :: ys ∧ FldsAt H3 y0 (look R k) := by
    cases pr with
    | cons r _ => exact ⟨_, _, rfl, r⟩
  obtain ⟨b2, fx, rfl, hb2, fs2⟩ := hy0
  obtain ⟨r0, hr0, er0⟩ := List.mem_map.mp kin
  have lk : look R k = r0.2 := by rw [← er0]; exact look_nd env.nd r0 hr0
  obtain ⟨_, ⟨⟨f1', f3'⟩, _, fP⟩, fK⟩ := good_mem env.g hr0
  have lfx : fx.length = r0.2.length := by rw [Paired.length fs2, lk]
  refine ⟨_, rfl, D2, _, _, _, rfl, rfl, SqL.of eD, at0 _ _, _, rfl, _, rfl, D2, _, _, _, rfl, rfl, SqL.of eD, at0 _ _, b2, fx, rfl, .inr (SqT.of (gDE _ _ hb2)), tp, _, rfl, G6.t, by omega, by omega, fun v7 H7 f0 f1 x7 t7 y7 => ?_⟩
  have G7 := G6.trans ⟨x7, t7, y7⟩
  have k7 : Tk H3 H7 := (tk_same gDE).trans (fun bb zs e => x7 _ _ (G6.t.ne e) e)
  obtain ⟨u, hu, hat3, hat4⟩ := atI_ex (xs := fx) (i := v7) f0 f1
  obtain ⟨fl, hfl, hfa⟩ := paired_at fs2 _ u hat3
  obtain ⟨cf, rfl, hcf⟩ := hfa.mono k7
  have hfm := List.mem_of_getElem? hfl
  have hfm2 := hfm
  rw [lk] at hfm2
  refine ⟨b2, _, _, _, rfl, rfl, SqT.of (k7 _ _ hb2), hat4, cf, _, rfl, SqT.of hcf, rfl, _, _, rfl, _, _, rfl, rfl, ?_⟩
  refine ⟨_, rfl, _, rfl, _, rfl, _, rfl, _, _, rfl, rfl, callE G7 hk fun u1 e1 H8 G78 G8 de1 oe1 ne1 ni1 => ?_⟩
  refine ⟨_, rfl, _, rfl, _, rfl, _, rfl, _, rfl, _, _, rfl, rfl, callE G8 (fK fl hfm2) fun u2 e2 H9 G89 G9 de2 oe2 ne2 ni2 => ⟨(by show 4 ≤ sizeLine; decide), fun p hp => ?_⟩⟩
  refine q (.ref p) (.with_ e1 fl.1 e2) _ (G9.new hp _) (.tup (.inl upd_same) (.cons (.str _) (.cons (de1.mono ((G89.tk G8.t).trans (tk_new hp _))) (.cons (.str _) (.cons (de2.mono (tk_new hp _)) .nil))))) ⟨npl, oe1, fl.2, hfm, oe2⟩ (fun z => by simp only [E.na, ne1 z, ne2 z, Bool.and_self]) ?_
  exact (nice4 ((wd "with" (by decide +kernel)).up (Nat.zero_le _)) ni1 ((nW (pool_wd (fP _ hfm2))).up (Nat.zero_le _)) ni2).mono (by omega) (by rw [bmS]; omega)
end
end K6

set_option Elab.async false
set_option linter.all false
set_option maxRecDepth 100000
set_option maxHeartbeats 4000000
namespace L2
open PySem
/-- t[k:], whatever t holds -/
theorem cutR_of {K : PySem.W.Frag} {H : Hp} {a : Addr} {xs : List V} {k : Nat} {Q : VK} (ha : H a = some (.tup xs)) (q : ∀ p H', Same H H' → H' p = some (.tup (xs.drop k)) → Q (.ref p) H') :
    rSlT K (.ref a) (some (k : Int)) none H Q ∨ rSlW K (.ref a) (some (k : Int)) none H Q := by
  by_cases h : HT.sIx xs.length 0 (some (k : Int)) = 0
  · refine .inr ⟨a, xs, rfl, SqT.of ha, ⟨h, HT.sIx_none _ _⟩, q a H (Same.refl _) ?_⟩
    rw [HT.sIx_nat] at h
    rw [ha]
    by_cases hk : k = 0
    · subst hk; rfl
    · have : xs.length = 0 := by omega
      have e : xs = [] := List.eq_nil_of_length_eq_zero this
      subst e
      rw [List.drop_nil]
  · refine .inl ⟨a, xs, rfl, SqT.of ha, fun z => h z.1, fun p hp => q p _ (fun c o e => by rw [upd_ne (ne_of_none e hp)]; exact e) ?_⟩
    rw [cutR]
    exact upd_same
end L2
namespace K6
open PySem L2
def isS : List PyData → Bool
  | .str _ :: _ => true
  | _ => false
mutual
def cD : PyData → Nat
  | .tuple ds => (if isS ds = true then 1 else 0) + cDs ds
  | _ => 0
def cDs : List PyData → Nat
  | [] => 0
  | d :: r => cD d + cDs r
end
mutual
def zD : PyData → Nat
  | .tuple ds => 1 + zDs ds
  | _ => 1
def zDs : List PyData → Nat
  | [] => 0
  | d :: r => zD d + zDs r
end
mutual
def Fit : PyData → Prop
  | .tuple ds => ds.length ≤ 1000 ∧ Fits ds
  | _ => True
def Fits : List PyData → Prop
  | [] => True
  | d :: r => Fit d ∧ Fits r
end
theorem cDs_app : ∀ a b : List PyData, cDs (a ++ b) = cDs a + cDs b
  | [], b => by simp [cDs]
  | d :: r, b => by simp only [List.cons_append, cDs, cDs_app r b]; omega
theorem zDs_app : ∀ a b : List PyData, zDs (a ++ b) = zDs a + zDs b
  | [], b => by simp [zDs]
  | d :: r, b => by simp only [List.cons_append, zDs, zDs_app r b]; omega
theorem Fits_app : ∀ {a b : List PyData}, Fits a → Fits b → Fits (a ++ b)
  | [], b, _, h => h
  | d :: r, b, q, h => by
    simp only [Fits] at q
    simp only [List.cons_append, Fits]
    exact ⟨q.1, Fits_app q.2 h⟩
theorem Fits_left : ∀ {a b : List PyData}, Fits (a ++ b) → Fits a
  | [], b, _ => by simp only [Fits]
  | d :: r, b, q => by
    simp only [List.cons_append, Fits] at q
    simp only [Fits]
    exact ⟨q.1, Fits_left q.2⟩
theorem Fits_last : ∀ {a : List PyData} {d : PyData}, Fits (a ++ [d]) → Fit d
  | [], d, q => by simp only [List.nil_append, Fits] at q; exact q.1
  | e :: r, d, q => by
    simp only [List.cons_append, Fits] at q
    exact Fits_last q.2
theorem zD_pos (d : PyData) : 1 ≤ zD d := by
  cases d <;> simp only [zD] <;> omega
theorem zDs_len : ∀ ds : List PyData, ds.length ≤ zDs ds
  | [] => Nat.zero_le _
  | d :: r => by
    have := zD_pos d
    have := zDs_len r
    simp only [List.length_cons, zDs]
    omega
theorem DTs.snoc_inv {K : PySem.W.Frag} {H : Hp} : ∀ {zs : List V} {y : V} {ds : List PyData}, DTs K H (zs ++ [y]) ds → ∃ es e, ds = es ++ [e] ∧ DTs K H zs es ∧ DT K H y e
  | [], y, _, .cons h .nil => ⟨[], _, rfl, .nil, h⟩
  | z :: zs, y, _, .cons h r => by
    obtain ⟨es, e, rfl, a, b⟩ := DTs.snoc_inv r
    exact ⟨_ :: es, e, rfl, .cons h a, b⟩
/-- a thing is no text, and isinstance tells so -/
def NoS (K : PySem.W.Frag) (H : Hp) (x : V) : Prop := ∃ t, TyOf K H x t ∧ PySem.W.kitOne K t (.type "str") = some false
theorem DT.head {K : PySem.W.Frag} {H : Hp} {x : V} {d : PyData} (h : DT K H x d) : (∃ z, x = .str z ∧ d = .str z) ∨ (NoS K H x ∧ ∀ r, isS (d :: r) = false) := by
  cases h with
  | int i => exact .inr ⟨⟨_, .int i, rfl⟩, fun r => rfl⟩
  | str z => exact .inl ⟨z, rfl, rfl⟩
  | tup a b => exact .inr ⟨⟨_, .tup a.hp, rfl⟩, fun r => rfl⟩
mutual
theorem fit_e {R : List Rec} {Vs : List Fld} (env : Env R Vs) : ∀ (e : E) (k : Str), Ok R Vs e k → Fit e.d
  | .num i, k, h => by simp only [E.d, Fit, Fits]; simp
  | .text i, k, h => by simp only [E.d, Fit, Fits]; simp
  | .var i, k, h => by simp only [E.d, Fit, Fits]; simp
  | .of_ e f, k, h => by
    simp only [Ok] at h
    obtain ⟨r, h, _⟩ := h
    simp only [E.d, Fit, Fits]
    exact ⟨by simp, trivial, fit_e env e _ h, trivial, trivial⟩
  | .with_ e f g, k, h => by
    simp only [Ok] at h
    obtain ⟨_, h1, k', _, h2⟩ := h
    simp only [E.d, Fit, Fits]
    exact ⟨by simp, trivial, fit_e env e _ h1, trivial, fit_e env g _ h2, trivial⟩
  | .new r es, k, h => by
    simp only [Ok] at h
    obtain ⟨_, _, h0, h1⟩ := h
    simp only [E.d, Fit, Fits]
    obtain ⟨h2, h3⟩ := fit_es env es _ h1
    have hr : (look R r).length ≤ 3 := by
      by_cases hm : r ∈ R.map (·.1)
      · obtain ⟨r0, hr0, er0⟩ := List.mem_map.mp hm
        rw [← er0, look_nd env.nd r0 hr0]
        exact (good_mem env.g hr0).2.1.1.2
      · have : look R r = [] := by
          unfold look
          rw [List.find?_eq_none.mpr (fun x hx => ?_)]
          · rfl
          · simp only [decide_eq_true_eq]
            exact fun e => hm (List.mem_map.mpr ⟨x, hx, e⟩)
        rw [this]; simp
    rw [List.length_map] at h3
    exact ⟨by simp, trivial, trivial, ⟨by rw [E.ds_len]; omega, h2⟩, trivial⟩
  | .add a b, k, h => by
    simp only [Ok] at h
    simp only [E.d, Fit, Fits]
    exact ⟨by simp, trivial, fit_e env a _ h.2.1, fit_e env b _ h.2.2, trivial⟩
  | .sub a b, k, h => by
    simp only [Ok] at h
    simp only [E.d, Fit, Fits]
    exact ⟨by simp, trivial, fit_e env a _ h.2.1, fit_e env b _ h.2.2, trivial⟩
  | .times n e, k, h => by
    simp only [Ok] at h
    simp only [E.d, Fit, Fits]
    exact ⟨by simp, trivial, trivial, fit_e env e _ h.2.2, trivial⟩
  | .div e n, k, h => by
    simp only [Ok] at h
    simp only [E.d, Fit, Fits]
    exact ⟨by simp, trivial, fit_e env e _ h.2.2, trivial, trivial⟩
  | .rest e n, k, h => by
    simp only [Ok] at h
    simp only [E.d, Fit, Fits]
    exact ⟨by simp, trivial, fit_e env e _ h.2.2, trivial, trivial⟩
  | .len e, k, h => by
    simp only [Ok] at h
    simp only [E.d, Fit, Fits]
    refine ⟨by simp, trivial, ?_, trivial⟩
    rcases h.2 with h | h
    · exact fit_e env e _ h
    · exact fit_e env e _ h
  | .at_ a b, k, h => by
    simp only [Ok] at h
    simp only [E.d, Fit, Fits]
    refine ⟨by simp, trivial, ?_, fit_e env b _ h.2.2, trivial⟩
    rcases h.2.1 with h | h
    · exact fit_e env a _ h
    · exact fit_e env a _ h
  | .rows es, k, h => by
    simp only [Ok] at h
    simp only [E.d, Fit, Fits]
    exact ⟨by simp, trivial, ⟨by rw [E.ds_len]; omega, fit_en env es h.2.2⟩, trivial⟩
  | .put a b c, k, h => by
    simp only [Ok] at h
    simp only [E.d, Fit, Fits]
    exact ⟨by simp, trivial, fit_e env a _ h.2.1, fit_e env b _ h.2.2.1, fit_e env c _ h.2.2.2, trivial⟩
  | .more a b, k, h => by
    simp only [Ok] at h
    simp only [E.d, Fit, Fits]
    exact ⟨by simp, trivial, fit_e env a _ h.2.1, fit_e env b _ h.2.2, trivial⟩
  | .signs e, k, h => by
    simp only [Ok] at h
    simp only [E.d, Fit, Fits]
    exact ⟨by simp, trivial, fit_e env e _ h.2, trivial⟩
theorem fit_es {R : List Rec} {Vs : List Fld} (env : Env R Vs) : ∀ (es : List E) (ks : List Str), OkL R Vs es ks → Fits (E.ds es) ∧ es.length = ks.length
  | [], [], _ => by simp only [E.ds, Fits]; exact ⟨trivial, rfl⟩
  | e :: es, k :: ks, h => by
    simp only [OkL] at h
    obtain ⟨a, b⟩ := fit_es env es ks h.2
    simp only [E.ds, Fits, List.length_cons]
    exact ⟨⟨fit_e env e k h.1, a⟩, by omega⟩
  | [], _ :: _, h => by simp only [OkL] at h
  | _ :: _, [], h => by simp only [OkL] at h
theorem fit_en {R : List Rec} {Vs : List Fld} (env : Env R Vs) : ∀ (es : List E), OkN R Vs es → Fits (E.ds es)
  | [], _ => by simp only [E.ds, Fits]
  | e :: es, h => by
    simp only [OkN] at h
    simp only [E.ds, Fits]
    exact ⟨fit_e env e _ h.1, fit_en env es h.2⟩
end
mutual
theorem zD_le : ∀ d : PyData, d.hasDict = false → zD d ≤ W d + 1
  | .tuple ds, h => by
    have := zDs_le ds (by simpa only [PyData.hasDict] using h)
    simp only [zD, W]
    omega
  | .list _, _ => by simp only [zD, W]; omega
  | .none, _ => by simp only [zD, W]; omega
  | .bool _, _ => by simp only [zD, W]; omega
  | .int i, _ => by simp only [zD, W]; omega
  | .str z, _ => by simp only [zD, W]; omega
  | .dict _, h => by simp [PyData.hasDict] at h
theorem zDs_le : ∀ ds : List PyData, PyData.hasDictAll ds = false → zDs ds ≤ WS ds
  | [], _ => Nat.le_refl _
  | d :: r, h => by
    have h' : d.hasDict = false ∧ PyData.hasDictAll r = false := by simpa [PyData.hasDictAll] using h
    have h1 := zD_le d h'.1
    have h2 := zDs_le r h'.2
    simp only [zDs, WS]
    omega
end
section
variable {P : Program} {w : World} {K : PySem.W.Frag} {mg : Str → Option Value} {base : Heap} {f g : Addr} {fd gd : FuncData}
def spCount (K : PySem.W.Frag) : Sp := fun vs H Q _ => ∃ u d, vs = [u] ∧ DT K H u d ∧ Fit d ∧ zD d ≤ 1000000 ∧ ∀ H', Same H H' → Q (.int (cD d)) H'
def CInv (K : PySem.W.Frag) (u : V) (d : PyData) (l : Addr) (H0 : Hp) (m : Nat) (σ : St) (H' : Hp) : Prop :=
  ∃ c ys ds m3, σ = [some u, some (.int ((c : Nat) : Int)), some (.ref l), m3] ∧ Ext l H0 H' ∧ H' l = some (.lst ys) ∧ DTs K H' ys ds ∧ Fits ds ∧ c + cDs ds = cD d ∧ m = zDs ds ∧ zDs ds ≤ zD d
abbrev n_l_count : List Str := ["_law_e_here", "_law_count_here", "_law_left", "_law_one"]
abbrev nb_l_count_0 : List Str := ["_law_part"]
theorem ndb_l_count_0 : nb_l_count_0.Nodup := by decide +kernel
theorem sc_l_count : FnScope n_l_count ["_law_e_here"] (defScope s_l_count) := ⟨rfl, rfl, rfl, by decide +kernel, rfl, by decide +kernel, by decide +kernel⟩
theorem ok_count (T : G0 mg) (F : Fun K "_law_count" "_law_count" s_l_count f fd) : FnOk P w K mg base CX0 1 f fd ["_law_e_here"] (spCount K) := by
  refine F.ok sc_l_count (fun vs H Q EX h => ?_) (fun cdv A outer s H vs Q EX hr h => ?_)
  · obtain ⟨u, d, rfl, _⟩ := h
    rfl
  obtain ⟨u, d, rfl, hu, hfit, hz, q⟩ := h
  refine ⟨_, (@pss_cons _ _ _ _ _ (@ps_set _ _ 1 _ _ _ _ sc_l_count.nd rfl (Or.inl rfl) pe_int (swaps_of rfl) (.inr rfl)) (@pss_cons _ _ _ _ _ (@ps_set _ _ 2 _ _ _ _ sc_l_count.nd rfl (Or.inl rfl) (@pe_lst _ _ _ _ (@pa_cons _ _ _ _ _ (pv 0) pa_nil (star_of rfl))) (swaps_of rfl) (.inr rfl)) (@pss_cons _ _ _ _ _ (ps_while PassesOwn.never (@pt_cmpR _ _ _ _ _ _ _ _ (op_neNil hr.units0) (pv 2) (@pe_lst _ _ _ _ pa_nil) (nomark _)) (@pss_cons _ _ _ _ _ (@ps_set _ _ 3 _ _ _ _ sc_l_count.nd rfl (Or.inl rfl) (pe_bm0 PySem.F.plainAttrs_list PySem.F.slot_list_pop PySem.F.type_list_pop mt_pop (pv 2)) (swaps_of rfl) (.inr rfl)) (@pss_cons _ _ _ _ _ (@ps_if _ _ _ _ _ _ _ _ (PW.pt (pw_and (pt_val (@pe_callB _ _ _ _ _ _ _ _ _ call_isi rfl T.isi b_isi (@pa_cons _ _ _ _ _ (pv 3) (@pa_cons _ _ _ _ _ (pe_bltn (v := .ty "tuple") rfl T.tuple b_tuple rfl) pa_nil (star_of rfl)) (star_of rfl)) (by decide) (by decide) (star_of rfl) (plain_of rfl))) (pw_and (@pt_cmpR _ _ _ _ _ _ _ _ op_gt (@pe_callB _ _ _ _ _ _ _ _ _ call_len_seq rfl T.len b_len (@pa_cons _ _ _ _ _ (pv 3) pa_nil (star_of rfl)) (by decide) (by decide) (star_of rfl) (plain_of rfl)) pe_int (nomark _)) (pw_and1 (pt_val (@pe_callB _ _ _ _ _ _ _ _ _ call_isi rfl T.isi b_isi (@pa_cons _ _ _ _ _ (@pe_ix _ _ _ _ _ _ _ ix_tup (pv 3) pe_int (fun _ _ => rfl)) (@pa_cons _ _ _ _ _ (pe_bltn (v := .ty "str") rfl T.str b_str rfl) pa_nil (star_of rfl)) (star_of rfl)) (by decide) (by decide) (star_of rfl) (plain_of rfl))))))) (@pss_one _ _ _ (@ps_set _ _ 1 _ _ _ _ sc_l_count.nd rfl (Or.inl rfl) (@pe_op _ _ _ _ _ _ _ _ op_add (pv 1) pe_int) (swaps_of rfl) (.inr rfl))) pss_nil) (@pss_one _ _ _ (@ps_if _ _ _ _ _ _ _ _ (pt_val (@pe_callB _ _ _ _ _ _ _ _ _ call_isi rfl T.isi b_isi (@pa_cons _ _ _ _ _ (pv 3) (@pa_cons _ _ _ _ _ (pe_bltn (v := .ty "tuple") rfl T.tuple b_tuple rfl) pa_nil (star_of rfl)) (star_of rfl)) (by decide) (by decide) (star_of rfl) (plain_of rfl))) (@pss_one _ _ _ (@ps_expr _ _ _ _ (@pe_bm _ _ _ _ _ _ _ _ _ _ _ _ PySem.F.plainAttrs_list PySem.F.slot_list_extend PySem.F.type_list_extend mt_extend (pv 2) (@pa_cons _ _ _ _ _ (pe_comp (N' := nb_l_count_0) (ρ := [none]) (m := 1) (BlkOk.of (fs := defScope s_l_count) (N := n_l_count) rfl rfl (by decide +kernel)) rfl (pi_tup (pe_slice (sl_tup.or sl_tupW) (pv 3) (po_some (pe_callTy call_int1 rfl T.int b_int (pa_cons (pe_and (pe_cmpR op_gt (pe_callB call_len_seq rfl T.len b_len (pa_cons (pv 3) pa_nil)) pe_int (nomark _)) (pe_one (pe_callB call_isi rfl T.isi b_isi (pa_cons (pe_ix ix_tup (pv 3) pe_int (fun _ _ => rfl)) (pa_cons (pe_bltn (v := .ty "str") rfl T.str b_str rfl) pa_nil))))) pa_nil))) po_none)) (fun _ _ _ _ => (pg_name (i := 0) ndb_l_count_0 rfl (Or.inl rfl))) (fun _ _ _ _ => pts_nil) (fun _ _ _ _ => (pv 0))) pa_nil (star_of rfl)) rfl (few_of rfl rfl) rfl (star_of rfl) (plain_of rfl)) (swaps_of rfl))) pss_nil))))) (@pss_one _ _ _ (@ps_ret _ _ _ _ (pv 1)))))), ?_⟩
  refine ⟨_, rfl, (by show 1 ≤ sizeLine; decide), fun l hl => ?_⟩
  have g0 := same_new hl (.lst [u])
  have hl0 : (upd H l (.lst [u])) l = some (.lst [u]) := upd_same
  refine ⟨CInv K u d l (upd H l (.lst [u])), ⟨_, 0, [u], [d], none, rfl, Ext.refl _ _, hl0, .cons (hu.mono (tk_same g0)) .nil, by simp only [Fits]; exact ⟨hfit, trivial⟩, by simp [cDs], rfl, by simp [zDs]⟩, ?_⟩
  rintro m σ H' ⟨c, ys, ds, m3, rfl, x1, hy, dy, fy, ec, em, ez⟩
  refine ⟨_, rfl, (by show 0 ≤ sizeLine; decide), fun e he => ⟨l, e, ys, rfl, rfl, SqL.of (same_new he _ _ _ hy), SqL.of upd_same, _, rfl, ?_⟩⟩
  have ge := same_new he (.lst [])
  have hy1 := ge _ _ hy
  refine ite2 (fun cc => ?_) (fun cc => ?_)
  · obtain ⟨zs, y, rfl⟩ : ∃ zs y, ys = zs ++ [y] := by
      rcases List.eq_nil_or_concat ys with rfl | ⟨zs, y, e⟩
      · exact absurd cc (by decide)
      · exact ⟨zs, y, by rw [e, List.concat_eq_append]⟩
    obtain ⟨es, e1, rfl, dz, d1⟩ := dy.snoc_inv
    refine ⟨fun σ' H' => ∃ m', m' < m ∧ CInv K u d l (upd H l (.lst [u])) m' σ' H', fun _ _ z => z, ?_⟩
    refine ⟨_, rfl, .inl ⟨rfl, _, SqL.of hy1⟩, l, _, y, rfl, rfl, hy1, by simp, ?_⟩
    rw [List.dropLast_concat]
    have kT : Tk H' (upd (upd H' e (.lst [])) l (.lst zs)) := (tk_same ge).trans (tk_lst hy1 _)
    have x2 : Ext l (upd H l (.lst [u])) (upd (upd H' e (.lst [])) l (.lst zs)) := (x1.trans (Same.ext ge)).trans Ext.upd
    have hy2 : (upd (upd H' e (.lst [])) l (.lst zs)) l = some (.lst zs) := upd_same
    have dz2 := dz.mono kT
    have d2 := d1.mono kT
    have fz := Fits_left fy
    have f1 := Fits_last fy
    rw [cDs_app] at ec
    rw [zDs_app] at em ez
    simp only [cDs, zDs, Nat.add_zero] at ec em ez
    generalize hH : (upd (upd H' e (.lst [])) l (.lst zs)) = H2 at x2 hy2 dz2 d2
    have plainR : cD e1 = 0 → ∃ m', m' < m ∧ CInv K u d l (upd H l (.lst [u])) m' [some u, some (.int ((c : Nat) : Int)), some (.ref l), some y] H2 := fun e0 => by
      have := zD_pos e1
      exact ⟨zDs es, by omega, c, zs, es, _, rfl, x2, hy2, dz2, fz, by omega, rfl, by omega⟩
    cases d2 with
    | int i => exact ⟨_, rfl, _, _, _, false, rfl, .int i, rfl, _, rfl, iteF ⟨_, rfl, _, _, _, false, rfl, .int i, rfl, _, rfl, iteF (plainR (by simp only [cD]))⟩⟩
    | str z => exact ⟨_, rfl, _, _, _, false, rfl, .str z, rfl, _, rfl, iteF ⟨_, rfl, _, _, _, false, rfl, .str z, rfl, _, rfl, iteF (plainR (by simp only [cD]))⟩⟩
    | @tup a xs ds' ha dx =>
    have ha' := ha.hp
    simp only [Fit] at f1
    simp only [cD] at ec
    simp only [zD] at em ez
    have lx := dx.len
    have zl := zDs_len es
    have zl' := zDs_len ds'
    -- the parts k on come to the list
    have fin : ∀ (k c' : Nat), c' + (cDs es + cDs (ds'.drop k)) = cD d → Fits (ds'.drop k) → zDs (ds'.drop k) ≤ zDs ds' → ∀ (p : Addr) (H3 : Hp), Same H2 H3 → H3 p = some (.tup (xs.drop k)) → cLoop (Itt K p) 1 (gName 0) tTrue (tVar 0) [none] (fun acc H4 => ∀ D, H4 D = none → (fun (u' : V) (H5 : Hp) => rExtend (.ref l) [u'] H5 fun _ H6 => ∃ m', m' < m ∧ CInv K u d l (upd H l (.lst [u])) m' [some u, some (.int ((c' : Nat) : Int)), some (.ref l), some (.ref a)] H6) (.ref D) (upd H4 D (.lst acc))) H3 := by
      intro k c' hc hf hzk p H3 g3 hp3
      refine comp_tup (xs := xs.drop k) (xs.drop k).length rfl (by rw [List.length_drop]; omega) (fun i acc H4 => H4 = H3 ∧ acc = (xs.drop k).take i) ⟨rfl, rfl⟩ (fun i acc H4 p' => by rw [p'.1]; exact SqT.of hp3) (fun i acc H4 x hi la hx p' => ?_) (fun acc H4 p' la D hD => ?_)
      · obtain ⟨rfl, rfl⟩ := p'
        exact ⟨⟨rfl, rfl⟩, tTrue_i ⟨_, rfl, nxT (by rw [List.length_drop]; omega) hi la ⟨rfl, by rw [List.take_add_one, hx]; rfl⟩⟩⟩
      · obtain ⟨rfl, rfl⟩ := p'
        rw [List.take_length]
        have gD := same_new hD (.lst (xs.drop k))
        have g4 := g3.trans gD
        have hy4 := g4 _ _ hy2
        have kL := tk_lst hy4 (.lst (zs ++ xs.drop k))
        have lz := dz2.len
        refine ⟨l, D, zs, xs.drop k, rfl, rfl, hy4, upd_same, ?_, ?_⟩
        · rw [List.length_drop, sizeLine_eq]
          omega
        · refine ⟨zDs es + zDs (ds'.drop k), by omega, c', zs ++ xs.drop k, es ++ ds'.drop k, _, rfl, (x2.trans (Same.ext g4)).trans Ext.upd, upd_same, ?_, Fits_app fz hf, by rw [cDs_app]; exact hc, by rw [zDs_app], by rw [zDs_app]; omega⟩
          exact DTs.append (dz2.mono ((tk_same g4).trans kL)) ((dx.drop k).mono ((tk_same g4).trans kL))
    refine ⟨_, rfl, _, _, _, true, rfl, .tup ha', rfl, _, rfl, iteT ?_⟩
    refine ⟨_, rfl, a, xs, rfl, .inr ha.sq, _, _, rfl, rfl, _, rfl, ?_⟩
    cases dx with
    | nil =>
      refine iteF ⟨_, rfl, _, _, _, true, rfl, .tup ha', rfl, _, rfl, iteT ?_⟩
      refine ⟨_, rfl, .inl ⟨rfl, _, SqL.of hy2⟩, _, rfl, _, rfl, a, [], rfl, .inr ha.sq, _, _, rfl, rfl, _, rfl, iteF (.inr ⟨false, rfl, _, rfl, ?_⟩)⟩
      refine cutR_of (k := 0) ha' fun p H3 g3 hp3 => ⟨p, rfl, ⟨_, SqT.of hp3⟩, fin 0 c (by simpa [isS, cDs] using ec) f1.2 (Nat.le_refl _) p H3 g3 hp3⟩
    | @cons x0 xr e0 er h0 hrr =>
    rcases h0.head with ⟨z, rfl, rfl⟩ | ⟨⟨ty, hty, hks⟩, hno⟩
    · refine ite2 (fun c5 => ?_) (fun c5 => absurd (by simp) c5)
      refine ⟨_, rfl, a, _, _, _, rfl, rfl, ha.sq, at0 _ _, _, _, _, true, rfl, .str z, rfl, _, rfl, iteT ?_⟩
      refine ⟨_, rfl, _, _, rfl, rfl, ?_⟩
      refine ⟨_, rfl, _, _, _, true, rfl, .tup ha', rfl, _, rfl, iteT ?_⟩
      refine ⟨_, rfl, .inl ⟨rfl, _, SqL.of hy2⟩, _, rfl, _, rfl, a, _, rfl, .inr ha.sq, _, _, rfl, rfl, _, rfl, ?_⟩
      refine ite2 (fun c6 => ?_) (fun c6 => absurd (by simp) c6)
      refine ⟨_, rfl, a, _, _, _, rfl, rfl, ha.sq, at0 _ _, _, _, _, true, rfl, .str z, rfl, .inr ⟨true, rfl, _, rfl, ?_⟩⟩
      refine cutR_of (k := 1) ha' fun p H3 g3 hp3 => ⟨p, rfl, ⟨_, SqT.of hp3⟩, ?_⟩
      have ef : (c : Int) + 1 = ((c + 1 : Nat) : Int) := by omega
      have fz1 : Fits er := by
        have := f1.2
        simp only [Fits] at this
        exact this.2
      have := fin 1 (c + 1) (by simp only [isS, cDs, cD, if_true] at ec; simp only [List.drop_succ_cons, List.drop_zero]; omega) fz1 (by simp only [List.drop_succ_cons, List.drop_zero, zDs]; omega) p H3 g3 hp3
      rw [← ef] at this
      exact this
    · refine ite2 (fun c5 => ?_) (fun c5 => absurd (by simp) c5)
      refine ⟨_, rfl, a, _, _, _, rfl, rfl, ha.sq, at0 _ _, _, _, _, false, rfl, hty, hks, _, rfl, iteF ?_⟩
      refine ⟨_, rfl, _, _, _, true, rfl, .tup ha', rfl, _, rfl, iteT ?_⟩
      refine ⟨_, rfl, .inl ⟨rfl, _, SqL.of hy2⟩, _, rfl, _, rfl, a, _, rfl, .inr ha.sq, _, _, rfl, rfl, _, rfl, ?_⟩
      refine ite2 (fun c6 => ?_) (fun c6 => absurd (by simp) c6)
      refine ⟨_, rfl, a, _, _, _, rfl, rfl, ha.sq, at0 _ _, _, _, _, false, rfl, hty, hks, .inr ⟨false, rfl, _, rfl, ?_⟩⟩
      refine cutR_of (k := 0) ha' fun p H3 g3 hp3 => ⟨p, rfl, ⟨_, SqT.of hp3⟩, fin 0 c (by rw [hno] at ec; simpa using ec) f1.2 (Nat.le_refl _) p H3 g3 hp3⟩
  · have e0 : ys = [] := by
      cases ys with
      | nil => rfl
      | cons _ _ => exact absurd (by rfl) cc
    subst e0
    cases dy
    refine ⟨_, rfl, ?_⟩
    have ec' : c = cD d := by simpa [cDs] using ec
    rw [ec']
    refine q _ fun bb o hb => ?_
    exact ge _ _ (x1 _ _ (ne_of_none hb hl) (g0 _ _ hb))
end
end K6

set_option Elab.async false
set_option linter.all false
set_option maxRecDepth 100000
set_option maxHeartbeats 4000000
namespace K6
open PySem L2
/-- what may happen while statements are made: the tape turns, the kit's own numbers change -/
structure Gk (tp kd : Addr) (H H' : Hp) : Prop where
  x : ∀ b o, b ≠ tp → b ≠ kd → H b = some o → H' b = some o
  k : Tk H H'
  t : Tp H' tp
  y : TS tp H H'
  f : ∀ p, H' p = none → H p = none
theorem Gk.trans {tp kd : Addr} {H H1 H2 : Hp} (a : Gk tp kd H H1) (b : Gk tp kd H1 H2) : Gk tp kd H H2 := ⟨fun c o n m h => b.x c o n m (a.x c o n m h), a.k.trans b.k, b.t, a.y.trans b.y, fun p h => a.f p (b.f p h)⟩
theorem Gk.of_go {tp kd : Addr} {H H' : Hp} {o : HO} (hk : H kd = some o) (t : Tp H tp) (G : Go tp H H') : Gk tp kd H H' := ⟨fun b o n _ h => G.x b o n h, G.tk t, G.t, G.y, fun p h => G.free t h⟩
theorem Gk.new {tp kd p : Addr} {H H1 : Hp} (a : Gk tp kd H H1) (h : H1 p = none) (o : HO) : Gk tp kd H (upd H1 p o) := by
  have g := same_new h o
  exact a.trans ⟨fun b o' _ _ q => g b o' q, tk_same g, a.t.same g, Same.ts g, fun q e => g.free e⟩
theorem Gk.same {tp kd : Addr} {H H1 H2 : Hp} (a : Gk tp kd H H1) (g : Same H1 H2) : Gk tp kd H H2 := a.trans ⟨fun b o' _ _ q => g b o' q, tk_same g, a.t.same g, Same.ts g, fun q e => g.free e⟩
theorem wls {i : Int} (h0 : 0 ≤ i) (h1 : i < 2) : ∃ z : Str, atI ((["less", "same"] : List Str).map V.str) i = some (.str z) ∧ (z = "less" ∨ z = "same") := by
  have : i = 0 ∨ i = 1 := by omega
  rcases this with h | h <;> subst h
  · exact ⟨"less", by decide +kernel, .inl rfl⟩
  · exact ⟨"same", by decide +kernel, .inr rfl⟩
theorem wao {i : Int} (h0 : 0 ≤ i) (h1 : i < 2) : ∃ z : Str, atI ((["and", "or"] : List Str).map V.str) i = some (.str z) ∧ (z = "and" ∨ z = "or") := by
  have : i = 0 ∨ i = 1 := by omega
  rcases this with h | h <;> subst h
  · exact ⟨"and", by decide +kernel, .inl rfl⟩
  · exact ⟨"or", by decide +kernel, .inr rfl⟩
def OkC (R : List Rec) (Vs : List Fld) : C → Prop
  | .less a b => Ok R Vs a "num" ∧ a.na = true ∧ Ok R Vs b "num" ∧ b.na = true
  | .same a b => Ok R Vs a "num" ∧ a.na = true ∧ Ok R Vs b "num" ∧ b.na = true
  | .and_ c d => OkC R Vs c ∧ OkC R Vs d
  | .or_ c d => OkC R Vs c ∧ OkC R Vs d
  | .not_ c => OkC R Vs c
def bc : Nat → Nat
  | 0 => 2 * bm 2 + 40
  | d + 1 => (2 * bm 2 + 40) + bc d + 40
theorem bc_0 : ∀ d : Nat, bc 0 ≤ bc d
  | 0 => Nat.le_refl _
  | d + 1 => by have := bc_0 d; rw [show bc (d + 1) = (2 * bm 2 + 40) + bc d + 40 from rfl]; omega
def KitX (tp : Addr) (H : Hp) (kd : Addr) (R : List Rec) (HS : List Head) (Vs : List Fld) (v : V) (hl vl : Addr) (g : Str) (n : Int) (b : Bool) : Prop := H kd = some (.dK (kitL v hl vl g n b)) ∧ KitD tp H R HS Vs v hl vl
theorem KitX.at_ {tp kd : Addr} {H : Hp} {R : List Rec} {HS : List Head} {Vs : List Fld} {v : V} {hl vl : Addr} {g : Str} {n : Int} {b : Bool} (h : KitX tp H kd R HS Vs v hl vl g n b) : KitAt tp H kd R HS Vs g n b := ⟨v, hl, vl, h.1, h.2⟩
theorem KitX.ne {tp kd : Addr} {H : Hp} {R : List Rec} {HS : List Head} {Vs : List Fld} {v : V} {hl vl : Addr} {g : Str} {n : Int} {b : Bool} (h : KitX tp H kd R HS Vs v hl vl g n b) (t : Tp H tp) : kd ≠ tp := h.at_.ne t
theorem KitX.hk {tp kd : Addr} {H : Hp} {R : List Rec} {HS : List Head} {Vs : List Fld} {v : V} {hl vl : Addr} {g : Str} {n : Int} {b : Bool} (h : KitX tp H kd R HS Vs v hl vl g n b) : hl ≠ kd ∧ vl ≠ kd := by
  obtain ⟨hs, d1, _⟩ := h.2.hh
  obtain ⟨vs, e1, _⟩ := h.2.vv
  exact ⟨ne_of d1 h.1 (fun z => by cases z), ne_of e1 h.1 (fun z => by cases z)⟩
theorem KitX.go {tp kd : Addr} {H H' : Hp} {R : List Rec} {HS : List Head} {Vs : List Fld} {v : V} {hl vl : Addr} {g : Str} {n : Int} {b : Bool} (h : KitX tp H kd R HS Vs v hl vl g n b) (t : Tp H tp) (G : Go tp H H') : KitX tp H' kd R HS Vs v hl vl g n b :=
  ⟨G.x _ _ (h.ne t) h.1, h.2.mono (kd := kd) (G.tk t) (fun b o q _ => G.x b o q) h.hk.1 h.hk.2⟩
/-- the kit by what it was, and its own numbers -/
theorem KitX.gk {tp kd : Addr} {H H' : Hp} {R : List Rec} {HS : List Head} {Vs : List Fld} {v : V} {hl vl : Addr} {g : Str} {n n' : Int} {b b' : Bool} (h : KitX tp H kd R HS Vs v hl vl g n b) (G : Gk tp kd H H') (e : H' kd = some (.dK (kitL v hl vl g n' b'))) : KitX tp H' kd R HS Vs v hl vl g n' b' :=
  ⟨e, h.2.mono (kd := kd) G.k G.x h.hk.1 h.hk.2⟩
section
variable {P : Program} {w : World} {K : PySem.W.Frag} {mg : Str → Option Value} {base : Heap} {f g : Addr} {fd gd : FuncData}
def spBounded (K : PySem.W.Frag) : Sp := fun vs H Q _ => ∃ tp kd k R HS Vs v hl vl gv n b rb, vs = [.ref tp, .ref kd, .str k, .bl rb] ∧ Tp H tp ∧ KitX tp H kd R HS Vs v hl vl gv n b ∧ Env R Vs ∧ k ∈ KS R ∧ ∀ u e H', Gk tp kd H H' → KitX tp H' kd R HS Vs v hl vl gv n rb → DT K H' u e.d → Ok R Vs e k → (rb = false → e.na = true) → Nice 12 (bm 2) e.d → Q u H'
abbrev pBd : List Str := ["_law_tape_here", "_law_kit_here", "_law_kind_here", "_law_reach"]
abbrev n_l_bounded : List Str := ["_law_tape_here", "_law_kit_here", "_law_kind_here", "_law_reach", "_law_e_here"]
theorem sc_l_bounded : FnScope n_l_bounded ["_law_tape_here", "_law_kit_here", "_law_kind_here", "_law_reach"] (defScope s_l_bounded) := ⟨rfl, rfl, rfl, by decide +kernel, rfl, by decide +kernel, by decide +kernel⟩
theorem ok_bounded (T : G0 mg) (F : Fun K "_law_bounded" "_law_bounded" s_l_bounded f fd) (D_l_count : Cal P w K mg base 1 "_law_count" ["_law_e_here"] (spCount K)) (D_l_leaf : Cal P w K mg base 5 "_law_leaf" pLf (spLeaf K 4)) (D_l_e : Cal P w K mg base 10 "_law_e" pEx (spE K 2)) :
    FnOk P w K mg base CX0 11 f fd pBd (spBounded K) := by
  obtain ⟨g_l_count, gd_l_count, G_l_count, b_l_count, k_l_count, m_l_count⟩ := D_l_count.ex
  obtain ⟨g_l_leaf, gd_l_leaf, G_l_leaf, b_l_leaf, k_l_leaf, m_l_leaf⟩ := D_l_leaf.ex
  obtain ⟨g_l_e, gd_l_e, G_l_e, b_l_e, k_l_e, m_l_e⟩ := D_l_e.ex
  refine F.ok sc_l_bounded (fun vs H Q EX h => ?_) (fun cdv A outer s H vs Q EX hr h => ?_)
  · obtain ⟨tp, kd, k, R, HS, Vs, v, hl, vl, gv, n, b, rb, rfl, _⟩ := h
    rfl
  obtain ⟨tp, kd, k, R, HS, Vs, v, hl, vl, gv, n, b, rb, rfl, ht, hkit, env, hk, q⟩ := h
  refine ⟨_, (@pss_cons _ _ _ _ _ (ps_dput (hu_of hr) (pv 1) pe_str (pv 3) (swaps_of rfl)) (@pss_cons _ _ _ _ _ (@ps_set _ _ 4 _ _ _ _ sc_l_bounded.nd rfl (Or.inl rfl) (@pe_call _ _ _ _ _ _ _ _ _ _ _ _ _ _ _ _ G_l_e (hr.mono (by omega)) rfl m_l_e k_l_e b_l_e .nil pass0 (@pa_cons _ _ _ _ _ (pv 0) (@pa_cons _ _ _ _ _ (pv 1) (@pa_cons _ _ _ _ _ (pv 2) (@pa_cons _ _ _ _ _ pe_int pa_nil (star_of rfl)) (star_of rfl)) (star_of rfl)) (star_of rfl)) (by decide) (star_of rfl) (plain_of rfl)) (swaps_of rfl) (.inr rfl)) (@pss_cons _ _ _ _ _ (@ps_if _ _ _ _ _ _ _ _ (@pt_cmpR _ _ _ _ _ _ _ _ op_gt (@pe_call _ _ _ _ _ _ _ _ _ _ _ _ _ _ _ _ G_l_count (hr.mono (by omega)) rfl m_l_count k_l_count b_l_count .nil pass0 (@pa_cons _ _ _ _ _ (pv 4) pa_nil (star_of rfl)) (by decide) (star_of rfl) (plain_of rfl)) pe_int (nomark _)) (@pss_one _ _ _ (@ps_set _ _ 4 _ _ _ _ sc_l_bounded.nd rfl (Or.inl rfl) (@pe_call _ _ _ _ _ _ _ _ _ _ _ _ _ _ _ _ G_l_leaf (hr.mono (by omega)) rfl m_l_leaf k_l_leaf b_l_leaf .nil pass0 (@pa_cons _ _ _ _ _ (pv 0) (@pa_cons _ _ _ _ _ (pv 1) (@pa_cons _ _ _ _ _ (pv 2) pa_nil (star_of rfl)) (star_of rfl)) (star_of rfl)) (by decide) (star_of rfl) (plain_of rfl)) (swaps_of rfl) (.inr rfl))) pss_nil) (@pss_one _ _ _ (@ps_ret _ _ _ _ (pv 4)))))), ?_⟩
  have kt := hkit.ne ht
  obtain ⟨hkd, KD⟩ := id hkit
  refine ⟨_, rfl, _, rfl, kd, _, rfl, DPut.k (k := Sum.inr "reach") hkd (by show 6 < sizeLine; decide), ?_⟩
  have hp0 : putK (kitL v hl vl gv n b) (Sum.inr "reach") (.bl rb) = kitL v hl vl gv n rb := rfl
  rw [hp0]
  obtain ⟨hs, d1, _⟩ := KD.hh
  obtain ⟨vs, e1, _⟩ := KD.vv
  have G1 : Gk tp kd H (upd H kd (.dK (kitL v hl vl gv n rb))) := by
    obtain ⟨sc, kk, rr, ns, a1, a2⟩ := id ht
    have hsc : sc ≠ kd := ne_of a2 hkd (fun z => by cases z)
    refine ⟨fun bb o _ n2 hb => by rw [upd_ne n2]; exact hb, fun bb xs hb => by rw [upd_ne (ne_of hb hkd (fun z => by cases z))]; exact hb, ⟨sc, kk, rr, ns, by rw [upd_ne kt.symm]; exact a1, by rw [upd_ne hsc]; exact a2⟩, fun sc2 k2 r2 e2 => ⟨k2, r2, by rw [upd_ne kt.symm]; exact e2⟩, fun p hp => ?_⟩
    by_cases e : p = kd
    · rw [e, upd_same] at hp; cases hp
    · rw [upd_ne e] at hp; exact hp
  have K1 : KitX tp (upd H kd (.dK (kitL v hl vl gv n rb))) kd R HS Vs v hl vl gv n rb := ⟨upd_same, KD.mono (kd := kd) G1.k G1.x (ne_of d1 hkd (fun z => by cases z)) (ne_of e1 hkd (fun z => by cases z))⟩
  refine ⟨_, rfl, _, rfl, _, rfl, tp, kd, k, R, HS, Vs, gv, n, rb, rfl, G1.t, K1.at_, env, hk, fun u e H2 G2 de oe ne ni => ?_⟩
  have GA := G1.trans (Gk.of_go (upd_same (a := kd)) G1.t G2)
  have zz : zD e.d ≤ 1000000 := by
    have h1 := zD_le e.d ni.nd
    have h2 := ni.sz
    have h3 : bm 2 ≤ 100000 := by decide
    omega
  refine ⟨_, rfl, u, e.d, rfl, de, fit_e env e k oe, zz, fun H3 g3 => ?_⟩
  have G3 := G2.trans (Go.same G2.t g3)
  have GB := GA.same g3
  refine ⟨_, _, rfl, rfl, _, rfl, ?_⟩
  refine ite2 (fun c1 => ?_) (fun c1 => ?_)
  · refine ⟨_, rfl, _, rfl, _, rfl, tp, kd, k, R, HS, Vs, gv, n, rb, rfl, G3.t, (K1.go G1.t G3).at_, env, ks_deep env.g env.rl k hk, fun u4 e4 H4 G4 a1 a2 a3 a4 => ⟨_, rfl, ?_⟩⟩
    have K3 := K1.go G1.t (G3.trans G4)
    obtain ⟨hk3, _⟩ := K1.go G1.t G3
    exact q u4 e4 H4 (GB.trans (Gk.of_go hk3 G3.t G4)) K3 a1 a2 (fun _ => a3) (a4.mono (by decide) (bm_0 2))
  · exact ⟨_, rfl, q u e H3 GB (K1.go G1.t G3) (de.mono (tk_same g3)) oe ne ni⟩
def spCond (K : PySem.W.Frag) (d : Nat) : Sp := fun vs H Q _ => ∃ tp kd R HS Vs v hl vl gv n b, vs = [.ref tp, .ref kd, .int (d : Int)] ∧ Tp H tp ∧ KitX tp H kd R HS Vs v hl vl gv n b ∧ Env R Vs ∧ ∀ u c H', Gk tp kd H H' → (∃ b', KitX tp H' kd R HS Vs v hl vl gv n b') → DT K H' u c.d → OkC R Vs c → Nice (13 + d) (bc d) c.d → Q u H'
def spCL (K : PySem.W.Frag) (d : Nat) : Sp := fun vs H Q E => ∃ d', d' ≤ d ∧ spCond K d' vs H Q E
abbrev n_l_condition : List Str := ["_law_tape_here", "_law_kit_here", "_law_deep", "_law_way", "_law_word", "_law_first"]
theorem sc_l_condition : FnScope n_l_condition ["_law_tape_here", "_law_kit_here", "_law_deep"] (defScope s_l_condition) := ⟨rfl, rfl, rfl, by decide +kernel, rfl, by decide +kernel, by decide +kernel⟩
theorem ok_cond {d r : Nat} {spC : Sp} (h11 : 11 ≤ r) (up : ∀ d', d' < d → ∀ vs H Q E, spCond K d' vs H Q E → spC vs H Q E) (T : G0 mg) (F : Fun K "_law_condition" "_law_condition" s_l_condition f fd) (D_l_draw : Cal P w K mg base 1 "_law_draw" dP spDraw2) (D_l_bounded : Cal P w K mg base 11 "_law_bounded" pBd (spBounded K)) (D_l_condition : Cal P w K mg base r "_law_condition" pTx spC) :
    FnOk P w K mg base CX0 (r + 1) f fd pTx (spCL K d) := by
  obtain ⟨g_l_draw, gd_l_draw, G_l_draw, b_l_draw, k_l_draw, m_l_draw⟩ := D_l_draw.ex
  obtain ⟨g_l_bounded, gd_l_bounded, G_l_bounded, b_l_bounded, k_l_bounded, m_l_bounded⟩ := D_l_bounded.ex
  obtain ⟨g_l_condition, gd_l_condition, G_l_condition, b_l_condition, k_l_condition, m_l_condition⟩ := D_l_condition.ex
  refine F.ok sc_l_condition (fun vs H Q EX h => ?_) (fun cdv A outer s H vs Q EX hr h => ?_)
  · obtain ⟨d', _, tp, kd, R, HS, Vs, v, hl, vl, gv, n, b, rfl, _⟩ := h
    rfl
  obtain ⟨d', hd', tp, kd, R, HS, Vs, v, hl, vl, gv, n, b, rfl, ht, hkit, env, q⟩ := h
  refine ⟨_, (@pss_cons _ _ _ _ _ (@ps_set _ _ 3 _ _ _ _ sc_l_condition.nd rfl (Or.inl rfl) (@pe_call _ _ _ _ _ _ _ _ _ _ _ _ _ _ _ _ G_l_draw (hr.mono (by omega)) rfl m_l_draw k_l_draw b_l_draw .nil pass0 (@pa_cons _ _ _ _ _ (pv 0) (@pa_cons _ _ _ _ _ pe_int pa_nil (star_of rfl)) (star_of rfl)) (by decide) (star_of rfl) (plain_of rfl)) (swaps_of rfl) (.inr rfl)) (@pss_cons _ _ _ _ _ (@ps_if _ _ _ _ _ _ _ _ (PW.pt (pw_or (@pt_cmpR _ _ _ _ _ _ _ _ op_eq (pv 2) pe_int (nomark _)) (pw_or1 (@pt_cmpR _ _ _ _ _ _ _ _ op_lt (pv 3) pe_int (nomark _))))) (@pss_cons _ _ _ _ _ (@ps_set _ _ 4 _ _ _ _ sc_l_condition.nd rfl (Or.inl rfl) (@pe_ix _ _ _ _ _ _ _ ix_list (@pe_lst _ _ _ _ (@pa_cons _ _ _ _ _ pe_str (@pa_cons _ _ _ _ _ pe_str pa_nil (star_of rfl)) (star_of rfl))) (@pe_op _ _ _ _ _ _ _ _ op_mod (pv 3) pe_int) (fun _ _ => rfl)) (swaps_of rfl) (.inr rfl)) (@pss_cons _ _ _ _ _ (@ps_set _ _ 5 _ _ _ _ sc_l_condition.nd rfl (Or.inl rfl) (@pe_call _ _ _ _ _ _ _ _ _ _ _ _ _ _ _ _ G_l_bounded (hr.mono (by omega)) rfl m_l_bounded k_l_bounded b_l_bounded .nil pass0 (@pa_cons _ _ _ _ _ (pv 0) (@pa_cons _ _ _ _ _ (pv 1) (@pa_cons _ _ _ _ _ pe_str (@pa_cons _ _ _ _ _ pe_bl pa_nil (star_of rfl)) (star_of rfl)) (star_of rfl)) (star_of rfl)) (by decide) (star_of rfl) (plain_of rfl)) (swaps_of rfl) (.inr rfl)) (@pss_one _ _ _ (@ps_ret _ _ _ _ (@pe_tup _ _ _ _ _ (@pa_cons _ _ _ _ _ (pv 4) (@pa_cons _ _ _ _ _ (pv 5) (@pa_cons _ _ _ _ _ (@pe_call _ _ _ _ _ _ _ _ _ _ _ _ _ _ _ _ G_l_bounded (hr.mono (by omega)) rfl m_l_bounded k_l_bounded b_l_bounded .nil pass0 (@pa_cons _ _ _ _ _ (pv 0) (@pa_cons _ _ _ _ _ (pv 1) (@pa_cons _ _ _ _ _ pe_str (@pa_cons _ _ _ _ _ pe_bl pa_nil (star_of rfl)) (star_of rfl)) (star_of rfl)) (star_of rfl)) (by decide) (star_of rfl) (plain_of rfl)) pa_nil (star_of rfl)) (star_of rfl)) (star_of rfl))))))) pss_nil) (@pss_cons _ _ _ _ _ (@ps_if _ _ _ _ _ _ _ _ (@pt_cmpR _ _ _ _ _ _ _ _ op_eq (pv 3) pe_int (nomark _)) (@pss_one _ _ _ (@ps_ret _ _ _ _ (@pe_tup _ _ _ _ _ (@pa_cons _ _ _ _ _ pe_str (@pa_cons _ _ _ _ _ (@pe_call _ _ _ _ _ _ _ _ _ _ _ _ _ _ _ _ G_l_condition (hr.mono (by omega)) rfl m_l_condition k_l_condition b_l_condition .nil pass0 (@pa_cons _ _ _ _ _ (pv 0) (@pa_cons _ _ _ _ _ (pv 1) (@pa_cons _ _ _ _ _ (@pe_op _ _ _ _ _ _ _ _ op_sub (pv 2) pe_int) pa_nil (star_of rfl)) (star_of rfl)) (star_of rfl)) (by decide) (star_of rfl) (plain_of rfl)) pa_nil (star_of rfl)) (star_of rfl))))) pss_nil) (@pss_cons _ _ _ _ _ (@ps_set _ _ 5 _ _ _ _ sc_l_condition.nd rfl (Or.inl rfl) (@pe_call _ _ _ _ _ _ _ _ _ _ _ _ _ _ _ _ G_l_condition (hr.mono (by omega)) rfl m_l_condition k_l_condition b_l_condition .nil pass0 (@pa_cons _ _ _ _ _ (pv 0) (@pa_cons _ _ _ _ _ (pv 1) (@pa_cons _ _ _ _ _ pe_int pa_nil (star_of rfl)) (star_of rfl)) (star_of rfl)) (by decide) (star_of rfl) (plain_of rfl)) (swaps_of rfl) (.inr rfl)) (@pss_one _ _ _ (@ps_ret _ _ _ _ (@pe_tup _ _ _ _ _ (@pa_cons _ _ _ _ _ (@pe_ix _ _ _ _ _ _ _ ix_list (@pe_lst _ _ _ _ (@pa_cons _ _ _ _ _ pe_str (@pa_cons _ _ _ _ _ pe_str pa_nil (star_of rfl)) (star_of rfl))) (@pe_op _ _ _ _ _ _ _ _ op_sub (pv 3) pe_int) (fun _ _ => rfl)) (@pa_cons _ _ _ _ _ (pv 5) (@pa_cons _ _ _ _ _ (@pe_call _ _ _ _ _ _ _ _ _ _ _ _ _ _ _ _ G_l_condition (hr.mono (by omega)) rfl m_l_condition k_l_condition b_l_condition .nil pass0 (@pa_cons _ _ _ _ _ (pv 0) (@pa_cons _ _ _ _ _ (pv 1) (@pa_cons _ _ _ _ _ (@pe_op _ _ _ _ _ _ _ _ op_sub (pv 2) pe_int) pa_nil (star_of rfl)) (star_of rfl)) (star_of rfl)) (by decide) (star_of rfl) (plain_of rfl)) pa_nil (star_of rfl)) (star_of rfl)) (star_of rfl))))))))), ?_⟩
  have kNum : Str.ofString "num" ∈ KS R := List.mem_append_left _ (by decide)
  have kt := hkit.ne ht
  obtain ⟨kdd, KD⟩ := id hkit
  refine ⟨_, rfl, tp, 6, rfl, ht, by decide, by decide, fun way H1 w0 w1 x1 t1 y1 => ?_⟩
  have G1 : Go tp H H1 := ⟨x1, t1, y1⟩
  refine ⟨_, rfl, rfl, _, rfl, ?_⟩
  cases d' with
  | zero =>
  refine ite2 (fun c1 => iteT ?_) (fun c1 => absurd (by decide) c1)
  refine ⟨(by show 2 ≤ sizeLine; decide), fun lw hlw => ?_⟩
  obtain ⟨wd', hat, hw⟩ := wls (i := way % 2) (Int.emod_nonneg _ (by decide)) (Int.emod_lt_of_pos _ (by decide))
  refine ⟨_, rfl, _, _, rfl, rfl, (by show (0 : Int) < 2; decide), lw, _, _, _, rfl, rfl, SqL.of upd_same, hat, ?_⟩
  have G2 := G1.new hlw (.lst ((["less", "same"] : List Str).map V.str))
  have K2 := hkit.go ht G2
  refine ⟨_, rfl, _, rfl, tp, kd, "num", R, HS, Vs, v, hl, vl, gv, n, b, false, rfl, G2.t, K2, env, kNum, fun u1 e1 H3 G3 K3 de1 oe1 ne1 ni1 => ?_⟩
  refine ⟨_, rfl, _, rfl, _, rfl, _, rfl, tp, kd, "num", R, HS, Vs, v, hl, vl, gv, n, false, false, rfl, G3.t, K3, env, kNum, fun u2 e2 H4 G4 K4 de2 oe2 ne2 ni2 => ⟨(by show 3 ≤ sizeLine; decide), fun p hp => ?_⟩⟩
  have GA := ((Gk.of_go kdd ht G2).trans (G3.trans G4)).new hp (.tup [.str wd', u1, u2])
  have dd1 := de1.mono (G4.k.trans (tk_new hp (.tup [.str wd', u1, u2])))
  have dd2 := de2.mono (tk_new hp (.tup [.str wd', u1, u2]))
  have K5 := K4.go G4.t ((Go.refl G4.t).new hp (.tup [.str wd', u1, u2]))
  have nn : ∀ z : Str, z ∈ WD → Nice (13 + 0) (bc 0) (.tuple [.str z, e1.d, e2.d]) := fun z hz => (nice3 ((nW hz).up (Nat.zero_le 12)) ni1 ni2).mono (by omega) (by have := bc_0 (0); have : bc 0 = 2 * bm 2 + 40 := rfl; omega)
  rcases hw with rfl | rfl
  · exact q (.ref p) (.less e1 e2) _ GA ⟨_, K5⟩ (.tup (.inl upd_same) (.cons (.str _) (.cons dd1 (.cons dd2 .nil)))) ⟨oe1, ne1 rfl, oe2, ne2 rfl⟩ (nn "less" (by decide +kernel))
  · exact q (.ref p) (.same e1 e2) _ GA ⟨_, K5⟩ (.tup (.inl upd_same) (.cons (.str _) (.cons dd1 (.cons dd2 .nil)))) ⟨oe1, ne1 rfl, oe2, ne2 rfl⟩ (nn "same" (by decide +kernel))
  | succ dd =>
  have hd1 : (((dd + 1 : Nat) : Int) - 1) = (dd : Int) := by omega
  refine ite2 (fun c1 => absurd (V.int.inj (of_decide_eq_true c1)) (by omega)) (fun c1 => ?_)
  refine ⟨_, rfl, _, _, rfl, rfl, _, rfl, ?_⟩
  refine ite2 (fun c2 => ?_) (fun c2 => ?_)
  · refine ⟨(by show 2 ≤ sizeLine; decide), fun lw hlw => ?_⟩
    obtain ⟨wd', hat, hw⟩ := wls (i := way % 2) (Int.emod_nonneg _ (by decide)) (Int.emod_lt_of_pos _ (by decide))
    refine ⟨_, rfl, _, _, rfl, rfl, (by show (0 : Int) < 2; decide), lw, _, _, _, rfl, rfl, SqL.of upd_same, hat, ?_⟩
    have G2 := G1.new hlw (.lst ((["less", "same"] : List Str).map V.str))
    have K2 := hkit.go ht G2
    refine ⟨_, rfl, _, rfl, tp, kd, "num", R, HS, Vs, v, hl, vl, gv, n, b, false, rfl, G2.t, K2, env, kNum, fun u1 e1 H3 G3 K3 de1 oe1 ne1 ni1 => ?_⟩
    refine ⟨_, rfl, _, rfl, _, rfl, _, rfl, tp, kd, "num", R, HS, Vs, v, hl, vl, gv, n, false, false, rfl, G3.t, K3, env, kNum, fun u2 e2 H4 G4 K4 de2 oe2 ne2 ni2 => ⟨(by show 3 ≤ sizeLine; decide), fun p hp => ?_⟩⟩
    have GA := ((Gk.of_go kdd ht G2).trans (G3.trans G4)).new hp (.tup [.str wd', u1, u2])
    have dd1 := de1.mono (G4.k.trans (tk_new hp (.tup [.str wd', u1, u2])))
    have dd2 := de2.mono (tk_new hp (.tup [.str wd', u1, u2]))
    have K5 := K4.go G4.t ((Go.refl G4.t).new hp (.tup [.str wd', u1, u2]))
    have nn : ∀ z : Str, z ∈ WD → Nice (13 + (dd + 1)) (bc (dd + 1)) (.tuple [.str z, e1.d, e2.d]) := fun z hz => (nice3 ((nW hz).up (Nat.zero_le 12)) ni1 ni2).mono (by omega) (by have := bc_0 ((dd + 1)); have : bc 0 = 2 * bm 2 + 40 := rfl; omega)
    rcases hw with rfl | rfl
    · exact q (.ref p) (.less e1 e2) _ GA ⟨_, K5⟩ (.tup (.inl upd_same) (.cons (.str _) (.cons dd1 (.cons dd2 .nil)))) ⟨oe1, ne1 rfl, oe2, ne2 rfl⟩ (nn "less" (by decide +kernel))
    · exact q (.ref p) (.same e1 e2) _ GA ⟨_, K5⟩ (.tup (.inl upd_same) (.cons (.str _) (.cons dd1 (.cons dd2 .nil)))) ⟨oe1, ne1 rfl, oe2, ne2 rfl⟩ (nn "same" (by decide +kernel))
  have c2' : ¬ way < 3 := fun z => c2 (decide_eq_true z)
  have K1 := hkit.go ht G1
  have GK1 := Gk.of_go kdd ht G1
  refine ⟨_, rfl, rfl, _, rfl, ?_⟩
  refine ite2 (fun c3 => ?_) (fun c3 => ?_)
  · refine ⟨_, rfl, _, rfl, _, rfl, _, _, rfl, rfl, up dd (by omega) _ _ _ _ ⟨tp, kd, R, HS, Vs, v, hl, vl, gv, n, b, (show [V.ref tp, V.ref kd, V.int (((dd + 1 : Nat) : Int) - 1)] = _ by rw [hd1]), G1.t, K1, env, fun u1 c4 H3 G3 K3 dc oc nc => ⟨(by show 2 ≤ sizeLine; decide), fun p hp => ?_⟩⟩⟩
    obtain ⟨b', K3⟩ := K3
    refine q (.ref p) (.not_ c4) _ ((GK1.trans G3).new hp _) ⟨b', K3.go G3.t ((Go.refl G3.t).new hp _)⟩ (.tup (.inl upd_same) (.cons (.str _) (.cons (dc.mono (tk_new hp _)) .nil))) oc ?_
    exact (nice2 ((wd "not" (by decide +kernel)).up (Nat.zero_le _)) nc).mono (by omega) (by rw [show bc (dd + 1) = (2 * bm 2 + 40) + bc dd + 40 from rfl]; omega)
  have c3' : ¬ way = 3 := fun z => c3 (decide_eq_true (congrArg V.int z))
  refine ⟨_, rfl, _, rfl, up 0 (by omega) _ _ _ _ ⟨tp, kd, R, HS, Vs, v, hl, vl, gv, n, b, rfl, G1.t, K1, env, fun u1 c4 H3 G3 K3 dc oc nc => ?_⟩⟩
  obtain ⟨b', K3⟩ := K3
  obtain ⟨wd', hat, hw⟩ := wao (i := way - 4) (by omega) (by omega)
  refine ⟨(by show 2 ≤ sizeLine; decide), fun lw hlw => ⟨_, rfl, _, _, rfl, rfl, lw, _, _, _, rfl, rfl, SqL.of upd_same, hat, ?_⟩⟩
  have G4 := (Go.refl G3.t).new hlw (.lst ((["and", "or"] : List Str).map V.str))
  have K4 := K3.go G3.t G4
  obtain ⟨kd3, _⟩ := id K3
  have GK4 := (GK1.trans G3).trans (Gk.of_go kd3 G3.t G4)
  refine ⟨_, rfl, _, rfl, _, rfl, _, rfl, _, _, rfl, rfl, up dd (by omega) _ _ _ _ ⟨tp, kd, R, HS, Vs, v, hl, vl, gv, n, b', (show [V.ref tp, V.ref kd, V.int (((dd + 1 : Nat) : Int) - 1)] = _ by rw [hd1]), G4.t, K4, env, fun u2 c5 H5 G5 K5 dc2 oc2 nc2 => ⟨(by show 3 ≤ sizeLine; decide), fun p hp => ?_⟩⟩⟩
  obtain ⟨b5, K5⟩ := K5
  have GA := (GK4.trans G5).new hp (.tup [.str wd', u1, u2])
  have K6 := K5.go G5.t ((Go.refl G5.t).new hp (.tup [.str wd', u1, u2]))
  have dd1 := dc.mono (((G4.tk G3.t).trans G5.k).trans (tk_new hp (.tup [.str wd', u1, u2])))
  have dd2 := dc2.mono (tk_new hp (.tup [.str wd', u1, u2]))
  have nn : ∀ z : Str, z ∈ WD → Nice (13 + (dd + 1)) (bc (dd + 1)) (.tuple [.str z, c4.d, c5.d]) := fun z hz => (nice3 (m := 13 + dd) ((nW hz).up (Nat.zero_le _)) (nc.up (by omega)) nc2).mono (by omega) (by rw [show bc (dd + 1) = (2 * bm 2 + 40) + bc dd + 40 from rfl, show bc 0 = 2 * bm 2 + 40 from rfl]; omega)
  rcases hw with rfl | rfl
  · exact q (.ref p) (.and_ c4 c5) _ GA ⟨_, K6⟩ (.tup (.inl upd_same) (.cons (.str _) (.cons dd1 (.cons dd2 .nil)))) ⟨oc, oc2⟩ (nn "and" (by decide +kernel))
  · exact q (.ref p) (.or_ c4 c5) _ GA ⟨_, K6⟩ (.tup (.inl upd_same) (.cons (.str _) (.cons dd1 (.cons dd2 .nil)))) ⟨oc, oc2⟩ (nn "or" (by decide +kernel))
end
end K6

set_option Elab.async false
set_option linter.all false
set_option maxRecDepth 100000
set_option maxHeartbeats 4000000
namespace K6
open PySem L2
mutual
def S.cnt : S → Nat
  | .if_ _ a b => 1 + S.cnts a + S.cnts b
  | .while_ _ a => 1 + S.cnts a
  | _ => 1
def S.cnts : List S → Nat
  | [] => 0
  | s :: r => s.cnt + S.cnts r
end
mutual
def OkS (R : List Rec) (HS : List Head) (Vs : List Fld) (gv : Str) : S → Prop
  | .let_ x e => ∃ k, (x, k) ∈ Vs ∧ Ok R Vs e k
  | .say w c => w ∈ POOL ∧ OkC R Vs c
  | .if_ c a b => OkC R Vs c ∧ OkSs R HS Vs gv a ∧ OkSs R HS Vs gv b
  | .while_ c a => OkC R Vs c ∧ OkSs R HS Vs gv a
  | .call x f es => ∃ h ∈ HS, h.1 = f ∧ (x, h.2.2.2) ∈ Vs ∧ OkL R Vs es (h.2.1.map (·.2))
  | .give e => Ok R Vs e gv
def OkSs (R : List Rec) (HS : List Head) (Vs : List Fld) (gv : Str) : List S → Prop
  | [] => True
  | s :: r => OkS R HS Vs gv s ∧ OkSs R HS Vs gv r
end
theorem S.cnts_snoc : ∀ (ss : List S) (s : S), S.cnts (ss ++ [s]) = S.cnts ss + s.cnt
  | [], s => by simp [S.cnts]
  | a :: r, s => by simp only [List.cons_append, S.cnts, S.cnts_snoc r s]; omega
theorem S.cnts_app : ∀ a b : List S, S.cnts (a ++ b) = S.cnts a + S.cnts b
  | [], b => by simp [S.cnts]
  | s :: r, b => by simp only [List.cons_append, S.cnts, S.cnts_app r b]; omega
theorem OkSs.snoc {R : List Rec} {HS : List Head} {Vs : List Fld} {gv : Str} {s : S} (h : OkS R HS Vs gv s) : ∀ {ss : List S}, OkSs R HS Vs gv ss → OkSs R HS Vs gv (ss ++ [s])
  | [], _ => by simp only [List.nil_append, OkSs]; exact ⟨h, trivial⟩
  | a :: r, q => by
    simp only [OkSs] at q
    simp only [List.cons_append, OkSs]
    exact ⟨q.1, OkSs.snoc h q.2⟩
theorem OkSs.app {R : List Rec} {HS : List Head} {Vs : List Fld} {gv : Str} : ∀ {a b : List S}, OkSs R HS Vs gv a → OkSs R HS Vs gv b → OkSs R HS Vs gv (a ++ b)
  | [], b, _, q => q
  | s :: r, b, h, q => by
    simp only [OkSs] at h
    simp only [List.cons_append, OkSs]
    exact ⟨h.1, OkSs.app h.2 q⟩
theorem S.cnt_pos (s : S) : 1 ≤ s.cnt := by cases s <;> simp only [S.cnt] <;> omega
def BS : Nat := bc 2 + 200
def mS (dp : Nat) : Nat := 17 + 2 * dp
def NS (dp : Nat) (s : S) : Prop := Nice (mS dp) (s.cnt * BS - 2) s.d
theorem bs_ge : 200 ≤ BS := by decide +kernel
theorem nices_ss {dp : Nat} : ∀ {ss : List S}, (∀ s ∈ ss, NS dp s) → Nices (mS dp) (S.cnts ss * BS) (S.ds ss)
  | [], _ => by simp only [S.ds]; exact nz.mono (Nat.le_refl _) (Nat.zero_le _)
  | s :: r, h => by
    have h1 := h s List.mem_cons_self
    have h2 := nices_ss (ss := r) fun j hj => h j (List.mem_cons_of_mem _ hj)
    have h3 : 1 * BS ≤ s.cnt * BS := Nat.mul_le_mul_right _ s.cnt_pos
    have h4 := bs_ge
    simp only [S.ds]
    refine (Nices.cons h1 h2).mono (Nat.le_refl _) ?_
    simp only [S.cnts]
    rw [Nat.add_mul]
    omega
theorem ns1 {dp m b : Nat} {s : S} (h1 : s.cnt = 1) (h : Nice m b s.d) (hm : m ≤ mS dp) (hb : b + 2 ≤ BS) : NS dp s := by
  unfold NS
  rw [h1, Nat.one_mul]
  exact h.mono hm (by omega)
structure EnvS (R : List Rec) (HS : List Head) (Vs : List Fld) (gv : Str) : Prop where
  env : Env R Vs
  hs : HsOk R HS
  vk : ∀ p ∈ Vs, p.2 ∈ KS R
  v1 : 1 ≤ Vs.length
  gk : gv ∈ KS R
theorem Gk.upd {tp kd p : Addr} {H H1 : Hp} (a : Gk tp kd H H1) (t : Tp H tp) (h : H p = none) {ys : List V} (h1 : H1 p = some (.lst ys)) (o : HO) : Gk tp kd H (L2.upd H1 p o) := by
  obtain ⟨sc, k, r, ns, e1, e2⟩ := id t
  obtain ⟨k', r', e3⟩ := a.y sc k r e1
  obtain ⟨sc2, k2, r2, ns2, f1, f2⟩ := id a.t
  have : sc2 = sc := by rw [e3] at f1; cases f1; rfl
  subst this
  have pt : tp ≠ p := ne_of_none e1 h
  have ps : sc2 ≠ p := ne_of_none e2 h
  refine ⟨fun b u n m q => by rw [upd_ne (ne_of_none q h)]; exact a.x _ _ n m q, fun b xs q => by rw [upd_ne (ne_of_none q h)]; exact a.k _ _ q, ⟨sc2, k2, r2, ns2, by rw [upd_ne pt]; exact f1, by rw [upd_ne ps]; exact f2⟩, fun s3 k3 r3 q => ?_, fun q e => ?_⟩
  · obtain ⟨k4, r4, e4⟩ := a.y s3 k3 r3 q
    exact ⟨k4, r4, by rw [upd_ne pt]; exact e4⟩
  · by_cases z : q = p
    · rw [z]; exact h
    · rw [upd_ne z] at e; exact a.f q e
section
variable {P : Program} {w : World} {K : PySem.W.Frag} {mg : Str → Option Value} {base : Heap} {f g : Addr} {fd gd : FuncData}
def spStmt (K : PySem.W.Frag) (dp : Nat) : Sp := fun vs H Q _ => ∃ tp kd R HS Vs v hl vl gv n b, vs = [.ref tp, .ref kd, .int (dp : Int)] ∧ Tp H tp ∧ KitX tp H kd R HS Vs v hl vl gv n b ∧ EnvS R HS Vs gv ∧ 0 ≤ n ∧ ∀ u s H' n', Gk tp kd H H' → (∃ b', KitX tp H' kd R HS Vs v hl vl gv n' b') → 0 ≤ n' → n' + (s.cnt : Int) = n + 1 → DT K H' u s.d → OkS R HS Vs gv s → NS dp s → Q u H'
def spBody (K : PySem.W.Frag) (dp : Nat) : Sp := fun vs H Q _ => ∃ tp kd R HS Vs v hl vl gv n b, vs = [.ref tp, .ref kd, .int (dp : Int)] ∧ Tp H tp ∧ KitX tp H kd R HS Vs v hl vl gv n b ∧ EnvS R HS Vs gv ∧ 0 ≤ n ∧ ∀ a xs ss H' n', Gk tp kd H H' → (∃ b', KitX tp H' kd R HS Vs v hl vl gv n' b') → 0 ≤ n' → n' + (S.cnts ss : Int) = n → H' a = some (.tup xs) → DTs K H' xs (S.ds ss) → OkSs R HS Vs gv ss → (∀ s ∈ ss, NS dp s) → Q (.ref a) H'
abbrev n_l_body : List Str := ["_law_tape_here", "_law_kit_here", "_law_deep", "_law_body_here", "_law_k"]
theorem sc_l_body : FnScope n_l_body ["_law_tape_here", "_law_kit_here", "_law_deep"] (defScope s_l_body) := ⟨rfl, rfl, rfl, by decide +kernel, rfl, by decide +kernel, by decide +kernel⟩
theorem ok_body {dp r : Nat} (hr1 : 1 ≤ r) (T : G0 mg) (F : Fun K "_law_body" "_law_body" s_l_body f fd) (D_l_draw : Cal P w K mg base 1 "_law_draw" dP spDraw2) (D_l_statement : Cal P w K mg base r "_law_statement" pTx (spStmt K dp)) : FnOk P w K mg base CX0 (r + 1) f fd pTx (spBody K dp) := by
  obtain ⟨g_l_draw, gd_l_draw, G_l_draw, b_l_draw, k_l_draw, m_l_draw⟩ := D_l_draw.ex
  obtain ⟨g_l_statement, gd_l_statement, G_l_statement, b_l_statement, k_l_statement, m_l_statement⟩ := D_l_statement.ex
  refine F.ok sc_l_body (fun vs H Q EX h => ?_) (fun cdv A outer s H vs Q EX hr h => ?_)
  · obtain ⟨tp, kd, R, HS, Vs, v, hl, vl, gv, n, b, rfl, _⟩ := h
    rfl
  obtain ⟨tp, kd, R, HS, Vs, v, hl, vl, gv, n, b, rfl, ht, hkit, env, hn, q⟩ := h
  refine ⟨_, (@pss_cons _ _ _ _ _ (@ps_set _ _ 3 _ _ _ _ sc_l_body.nd rfl (Or.inl rfl) (@pe_lst _ _ _ _ pa_nil) (swaps_of rfl) (.inr rfl)) (@pss_cons _ _ _ _ _ (@ps_for _ _ _ _ _ _ _ _ PassesOwn.never rfl (pi_range1 rfl T.range (@pa_cons _ _ _ _ _ (@pe_call _ _ _ _ _ _ _ _ _ _ _ _ _ _ _ _ G_l_draw (hr.mono (by omega)) rfl m_l_draw k_l_draw b_l_draw .nil pass0 (@pa_cons _ _ _ _ _ (pv 0) (@pa_cons _ _ _ _ _ pe_int pa_nil (star_of rfl)) (star_of rfl)) (by decide) (star_of rfl) (plain_of rfl)) pa_nil (star_of rfl))) (pg_name (i := 4) sc_l_body.nd rfl (Or.inl rfl)) (@pss_one _ _ _ (@ps_if _ _ _ _ _ _ _ _ (@pt_cmpR _ _ _ _ _ _ _ _ op_gt (@pe_ix _ _ _ _ _ _ _ ix_dict (pv 1) pe_str (fun _ _ => rfl)) pe_int (nomark _)) (@pss_cons _ _ _ _ _ (ps_dput (hu_of hr) (pv 1) pe_str (@pe_op _ _ _ _ _ _ _ _ op_sub (@pe_ix _ _ _ _ _ _ _ ix_dict (pv 1) pe_str (fun _ _ => rfl)) pe_int) (swaps_of rfl)) (@pss_one _ _ _ (@ps_expr _ _ _ _ (@pe_bm _ _ _ _ _ _ _ _ _ _ _ _ PySem.F.plainAttrs_list PySem.F.slot_list_append PySem.F.type_list_append mt_append (pv 3) (@pa_cons _ _ _ _ _ (@pe_call _ _ _ _ _ _ _ _ _ _ _ _ _ _ _ _ G_l_statement (hr.mono (by omega)) rfl m_l_statement k_l_statement b_l_statement .nil pass0 (@pa_cons _ _ _ _ _ (pv 0) (@pa_cons _ _ _ _ _ (pv 1) (@pa_cons _ _ _ _ _ (pv 2) pa_nil (star_of rfl)) (star_of rfl)) (star_of rfl)) (by decide) (star_of rfl) (plain_of rfl)) pa_nil (star_of rfl)) rfl (few_of rfl rfl) rfl (star_of rfl) (plain_of rfl)) (swaps_of rfl)))) pss_nil)) (fun _ => rfl)) (@pss_one _ _ _ (@ps_ret _ _ _ _ (@pe_callTy _ _ _ _ _ _ _ _ _ call_tuple_of rfl T.tuple b_tuple (@pa_cons _ _ _ _ _ (pv 3) pa_nil (star_of rfl)) (by decide) (by decide) (star_of rfl) (plain_of rfl)))))), ?_⟩
  have kt := hkit.ne ht
  refine ⟨(by show 0 ≤ sizeLine; decide), fun bl hbl => ?_⟩
  have G1 : Go tp H (L2.upd H bl (.lst [])) := (Go.refl ht).new hbl _
  have hbt : bl ≠ tp := ht.nt hbl
  have hbk : bl ≠ kd := (ne_of_none hkit.1 hbl).symm
  refine ⟨_, rfl, tp, 4, rfl, G1.t, by decide, by decide, fun many H2 m0 m1 x2 t2 y2 => ?_⟩
  have G2 := G1.trans ⟨x2, t2, y2⟩
  have hb2 : H2 bl = some (.lst []) := x2 _ _ hbt upd_same
  refine ⟨_, rfl, by omega, by omega, for_range (lo := 0) (n := many.toNat) (fun i σ H' => ∃ m4 ys ss n' b', σ = [some (.ref tp), some (.ref kd), some (.int (dp : Int)), some (.ref bl), m4] ∧ Gk tp kd H H' ∧ KitX tp H' kd R HS Vs v hl vl gv n' b' ∧ 0 ≤ n' ∧ n' + (S.cnts ss : Int) = n ∧ H' bl = some (.lst ys) ∧ DTs K H' ys (S.ds ss) ∧ OkSs R HS Vs gv ss ∧ (∀ s ∈ ss, NS dp s) ∧ ys.length ≤ i)
    ⟨none, [], [], n, b, rfl, Gk.of_go hkit.1 ht G2, hkit.go ht G2, hn, by simp [S.cnts], hb2, by simp only [S.ds]; exact .nil, by simp only [OkSs], (fun _ z => nomatch z), Nat.zero_le _⟩ (fun i σ H' hi p => ?_) (fun σ H' p => ?_)⟩
  · obtain ⟨m4, ys, ss, n', b', rfl, G3, K3, hn', en, hys, dys, oss, nss, lys⟩ := p
    refine ⟨_, rfl, kd, _, _, _, rfl, rfl, K3.1, rfl, _, _, rfl, rfl, _, rfl, ?_⟩
    refine ite2 (fun c1 => ?_) (fun c1 => ⟨_, ys, ss, n', b', rfl, G3, K3, hn', en, hys, dys, oss, nss, by omega⟩)
    have c1' : 0 < n' := of_decide_eq_true c1
    refine ⟨_, rfl, kd, _, _, _, rfl, rfl, K3.1, rfl, _, _, rfl, rfl, _, rfl, kd, _, rfl, DPut.k (k := Sum.inr "left") K3.1 (by show 6 < sizeLine; decide), ?_⟩
    have hp0 : putK (kitL v hl vl gv n' b') (Sum.inr "left") (.int (n' - 1)) = kitL v hl vl gv (n' - 1) b' := rfl
    rw [hp0]
    have G4 : Gk tp kd H' (upd H' kd (.dK (kitL v hl vl gv (n' - 1) b'))) := by
      obtain ⟨sc, kk, rr, ns, a1, a2⟩ := id G3.t
      have hsc : sc ≠ kd := ne_of a2 K3.1 (fun z => by cases z)
      refine ⟨fun bb o _ n2 hb => by rw [upd_ne n2]; exact hb, fun bb xs hb => by rw [upd_ne (ne_of hb K3.1 (fun z => by cases z))]; exact hb, ⟨sc, kk, rr, ns, by rw [upd_ne kt.symm]; exact a1, by rw [upd_ne hsc]; exact a2⟩, fun sc2 k2 r2 e2 => ⟨k2, r2, by rw [upd_ne kt.symm]; exact e2⟩, fun p hp => ?_⟩
      by_cases e : p = kd
      · rw [e, upd_same] at hp; cases hp
      · rw [upd_ne e] at hp; exact hp
    have K4 : KitX tp (upd H' kd (.dK (kitL v hl vl gv (n' - 1) b'))) kd R HS Vs v hl vl gv (n' - 1) b' := K3.gk G4 upd_same
    have hys4 := G4.x _ _ hbt hbk hys
    refine ⟨_, rfl, .inl ⟨rfl, _, SqL.of hys4⟩, _, rfl, _, rfl, _, rfl, tp, kd, R, HS, Vs, v, hl, vl, gv, n' - 1, b', rfl, G4.t, K4, env, by omega, fun u s H5 n5 G5 K5 hn5 en5 ds5 os5 ns5 => ?_⟩
    obtain ⟨b5, K5⟩ := K5
    have hys5 := G5.x _ _ hbt hbk hys4
    refine ⟨bl, ys, u, rfl, rfl, hys5, small1000 (by omega), ?_⟩
    have G6 := (G3.trans G4).trans G5
    have kL := tk_lst hys5 (.lst (ys ++ [u]))
    have G7 := G6.upd ht hbl hys5 (.lst (ys ++ [u]))
    refine ⟨_, ys ++ [u], ss ++ [s], n5, b5, rfl, G7, hkit.gk G7 (by rw [upd_ne hbk.symm]; exact K5.1), hn5, ?_, upd_same, ?_, OkSs.snoc os5 oss, fun y hy => ?_, by rw [List.length_append]; simp; omega⟩
    · rw [S.cnts_snoc]
      rw [Int.natCast_add]
      omega
    · rw [S.ds_snoc]
      exact DTs.snoc (ds5.mono kL) (dys.mono ((G4.k.trans G5.k).trans kL))
    · rcases List.mem_append.mp hy with hy | hy
      · exact nss y hy
      · rw [List.mem_singleton.mp hy]; exact ns5
  · obtain ⟨m4, ys, ss, n', b', rfl, G3, K3, hn', en, hys, dys, oss, nss, lys⟩ := p
    refine ⟨_, rfl, bl, ys, rfl, .inl ⟨SqL.of hys, fun l hl2 => ?_⟩⟩
    have G4 := G3.new hl2 (.tup ys)
    exact q l ys ss _ n' G4 ⟨b', K3.go G3.t ((Go.refl G3.t).new hl2 _)⟩ hn' en upd_same (dys.mono (tk_new hl2 _)) oss nss
abbrev n_l_statement : List Str := ["_law_tape_here", "_law_kit_here", "_law_deep", "_law_way", "_law_name", "_law_kind_here", "_law_condition_here", "_law_body_here", "_law_params", "_law_inner", "_law_some", "_law_args"]
abbrev nb_l_statement_0 : List Str := ["_law_one", "_law_own", "_law_tape_here", "_law_kit_here"]
theorem ndb_l_statement_0 : nb_l_statement_0.Nodup := by decide +kernel
abbrev nb_l_statement_1 : List Str := ["_law_one", "_law_own", "_law_kind_here"]
theorem ndb_l_statement_1 : nb_l_statement_1.Nodup := by decide +kernel
theorem sc_l_statement : FnScope n_l_statement ["_law_tape_here", "_law_kit_here", "_law_deep"] (defScope s_l_statement) := ⟨rfl, rfl, rfl, by decide +kernel, rfl, by decide +kernel, by decide +kernel⟩
theorem ok_stmt {dp r : Nat} {spB : Sp} (h14 : 14 ≤ r) (up : ∀ d', d' + 1 = dp → ∀ vs H Q E, spBody K d' vs H Q E → spB vs H Q E) (T : G0 mg) (F : Fun K "_law_statement" "_law_statement" s_l_statement f fd) (D_l_draw : Cal P w K mg base 1 "_law_draw" dP spDraw2) (D_l_names : Cal P w K mg base 2 "_law_names" dP spNames)
    (D_l_bounded : Cal P w K mg base 11 "_law_bounded" pBd (spBounded K)) (D_l_condition : Cal P w K mg base 14 "_law_condition" pTx (spCL K 2)) (D_l_body : Cal P w K mg base r "_law_body" pTx spB) : FnOk P w K mg base CX0 (r + 1) f fd pTx (spStmt K dp) := by
  obtain ⟨g_l_draw, gd_l_draw, G_l_draw, b_l_draw, k_l_draw, m_l_draw⟩ := D_l_draw.ex
  obtain ⟨g_l_names, gd_l_names, G_l_names, b_l_names, k_l_names, m_l_names⟩ := D_l_names.ex
  obtain ⟨g_l_bounded, gd_l_bounded, G_l_bounded, b_l_bounded, k_l_bounded, m_l_bounded⟩ := D_l_bounded.ex
  obtain ⟨g_l_condition, gd_l_condition, G_l_condition, b_l_condition, k_l_condition, m_l_condition⟩ := D_l_condition.ex
  obtain ⟨g_l_body, gd_l_body, G_l_body, b_l_body, k_l_body, m_l_body⟩ := D_l_body.ex
  refine F.ok sc_l_statement (fun vs H Q EX h => ?_) (fun cdv A outer s H vs Q EX hr h => ?_)
  · obtain ⟨tp, kd, R, HS, Vs, v, hl, vl, gv, n, b, rfl, _⟩ := h
    rfl
  obtain ⟨tp, kd, R, HS, Vs, v, hl, vl, gv, n, b, rfl, ht, hkit, envS, hn, q⟩ := h
  refine ⟨_, (@pss_cons _ _ _ _ _ (@ps_set _ _ 3 _ _ _ _ sc_l_statement.nd rfl (Or.inl rfl) (@pe_call _ _ _ _ _ _ _ _ _ _ _ _ _ _ _ _ G_l_draw (hr.mono (by omega)) rfl m_l_draw k_l_draw b_l_draw .nil pass0 (@pa_cons _ _ _ _ _ (pv 0) (@pa_cons _ _ _ _ _ pe_int pa_nil (star_of rfl)) (star_of rfl)) (by decide) (star_of rfl) (plain_of rfl)) (swaps_of rfl) (.inr rfl)) (@pss_cons _ _ _ _ _ (@ps_if _ _ _ _ _ _ _ _ (@pt_cmpR _ _ _ _ _ _ _ _ op_lt (pv 3) pe_int (nomark _)) (@pss_cons _ _ _ _ _ (@ps_asg _ _ _ _ _ _ (@pe_ix _ _ _ _ _ _ _ ix_list (@pe_ix _ _ _ _ _ _ _ ix_dict (pv 1) pe_str (fun _ _ => rfl)) (@pe_call _ _ _ _ _ _ _ _ _ _ _ _ _ _ _ _ G_l_draw (hr.mono (by omega)) rfl m_l_draw k_l_draw b_l_draw .nil pass0 (@pa_cons _ _ _ _ _ (pv 0) (@pa_cons _ _ _ _ _ (@pe_callB _ _ _ _ _ _ _ _ _ call_len_seq rfl T.len b_len (@pa_cons _ _ _ _ _ (@pe_ix _ _ _ _ _ _ _ ix_dict (pv 1) pe_str (fun _ _ => rfl)) pa_nil (star_of rfl)) (by decide) (by decide) (star_of rfl) (plain_of rfl)) pa_nil (star_of rfl)) (star_of rfl)) (by decide) (star_of rfl) (plain_of rfl)) (fun _ _ => rfl)) (pg_tup rfl (pgs_cons (pg_name (i := 4) sc_l_statement.nd rfl (Or.inl rfl)) (pgs_cons (pg_name (i := 5) sc_l_statement.nd rfl (Or.inr rfl)) pgs_nil))) rfl rfl rfl) (@pss_one _ _ _ (@ps_ret _ _ _ _ (@pe_tup _ _ _ _ _ (@pa_cons _ _ _ _ _ pe_str (@pa_cons _ _ _ _ _ (pv 4) (@pa_cons _ _ _ _ _ (@pe_call _ _ _ _ _ _ _ _ _ _ _ _ _ _ _ _ G_l_bounded (hr.mono (by omega)) rfl m_l_bounded k_l_bounded b_l_bounded .nil pass0 (@pa_cons _ _ _ _ _ (pv 0) (@pa_cons _ _ _ _ _ (pv 1) (@pa_cons _ _ _ _ _ (pv 5) (@pa_cons _ _ _ _ _ pe_bl pa_nil (star_of rfl)) (star_of rfl)) (star_of rfl)) (star_of rfl)) (by decide) (star_of rfl) (plain_of rfl)) pa_nil (star_of rfl)) (star_of rfl)) (star_of rfl)))))) pss_nil) (@pss_cons _ _ _ _ _ (@ps_if _ _ _ _ _ _ _ _ (@pt_cmpR _ _ _ _ _ _ _ _ op_eq (pv 3) pe_int (nomark _)) (@pss_one _ _ _ (@ps_ret _ _ _ _ (@pe_tup _ _ _ _ _ (@pa_cons _ _ _ _ _ pe_str (@pa_cons _ _ _ _ _ (@pe_ix _ _ _ _ _ _ _ ix_list (@pe_call _ _ _ _ _ _ _ _ _ _ _ _ _ _ _ _ G_l_names (hr.mono (by omega)) rfl m_l_names k_l_names b_l_names .nil pass0 (@pa_cons _ _ _ _ _ (pv 0) (@pa_cons _ _ _ _ _ pe_int pa_nil (star_of rfl)) (star_of rfl)) (by decide) (star_of rfl) (plain_of rfl)) pe_int (fun _ _ => rfl)) (@pa_cons _ _ _ _ _ (@pe_call _ _ _ _ _ _ _ _ _ _ _ _ _ _ _ _ G_l_condition (hr.mono (by omega)) rfl m_l_condition k_l_condition b_l_condition .nil pass0 (@pa_cons _ _ _ _ _ (pv 0) (@pa_cons _ _ _ _ _ (pv 1) (@pa_cons _ _ _ _ _ pe_int pa_nil (star_of rfl)) (star_of rfl)) (star_of rfl)) (by decide) (star_of rfl) (plain_of rfl)) pa_nil (star_of rfl)) (star_of rfl)) (star_of rfl))))) pss_nil) (@pss_cons _ _ _ _ _ (@ps_if _ _ _ _ _ _ _ _ (@pt_cmpR _ _ _ _ _ _ _ _ op_eq (pv 3) pe_int (nomark _)) (@pss_one _ _ _ (@ps_ret _ _ _ _ (@pe_tup _ _ _ _ _ (@pa_cons _ _ _ _ _ pe_str (@pa_cons _ _ _ _ _ (@pe_call _ _ _ _ _ _ _ _ _ _ _ _ _ _ _ _ G_l_bounded (hr.mono (by omega)) rfl m_l_bounded k_l_bounded b_l_bounded .nil pass0 (@pa_cons _ _ _ _ _ (pv 0) (@pa_cons _ _ _ _ _ (pv 1) (@pa_cons _ _ _ _ _ (@pe_ix _ _ _ _ _ _ _ ix_dict (pv 1) pe_str (fun _ _ => rfl)) (@pa_cons _ _ _ _ _ pe_bl pa_nil (star_of rfl)) (star_of rfl)) (star_of rfl)) (star_of rfl)) (by decide) (star_of rfl) (plain_of rfl)) pa_nil (star_of rfl)) (star_of rfl))))) pss_nil) (@pss_cons _ _ _ _ _ (@ps_if _ _ _ _ _ _ _ _ (PW.pt (pw_and (@pt_cmpR _ _ _ _ _ _ _ _ op_lt (pv 3) pe_int (nomark _)) (pw_and1 (@pt_cmpR _ _ _ _ _ _ _ _ op_gt (pv 2) pe_int (nomark _))))) (@pss_cons _ _ _ _ _ (@ps_set _ _ 6 _ _ _ _ sc_l_statement.nd rfl (Or.inl rfl) (@pe_call _ _ _ _ _ _ _ _ _ _ _ _ _ _ _ _ G_l_condition (hr.mono (by omega)) rfl m_l_condition k_l_condition b_l_condition .nil pass0 (@pa_cons _ _ _ _ _ (pv 0) (@pa_cons _ _ _ _ _ (pv 1) (@pa_cons _ _ _ _ _ pe_int pa_nil (star_of rfl)) (star_of rfl)) (star_of rfl)) (by decide) (star_of rfl) (plain_of rfl)) (swaps_of rfl) (.inr rfl)) (@pss_cons _ _ _ _ _ (@ps_set _ _ 7 _ _ _ _ sc_l_statement.nd rfl (Or.inl rfl) (@pe_call _ _ _ _ _ _ _ _ _ _ _ _ _ _ _ _ G_l_body (hr.mono (by omega)) rfl m_l_body k_l_body b_l_body .nil pass0 (@pa_cons _ _ _ _ _ (pv 0) (@pa_cons _ _ _ _ _ (pv 1) (@pa_cons _ _ _ _ _ (@pe_op _ _ _ _ _ _ _ _ op_sub (pv 2) pe_int) pa_nil (star_of rfl)) (star_of rfl)) (star_of rfl)) (by decide) (star_of rfl) (plain_of rfl)) (swaps_of rfl) (.inr rfl)) (@pss_cons _ _ _ _ _ (@ps_if _ _ _ _ _ _ _ _ (@pt_cmpR _ _ _ _ _ _ _ _ op_eq (pv 3) pe_int (nomark _)) (@pss_one _ _ _ (@ps_ret _ _ _ _ (@pe_tup _ _ _ _ _ (@pa_cons _ _ _ _ _ pe_str (@pa_cons _ _ _ _ _ (pv 6) (@pa_cons _ _ _ _ _ (pv 7) pa_nil (star_of rfl)) (star_of rfl)) (star_of rfl))))) pss_nil) (@pss_one _ _ _ (@ps_ret _ _ _ _ (@pe_tup _ _ _ _ _ (@pa_cons _ _ _ _ _ pe_str (@pa_cons _ _ _ _ _ (pv 6) (@pa_cons _ _ _ _ _ (pv 7) (@pa_cons _ _ _ _ _ (@pe_call _ _ _ _ _ _ _ _ _ _ _ _ _ _ _ _ G_l_body (hr.mono (by omega)) rfl m_l_body k_l_body b_l_body .nil pass0 (@pa_cons _ _ _ _ _ (pv 0) (@pa_cons _ _ _ _ _ (pv 1) (@pa_cons _ _ _ _ _ (@pe_op _ _ _ _ _ _ _ _ op_sub (pv 2) pe_int) pa_nil (star_of rfl)) (star_of rfl)) (star_of rfl)) (by decide) (star_of rfl) (plain_of rfl)) pa_nil (star_of rfl)) (star_of rfl)) (star_of rfl)) (star_of rfl)))))))) pss_nil) (@pss_cons _ _ _ _ _ (@ps_for _ _ _ _ _ _ _ _ PassesOwn.never rfl (pi_list (@pe_slice _ _ _ _ _ _ _ _ _ _ sl_list (@pe_ix _ _ _ _ _ _ _ ix_dict (pv 1) pe_str (fun _ _ => rfl)) (po_some (pe_call G_l_draw (hr.mono (by omega)) rfl m_l_draw k_l_draw b_l_draw .nil pass0 (pa_cons (pv 0) (pa_cons (pe_callB call_len_seq rfl T.len b_len (pa_cons (pe_ix ix_dict (pv 1) pe_str (fun _ _ => rfl)) pa_nil)) pa_nil)))) po_none)) (pg_tup rfl (pgs_cons (pg_name (i := 4) sc_l_statement.nd rfl (Or.inl rfl)) (pgs_cons (pg_name (i := 8) sc_l_statement.nd rfl (Or.inl rfl)) (pgs_cons (pg_name (i := 9) sc_l_statement.nd rfl (Or.inl rfl)) (pgs_cons (pg_name (i := 5) sc_l_statement.nd rfl (Or.inr rfl)) pgs_nil))))) (@pss_cons _ _ _ _ _ (ps_comp (i := 10) (N' := nb_l_statement_1) (ρ := [none, none, some 5]) (m := 2) (BlkOk.of (fs := defScope s_l_statement) (N := n_l_statement) rfl rfl (by decide +kernel)) sc_l_statement.nd rfl (Or.inl rfl) rfl (pi_list (pe_ix ix_dict (pv 1) pe_str (fun _ _ => rfl))) (fun _ _ _ _ => (pg_tupK (n := 2) (K := K) rfl rfl (pgs_cons (pg_name (i := 0) ndb_l_statement_1 rfl (Or.inl rfl)) (pgs_cons (pg_name (i := 1) ndb_l_statement_1 rfl (Or.inl rfl)) pgs_nil)))) (fun _ _ _ _ => (pts_one (pt_cmpR op_eq (pv 1) (pv 2) (nomark _)))) (fun _ _ _ _ => (pv 0))) (@pss_one _ _ _ (@ps_if _ _ _ _ _ _ _ _ (@pt_cmpR _ _ _ _ _ _ _ _ (op_neNil hr.units0) (pv 10) (@pe_lst _ _ _ _ pa_nil) (nomark _)) (@pss_cons _ _ _ _ _ (@ps_set _ _ 11 _ _ _ _ sc_l_statement.nd rfl (Or.inl rfl) (@pe_callTy _ _ _ _ _ _ _ _ _ call_tuple_of rfl T.tuple b_tuple (@pa_cons _ _ _ _ _ (pe_comp (N' := nb_l_statement_0) (ρ := [none, none, some 0, some 1]) (m := 2) (BlkOk.of (fs := defScope s_l_statement) (N := n_l_statement) rfl rfl (by decide +kernel)) rfl (pi_tup (pv 8)) (fun _ _ _ _ => (pg_tupK (n := 2) (K := K) rfl rfl (pgs_cons (pg_name (i := 0) ndb_l_statement_0 rfl (Or.inl rfl)) (pgs_cons (pg_name (i := 1) ndb_l_statement_0 rfl (Or.inl rfl)) pgs_nil)))) (fun _ _ _ _ => pts_nil) (fun _ _ _ _ => (pe_call G_l_bounded (hr.mono (by omega)) rfl m_l_bounded k_l_bounded b_l_bounded .nil pass0 (pa_cons (pv 2) (pa_cons (pv 3) (pa_cons (pv 1) (pa_cons pe_bl pa_nil))))))) pa_nil (star_of rfl)) (by decide) (by decide) (star_of rfl) (plain_of rfl)) (swaps_of rfl) (.inr rfl)) (@pss_one _ _ _ (@ps_ret _ _ _ _ (@pe_tup _ _ _ _ _ (@pa_cons _ _ _ _ _ pe_str (@pa_cons _ _ _ _ _ (@pe_ix _ _ _ _ _ _ _ ix_list (pv 10) (@pe_call _ _ _ _ _ _ _ _ _ _ _ _ _ _ _ _ G_l_draw (hr.mono (by omega)) rfl m_l_draw k_l_draw b_l_draw .nil pass0 (@pa_cons _ _ _ _ _ (pv 0) (@pa_cons _ _ _ _ _ (@pe_callB _ _ _ _ _ _ _ _ _ call_len_seq rfl T.len b_len (@pa_cons _ _ _ _ _ (pv 10) pa_nil (star_of rfl)) (by decide) (by decide) (star_of rfl) (plain_of rfl)) pa_nil (star_of rfl)) (star_of rfl)) (by decide) (star_of rfl) (plain_of rfl)) (fun _ _ => rfl)) (@pa_cons _ _ _ _ _ (pv 4) (@pa_cons _ _ _ _ _ (pv 11) pa_nil (star_of rfl)) (star_of rfl)) (star_of rfl)) (star_of rfl)))))) pss_nil))) (fun _ => rfl)) (@pss_one _ _ _ (@ps_ret _ _ _ _ (@pe_tup _ _ _ _ _ (@pa_cons _ _ _ _ _ pe_str (@pa_cons _ _ _ _ _ pe_str (@pa_cons _ _ _ _ _ (@pe_call _ _ _ _ _ _ _ _ _ _ _ _ _ _ _ _ G_l_condition (hr.mono (by omega)) rfl m_l_condition k_l_condition b_l_condition .nil pass0 (@pa_cons _ _ _ _ _ (pv 0) (@pa_cons _ _ _ _ _ (pv 1) (@pa_cons _ _ _ _ _ pe_int pa_nil (star_of rfl)) (star_of rfl)) (star_of rfl)) (by decide) (star_of rfl) (plain_of rfl)) pa_nil (star_of rfl)) (star_of rfl)) (star_of rfl))))))))))), ?_⟩
  have env := envS.env
  have kt := hkit.ne ht
  obtain ⟨vs, hvl, pvs⟩ := hkit.2.vv
  obtain ⟨hs, hhl, phs⟩ := hkit.2.hh
  have vt := hkit.2.vt
  have hht := hkit.2.ht
  have lvs := Paired.length pvs
  have lV := env.vl
  have lV1 := envS.v1
  have lhs := Paired.length phs
  have lH1 := envS.hs.l1
  have lH3 := envS.hs.l3
  have b2v : bm 2 ≤ 16000 := by decide
  have bc2v : bc 2 ≤ 100000 := by decide
  have bcm : bc 1 ≤ bc 2 := by decide
  have bb2 : 2 * bm 2 + 100 ≤ bc 2 := by decide
  have eBS : BS = bc 2 + 200 := rfl
  have mS0 : 17 ≤ mS dp := by unfold mS; omega
  have one : ∀ {u : V} {s : S} {H' : Hp}, Gk tp kd H H' → (∃ b', KitX tp H' kd R HS Vs v hl vl gv n b') → s.cnt = 1 → DT K H' u s.d → OkS R HS Vs gv s → NS dp s → Q u H' := fun {u s H'} a1 a2 a3 a4 a5 a6 => q u s H' n a1 a2 hn (by rw [a3]; rfl) a4 a5 a6
  refine ⟨_, rfl, tp, 9, rfl, ht, by decide, by decide, fun way H1 w0 w1 x1 t1 y1 => ?_⟩
  have G1 : Go tp H H1 := ⟨x1, t1, y1⟩
  have K1 := hkit.go ht G1
  have GK1 := Gk.of_go hkit.1 ht G1
  have hvl1 := x1 _ _ vt hvl
  have hhl1 := x1 _ _ hht hhl
  refine ⟨_, rfl, _, _, rfl, rfl, _, rfl, ?_⟩
  refine ite2 (fun c1 => ?_) (fun c1 => ?_)
  · refine ⟨_, rfl, kd, _, _, _, rfl, rfl, K1.1, rfl, _, rfl, _, rfl, kd, _, _, _, rfl, rfl, K1.1, rfl, vl, vs, rfl, .inl (SqL.of hvl1), tp, _, rfl, t1, by omega, by omega, fun v3 H3 f0 f1 x3 t3 y3 => ?_⟩
    have G3 := G1.trans ⟨x3, t3, y3⟩
    obtain ⟨u, hu, hat3, hat4⟩ := atI_ex (xs := vs) (i := v3) f0 f1
    obtain ⟨fl, hfl, hfa⟩ := paired_at pvs _ u hat3
    obtain ⟨cf, rfl, hcf⟩ := hfa.mono (G3.tk ht)
    have hfm := List.mem_of_getElem? hfl
    refine ⟨vl, _, _, _, rfl, rfl, SqL.of (x3 _ _ vt hvl1), hat4, cf, _, rfl, SqT.of hcf, rfl, _, _, rfl, _, _, rfl, rfl, ?_⟩
    refine ⟨_, rfl, _, rfl, _, rfl, _, rfl, tp, kd, fl.2, R, HS, Vs, v, hl, vl, gv, n, b, true, rfl, G3.t, hkit.go ht G3, env, envS.vk fl hfm, fun u4 e4 H4 G4 K4 de oe ne ni => ⟨(by show 3 ≤ sizeLine; decide), fun p hp => ?_⟩⟩
    refine one (s := .let_ fl.1 e4) (((Gk.of_go hkit.1 ht G3).trans G4).new hp _) ⟨_, K4.go G4.t ((Go.refl G4.t).new hp _)⟩ rfl (.tup (.inl upd_same) (.cons (.str _) (.cons (.str _) (.cons (de.mono (tk_new hp _)) .nil)))) ⟨fl.2, hfm, oe⟩ ?_
    exact ns1 rfl (nice3 ((wd "let" (by decide +kernel)).up (Nat.zero_le 12)) ((nW (pool_wd (env.vn fl hfm))).up (Nat.zero_le 12)) ni) (by omega) (by omega)
  refine ⟨_, rfl, rfl, _, rfl, ?_⟩
  refine ite2 (fun c2 => ?_) (fun c2 => ?_)
  · refine ⟨_, rfl, tp, 1, rfl, t1, by decide, by decide, fun nl ln H3 G3 nl0 hnl hln hpln _ => ?_⟩
    obtain ⟨z, rfl⟩ : ∃ z, ln = [z] := by
      cases ln with
      | nil => simp at hln
      | cons z r =>
        cases r with
        | nil => exact ⟨z, rfl⟩
        | cons _ _ => simp at hln
    have G13 := G1.trans G3
    refine ⟨nl, _, _, _, rfl, rfl, SqL.of hnl, at0 _ _, _, rfl, _, rfl, 2, Nat.le_refl _, tp, kd, R, HS, Vs, v, hl, vl, gv, n, b, rfl, G13.t, hkit.go ht G13, env, fun u4 c4 H4 G4 K4 dc oc nc => ⟨(by show 3 ≤ sizeLine; decide), fun p hp => ?_⟩⟩
    obtain ⟨b4, K4⟩ := K4
    refine one (s := .say z c4) (((Gk.of_go hkit.1 ht G13).trans G4).new hp _) ⟨_, K4.go G4.t ((Go.refl G4.t).new hp _)⟩ rfl (.tup (.inl upd_same) (.cons (.str _) (.cons (.str _) (.cons (dc.mono (tk_new hp _)) .nil)))) ⟨hpln z (List.mem_singleton.mpr rfl), oc⟩ ?_
    exact ns1 rfl (nice3 ((wd "say" (by decide +kernel)).up (Nat.zero_le _)) ((nW (pool_wd (hpln z (List.mem_singleton.mpr rfl)))).up (Nat.zero_le _)) nc) (by omega) (by omega)
  refine ⟨_, rfl, rfl, _, rfl, ?_⟩
  refine ite2 (fun c3 => ?_) (fun c3 => ?_)
  · refine ⟨_, rfl, _, rfl, _, rfl, kd, _, _, _, rfl, rfl, K1.1, rfl, tp, kd, gv, R, HS, Vs, v, hl, vl, gv, n, b, true, rfl, t1, K1, env, envS.gk, fun u4 e4 H4 G4 K4 de oe ne ni => ⟨(by show 2 ≤ sizeLine; decide), fun p hp => ?_⟩⟩
    refine one (s := .give e4) ((GK1.trans G4).new hp _) ⟨_, K4.go G4.t ((Go.refl G4.t).new hp _)⟩ rfl (.tup (.inl upd_same) (.cons (.str _) (.cons (de.mono (tk_new hp _)) .nil))) oe ?_
    exact ns1 rfl (nice2 ((wd "give" (by decide +kernel)).up (Nat.zero_le 12)) ni) (by omega) (by omega)
  dsimp only [tNext]
  refine seq_join (fun σ H2 => σ = [some (.ref tp), some (.ref kd), some (.int (dp : Int)), some (.int way), none, none, none, none, none, none, none, none] ∧ H2 = H1) (fun NX hNX => ?_) (fun σ H2 jj => ?_)
  · refine ⟨_, rfl, _, _, rfl, rfl, _, rfl, ?_⟩
    refine ite2 (fun c4 => ?_) (fun c4 => hNX _ _ ⟨rfl, rfl⟩)
    refine ⟨_, rfl, _, _, rfl, rfl, _, rfl, ?_⟩
    refine ite2 (fun c5 => ?_) (fun c5 => hNX _ _ ⟨rfl, rfl⟩)
    have c5' : (0 : Int) < (dp : Int) := of_decide_eq_true c5
    obtain ⟨dd, rfl⟩ : ∃ dd, dp = dd + 1 := ⟨dp - 1, by omega⟩
    have hd1 : (((dd + 1 : Nat) : Int) - 1) = (dd : Int) := by omega
    refine ⟨_, rfl, _, rfl, 1, by decide, tp, kd, R, HS, Vs, v, hl, vl, gv, n, b, rfl, t1, K1, env, fun u4 c4 H4 G4 K4 dc oc nc => ?_⟩
    obtain ⟨b4, K4⟩ := K4
    refine ⟨_, rfl, _, rfl, _, rfl, _, _, rfl, rfl, up dd (by omega) _ _ _ _ ⟨tp, kd, R, HS, Vs, v, hl, vl, gv, n, b4, (show [V.ref tp, V.ref kd, V.int (((dd + 1 : Nat) : Int) - 1)] = _ by rw [hd1]), G4.t, K4, envS, hn, fun aa xa sa H5 n5 G5 K5 hn5 en5 haa dsa osa nsa => ?_⟩⟩
    obtain ⟨b5, K5⟩ := K5
    have G15 := (GK1.trans G4).trans G5
    refine ⟨_, rfl, rfl, _, rfl, ?_⟩
    refine ite2 (fun c6 => ?_) (fun c6 => ?_)
    · refine ⟨_, rfl, _, rfl, (by show 3 ≤ sizeLine; decide), fun p hp => ?_⟩
      have kp := tk_new hp (.tup [.str "while", u4, .ref aa])
      refine q (.ref p) (.while_ c4 sa) _ n5 (G15.new hp _) ⟨b5, K5.go G5.t ((Go.refl G5.t).new hp _)⟩ hn5 (by simp only [S.cnt]; omega) (.tup (.inl upd_same) (.cons (.str _) (.cons (dc.mono (G5.k.trans kp)) (.cons (.tup (.inl (kp _ _ haa)) (dsa.mono kp)) .nil)))) ⟨oc, osa⟩ ?_
      have nt := (nices_ss nsa).tup
      show Nice _ _ _
      simp only [S.cnt, S.d]
      refine (nice3 (m := mS dd + 1) ((wd "while" (by decide +kernel)).up (Nat.zero_le _)) (nc.up (by unfold mS; omega)) nt).mono (by unfold mS; omega) ?_
      rw [Nat.add_mul]
      omega
    · refine ⟨_, rfl, _, rfl, _, rfl, _, rfl, _, rfl, _, _, rfl, rfl, up dd (by omega) _ _ _ _ ⟨tp, kd, R, HS, Vs, v, hl, vl, gv, n5, b5, (show [V.ref tp, V.ref kd, V.int (((dd + 1 : Nat) : Int) - 1)] = _ by rw [hd1]), G5.t, K5, envS, hn5, fun ab xb sb H6 n6 G6 K6 hn6 en6 hab dsb osb nsb => ⟨(by show 4 ≤ sizeLine; decide), fun p hp => ?_⟩⟩⟩
      obtain ⟨b6, K6⟩ := K6
      have kp := tk_new hp (.tup [.str "if", u4, .ref aa, .ref ab])
      refine q (.ref p) (.if_ c4 sa sb) _ n6 ((G15.trans G6).new hp _) ⟨b6, K6.go G6.t ((Go.refl G6.t).new hp _)⟩ hn6 (by simp only [S.cnt]; omega) (.tup (.inl upd_same) (.cons (.str _) (.cons (dc.mono ((G5.k.trans G6.k).trans kp)) (.cons (.tup (.inl (kp _ _ (G6.k _ _ haa))) (dsa.mono (G6.k.trans kp))) (.cons (.tup (.inl (kp _ _ hab)) (dsb.mono kp)) .nil))))) ⟨oc, osa, osb⟩ ?_
      have nt := (nices_ss nsa).tup
      have nt2 := (nices_ss nsb).tup
      show Nice _ _ _
      simp only [S.cnt, S.d]
      refine (nice4 (m := mS dd + 1) ((wd "if" (by decide +kernel)).up (Nat.zero_le _)) (nc.up (by unfold mS; omega)) nt nt2).mono (by unfold mS; omega) ?_
      rw [Nat.add_mul, Nat.add_mul]
      omega
  obtain ⟨rfl, rfl⟩ := jj
  refine ⟨_, rfl, kd, _, _, _, rfl, rfl, K1.1, rfl, _, rfl, _, rfl, kd, _, _, _, rfl, rfl, K1.1, rfl, hl, hs, rfl, .inl (SqL.of hhl1), tp, _, rfl, t1, by omega, by omega, fun vi H3 f0 f1 x3 t3 y3 => ?_⟩
  have G3 := G1.trans ⟨x3, t3, y3⟩
  obtain ⟨iN, rfl⟩ : ∃ iN : Nat, vi = iN := ⟨vi.toNat, by omega⟩
  refine ⟨_, rfl, hl, _, rfl, SqL.of (x3 _ _ hht hhl1), fun ps hps => ?_⟩
  rw [cutR]
  have gP := same_new hps (.lst (hs.drop iN))
  have G4 := G3.trans (Go.same G3.t gP)
  have K4 := hkit.go ht G4
  have GK4 := Gk.of_go hkit.1 ht G4
  have hvl4 := G4.x _ _ vt hvl
  have phs4 := Paired.mapP (Paired.drop' iN phs) fun _ _ z => HeadAt.mono (G4.tk ht) z
  have pvs4 := Paired.mapP pvs fun _ _ z => FldAt.mono (G4.tk ht) z
  refine ⟨ps, rfl, ⟨_, SqL.of upd_same⟩, for_list (xs := hs.drop iN) (fun i σ H' => ∃ m4 m5 m8 m9 m10, σ = [some (.ref tp), some (.ref kd), some (.int (dp : Int)), some (.int way), m4, m5, none, none, m8, m9, m10, none] ∧ Same (L2.upd H3 ps (.lst (hs.drop iN))) H') ⟨none, none, none, none, none, rfl, Same.refl _⟩ (fun i σ H' _ p => ?_) (fun i x σ H' hx p => ?_) (fun σ H' p => ?_)⟩
  · obtain ⟨_, _, _, _, _, _, gg⟩ := p
    exact SqL.of (gg _ _ upd_same)
  · obtain ⟨m4, m5, m8, m9, m10, rfl, gg⟩ := p
    have G5 := G4.trans (Go.same G4.t gg)
    have K5 := hkit.go ht G5
    obtain ⟨hd, hhd, hha⟩ := paired_at phs4 i x hx
    obtain ⟨ca, cp, cq, rfl, hca, pfl, qfl⟩ := hha.mono (tk_same gg)
    have hdm : hd ∈ HS := List.mem_of_mem_drop (List.mem_of_getElem? hhd)
    have hok := envS.hs.ok hd hdm
    obtain ⟨pa, px, rfl, hpa, ppx⟩ := pfl
    have lpx : px.length ≤ 2 := by rw [Paired.length ppx]; exact hok.p2
    refine ⟨ca, _, rfl, SqT.of hca, rfl, _, _, rfl, _, _, rfl, _, _, rfl, _, _, rfl, rfl, ?_⟩
    have hvl5 := gg _ _ hvl4
    refine ⟨_, rfl, kd, _, _, _, rfl, rfl, K5.1, rfl, vl, rfl, ⟨_, SqL.of hvl5⟩, comp_list (xs := vs) vs.length rfl (by omega) (fun i acc H2 => H2 = H' ∧ ∃ ss : List Str, acc = ss.map V.str ∧ ∀ z ∈ ss, (z, hd.2.2.2) ∈ Vs) ⟨rfl, [], rfl, fun _ z => nomatch z⟩ (fun i acc H2 p => by rw [p.1]; exact SqL.of hvl5) (fun i acc H2 x hi la hx p => ?_) (fun acc H2 p la D hD => ?_)⟩
    · obtain ⟨rfl, ss, rfl, hss⟩ := p
      obtain ⟨fl, hfl, hfa⟩ := paired_at pvs4 i x hx
      obtain ⟨c, rfl, hc⟩ := hfa.mono (tk_same gg)
      refine ⟨c, _, rfl, SqT.of hc, rfl, _, _, rfl, _, _, rfl, rfl, ⟨rfl, rfl⟩, ⟨_, rfl, _, rfl, rfl, _, rfl, ?_⟩⟩
      refine ite2 (fun d1 => ?_) (fun d1 => nxF hi la ⟨rfl, ss, rfl, hss⟩)
      refine ⟨_, rfl, nxT (by omega) hi la ⟨rfl, ss ++ [fl.1], by simp, fun z hz => ?_⟩⟩
      rcases List.mem_append.mp hz with hz | hz
      · exact hss z hz
      · rw [List.mem_singleton.mp hz, ← eqS d1]
        exact List.mem_of_getElem? hfl
    obtain ⟨rfl, ss, rfl, hss⟩ := p
    have sl : ss.length ≤ 5 := by rw [List.length_map] at la; omega
    have gD := same_new hD (.lst (ss.map V.str))
    refine ⟨_, rfl, (by show 0 ≤ sizeLine; decide), fun pe hpe => ?_⟩
    have gE := same_new hpe (.lst [])
    have gDE := gD.trans gE
    have eD : (upd (upd H2 D (.lst (ss.map V.str))) pe (.lst [])) D = some (.lst (ss.map V.str)) := gE _ _ upd_same
    refine ⟨D, pe, _, rfl, rfl, SqL.of eD, SqL.of upd_same, _, rfl, ?_⟩
    refine ite2 (fun c6 => ?_) (fun c6 => ⟨_, _, _, _, _, rfl, gg.trans gDE⟩)
    have sp : 0 < ss.length := by
      cases ss with
      | nil => exact absurd c6 (by decide)
      | cons _ _ => simp
    have G6 := G5.trans (Go.same G5.t gDE)
    have K6 := hkit.go ht G6
    have GK6 := Gk.of_go hkit.1 ht G6
    have hDt : D ≠ tp := G5.t.nt hD
    have hDk : D ≠ kd := (ne_of_none K5.1 hD).symm
    have hpa6 := gDE _ _ hpa
    have ppx6 := Paired.mapP ppx fun _ _ z => FldAt.mono (tk_same gDE) z
    refine ⟨_, rfl, pa, rfl, ⟨px, SqT.of hpa6⟩, comp_tup (xs := px) px.length rfl (by omega) (fun i acc H7 => Gk tp kd (upd (upd H2 D (.lst (ss.map V.str))) pe (.lst [])) H7 ∧ (∃ b', KitX tp H7 kd R HS Vs v hl vl gv n b') ∧ ∃ es : List E, DTs K H7 acc (E.ds es) ∧ OkL R Vs es ((hd.2.1.take i).map (·.2)) ∧ ∀ e ∈ es, Nice 12 (bm 2) e.d)
      ⟨Gk.of_go K6.1 G6.t (Go.refl G6.t), ⟨b, K6⟩, [], by simp only [E.ds]; exact .nil, by simp only [List.take_zero, List.map_nil, OkL], fun _ z => nomatch z⟩ (fun i acc H7 p => SqT.of (p.1.k _ _ hpa6)) (fun i acc H7 x hi la hx p => ?_) (fun acc H7 p la D2 hD2 => ?_)⟩
    · obtain ⟨G7, ⟨b7, K7⟩, es, des, oks, ns⟩ := p
      obtain ⟨fl, hfl, hfa⟩ := paired_at ppx6 i x hx
      obtain ⟨cf, rfl, hcf⟩ := hfa.mono G7.k
      have hfK : fl.2 ∈ KS R := (hok.vs fl (List.mem_append_left _ (List.mem_of_getElem? hfl))).2
      refine ⟨cf, _, rfl, SqT.of hcf, rfl, _, _, rfl, _, _, rfl, rfl, ⟨rfl, rfl⟩, tTrue_i ⟨_, rfl, _, rfl, _, rfl, tp, kd, fl.2, R, HS, Vs, v, hl, vl, gv, n, b7, true, rfl, G7.t, K7, env, hfK, fun u8 e8 H8 G8 K8 de oe ne ni => nxT (by omega) hi la ⟨G7.trans G8, ⟨_, K8⟩, es ++ [e8], ?_, ?_, fun y hy => ?_⟩⟩⟩
      · rw [E.ds_snoc]
        exact DTs.snoc de (des.mono G8.k)
      · rw [List.take_add_one, hfl, List.map_append]
        exact OkL.snoc oe oks
      · rcases List.mem_append.mp hy with hy | hy
        · exact ns y hy
        · rw [List.mem_singleton.mp hy]; exact ni
    · obtain ⟨G7, ⟨b7, K7⟩, es, des, oks, ns⟩ := p
      rw [Paired.length ppx, List.take_length] at oks
      have les : es.length ≤ 2 := by rw [← E.ds_len, ← des.len]; omega
      refine ⟨D2, _, rfl, .inl ⟨SqL.of upd_same, fun lt hlt => ?_⟩⟩
      have sA := (same_new hD2 (.lst acc)).trans (same_new hlt (.tup acc))
      have G8 := G7.same sA
      have eD8 := G8.x _ _ hDt hDk eD
      have K8 : KitX tp (L2.upd (L2.upd H7 D2 (.lst acc)) lt (.tup acc)) kd R HS Vs v hl vl gv n b7 := K7.go G7.t (Go.same G7.t sA)
      refine ⟨_, rfl, _, rfl, _, rfl, D, _, rfl, .inl (SqL.of eD8), tp, _, rfl, G8.t, by rw [List.length_map]; omega, by rw [List.length_map]; omega, fun vj H9 j0 j1 x9 t9 y9 => ?_⟩
      have G9 : Go tp (L2.upd (L2.upd H7 D2 (.lst acc)) lt (.tup acc)) H9 := ⟨x9, t9, y9⟩
      obtain ⟨u, hu, _, hat⟩ := atI_ex (xs := ss.map V.str) (i := vj) j0 j1
      obtain ⟨z, hz, rfl⟩ := List.mem_map.mp hu
      refine ⟨D, _, _, _, rfl, rfl, SqL.of (x9 _ _ hDt eD8), hat, _, rfl, _, rfl, (by show 4 ≤ sizeLine; decide), fun p hp => ?_⟩
      have k9 := (G9.tk G8.t).trans (tk_new hp (.tup [.str "call", .str z, .str hd.1, .ref lt]))
      refine one (s := .call z hd.1 es) (((GK6.trans G8).trans (Gk.of_go K8.1 G8.t G9)).new hp _) ⟨b7, (K8.go G8.t G9).go G9.t ((Go.refl G9.t).new hp _)⟩ rfl (.tup (.inl upd_same) (.cons (.str _) (.cons (.str _) (.cons (.str _) (.cons (.tup (.inl (k9 _ _ upd_same)) (des.mono ((tk_same sA).trans k9))) .nil))))) ⟨hd, hdm, rfl, hss z hz, oks⟩ ?_
      have nt := (nices_es ns).tup
      have h1 : es.length * (bm 2 + 2) ≤ 2 * (bm 2 + 2) := Nat.mul_le_mul_right _ les
      exact ns1 rfl (nice4 (m := 13) ((wd "call" (by decide +kernel)).up (Nat.zero_le _)) ((nW (pool_wd (env.vn _ (hss z hz)))).up (Nat.zero_le _)) ((nW (pool_wd hok.nm)).up (Nat.zero_le _)) nt) (by omega) (by omega)
  · obtain ⟨m4, m5, m8, m9, m10, rfl, gg⟩ := p
    have G5 := G4.trans (Go.same G4.t gg)
    refine ⟨_, rfl, _, rfl, 2, Nat.le_refl _, tp, kd, R, HS, Vs, v, hl, vl, gv, n, b, rfl, G5.t, hkit.go ht G5, env, fun u6 c6 H6 G6 K6 dc oc nc => ⟨(by show 3 ≤ sizeLine; decide), fun p hp => ?_⟩⟩
    obtain ⟨b6, K6⟩ := K6
    refine one (s := .say "x" c6) (((Gk.of_go hkit.1 ht G5).trans G6).new hp _) ⟨_, K6.go G6.t ((Go.refl G6.t).new hp _)⟩ rfl (.tup (.inl upd_same) (.cons (.str _) (.cons (.str _) (.cons (dc.mono (tk_new hp _)) .nil)))) ⟨by decide +kernel, oc⟩ ?_
    exact ns1 rfl (nice3 ((wd "say" (by decide +kernel)).up (Nat.zero_le _)) ((wd "x" (by decide +kernel)).up (Nat.zero_le _)) nc) (by omega) (by omega)
end
end K6

set_option Elab.async false
set_option linter.all false
set_option maxRecDepth 100000
set_option maxHeartbeats 4000000
namespace K6
open PySem L2
theorem cnts_len : ∀ ss : List S, ss.length ≤ S.cnts ss
  | [] => Nat.zero_le _
  | s :: r => by
    have := s.cnt_pos
    have := cnts_len r
    simp only [List.length_cons, S.cnts]
    omega
abbrev Func := Head × List S
def FunAt (K : PySem.W.Frag) (H : Hp) (v : V) (F : Func) : Prop := ∃ a p q bb xs, v = .ref a ∧ H a = some (.tup [.str F.1.1, p, q, .str F.1.2.2.2, .ref bb]) ∧ FldsAt H p F.1.2.1 ∧ FldsAt H q F.1.2.2.1 ∧ H bb = some (.tup xs) ∧ DTs K H xs (S.ds F.2)
theorem FunAt.mono {K : PySem.W.Frag} {H H' : Hp} (t : Tk H H') {v : V} {F : Func} (h : FunAt K H v F) : FunAt K H' v F := let ⟨a, p, q, bb, xs, e, h1, h2, h3, h4, h5⟩ := h; ⟨a, p, q, bb, xs, e, t _ _ h1, h2.mono t, h3.mono t, t _ _ h4, h5.mono t⟩
def PgAt (K : PySem.W.Frag) (H : Hp) (v : V) (R : List Rec) (FS : List Func) : Prop := ∃ a y z fx, v = .ref a ∧ H a = some (.tup [y, .ref z]) ∧ RecsAt H y R ∧ H z = some (.tup fx) ∧ Paired (FunAt K H) fx FS
theorem PgAt.mono {K : PySem.W.Frag} {H H' : Hp} (t : Tk H H') {v : V} {R : List Rec} {FS : List Func} (h : PgAt K H v R FS) : PgAt K H' v R FS := let ⟨a, y, z, fx, e, h1, h2, h3, h4⟩ := h; ⟨a, y, z, fx, e, t _ _ h1, h2.mono t, t _ _ h3, Paired.mapP h4 fun _ _ q => q.mono t⟩
structure FOk (R : List Rec) (HS : List Head) (F : Func) : Prop where
  ok : OkSs R HS (F.1.2.1 ++ F.1.2.2.1) F.1.2.2.2 F.2
  c8 : S.cnts F.2 ≤ 8
  ns : ∀ s ∈ F.2, NS 3 s
structure PgOk (R : List Rec) (HS : List Head) (FS : List Func) : Prop where
  g : GoodR R
  nd : (R.map (·.1)).Nodup
  rl : R.length ≤ 3
  hs : HsOk R HS
  eh : FS.map (·.1) = HS
  ok : ∀ F ∈ FS, FOk R HS F
theorem envS_of {R : List Rec} {HS : List Head} {h : Head} (g : GoodR R) (nd : (R.map (·.1)).Nodup) (rl : R.length ≤ 3) (hs : HsOk R HS) (hm : h ∈ HS) : EnvS R HS (h.2.1 ++ h.2.2.1) h.2.2.2 := by
  have o := hs.ok h hm
  exact ⟨⟨rl, g, nd, fun p hp => (o.vs p hp).1, o.l5⟩, hs, fun p hp => (o.vs p hp).2, o.l1, o.gv⟩
theorem paired_at' {α β : Type} {F : α → β → Prop} : ∀ {l : List α} {m : List β}, Paired F l m → ∀ (j : Nat) b, m[j]? = some b → ∃ a, l[j]? = some a ∧ F a b
  | _, _, .nil, _, _, h => by simp at h
  | _, _, .cons h t, 0, _, h1 => by simp at h1; subst h1; exact ⟨_, rfl, h⟩
  | _, _, .cons h t, j + 1, _, h1 => by
    obtain ⟨b, e, q⟩ := paired_at' t j _ (by simpa using h1)
    exact ⟨b, by simpa using e, q⟩
section
variable {P : Program} {w : World} {K : PySem.W.Frag} {mg : Str → Option Value} {base : Heap} {f g : Addr} {fd gd : FuncData}
def spKit : Sp := fun vs H Q _ => ∃ v hl hs R HS, ∃ i : Nat, ∃ h : Head, vs = [v, .ref hl, .int (i : Int)] ∧ RecsAt H v R ∧ H hl = some (.lst hs) ∧ Paired (HeadAt H) hs HS ∧ HS[i]? = some h ∧ h.2.1.length + h.2.2.1.length ≤ 1000 ∧
  ∀ kd vl xs H', Same H H' → H kd = none → H vl = none → H' kd = some (.dK (kitL v hl vl h.2.2.2 8 true)) → H' vl = some (.lst xs) → Paired (FldAt H') xs (h.2.1 ++ h.2.2.1) → Q (.ref kd) H'
abbrev pKt : List Str := ["_law_records_here", "_law_heads_here", "_law_f"]
abbrev n_l_kit : List Str := ["_law_records_here", "_law_heads_here", "_law_f", "_law_head"]
theorem sc_l_kit : FnScope n_l_kit ["_law_records_here", "_law_heads_here", "_law_f"] (defScope s_l_kit) := ⟨rfl, rfl, rfl, by decide +kernel, rfl, by decide +kernel, by decide +kernel⟩
theorem ok_kit (T : G0 mg) (F : Fun K "_law_kit" "_law_kit" s_l_kit f fd) : FnOk P w K mg base CX0 1 f fd pKt spKit := by
  refine F.ok sc_l_kit (fun vs H Q EX h => ?_) (fun cdv A outer s H vs Q EX hr h => ?_)
  · obtain ⟨v, hl, hs, R, HS, i, h, rfl, _⟩ := h
    rfl
  obtain ⟨v, hl, hs, R, HS, i, h, rfl, hR, hhl, phs, hi, hln, q⟩ := h
  refine ⟨_, (@pss_cons _ _ _ _ _ (@ps_set _ _ 3 _ _ _ _ sc_l_kit.nd rfl (Or.inl rfl) (@pe_ix _ _ _ _ _ _ _ ix_list (pv 1) (pv 2) (fun _ _ => rfl)) (swaps_of rfl) (.inr rfl)) (@pss_one _ _ _ (@ps_ret _ _ _ _ (@pe_disp _ _ _ _ _ (@pps_cons _ _ _ _ _ _ _ _ _ pe_str (pv 0) (@pps_cons _ _ _ _ _ _ _ _ _ pe_str (pv 1) (@pps_cons _ _ _ _ _ _ _ _ _ pe_str (@pe_callTy _ _ _ _ _ _ _ _ _ call_list_of rfl T.list b_list (@pa_cons _ _ _ _ _ (@pe_op _ _ _ _ _ _ _ _ (op_catT.or op_catT0) (@pe_ix _ _ _ _ _ _ _ ix_tup (pv 3) pe_int (fun _ _ => rfl)) (@pe_ix _ _ _ _ _ _ _ ix_tup (pv 3) pe_int (fun _ _ => rfl))) pa_nil (star_of rfl)) (by decide) (by decide) (star_of rfl) (plain_of rfl)) (@pps_cons _ _ _ _ _ _ _ _ _ pe_str (@pe_ix _ _ _ _ _ _ _ ix_tup (pv 3) pe_int (fun _ _ => rfl)) (@pps_cons _ _ _ _ _ _ _ _ _ pe_str pe_int (@pps_cons _ _ _ _ _ _ _ _ _ pe_str pe_bl pps_nil)))))) rfl rfl (by simp) (by decide))))), ?_⟩
  obtain ⟨x, hx, a, cp, cq, rfl, ha, ⟨pa, px, rfl, hpa, ppx⟩, ⟨qa, qx, rfl, hqa, pqx⟩⟩ := paired_at' phs i h hi
  refine ⟨_, rfl, _, rfl, hl, _, _, _, rfl, rfl, SqL.of hhl, atI_nat hx, ?_⟩
  refine fun pd hpd => ?_
  have g0 := same_new hpd (.dK [])
  have ha0 := g0 _ _ ha
  refine ⟨_, rfl, _, rfl, _, rfl, a, _, _, _, rfl, rfl, SqT.of ha0, rfl, _, rfl, a, _, _, _, rfl, rfl, SqT.of ha0, rfl, ?_⟩
  refine cat_of (g0 _ _ hpa) (g0 _ _ hqa) (by rw [Paired.length ppx, Paired.length pqx]; exact hln) fun pc H1 g1 hpc => ?_
  refine ⟨pc, _, rfl, .inr (SqT.of hpc), fun vl hvl => ?_⟩
  have g2 := same_new hvl (.lst (px ++ qx))
  have g02 := (g0.trans g1).trans g2
  have hpd2 := g2 _ _ (g1 _ _ (upd_same (H := H) (a := pd) (o := .dK [])))
  refine ⟨_, rfl, a, _, _, _, rfl, rfl, SqT.of (g02 _ _ ha), rfl, hpd2, kitL v hl vl h.2.2.2 8 true, rfl, (by show 6 ≤ 15; decide), ?_⟩
  have hvp : vl ≠ pd := fun z => by rw [z, g1 _ _ (upd_same (H := H) (a := pd) (o := .dK []))] at hvl; cases hvl
  have gF : Same H (upd (upd H1 vl (.lst (px ++ qx))) pd (.dK (mergeK [] (kitL v hl vl h.2.2.2 8 true)))) := fun b o e => by rw [upd_ne (ne_of_none e hpd)]; exact g02 _ _ e
  refine q pd vl (px ++ qx) _ gF hpd ((g0.trans g1).free hvl) upd_same (by rw [upd_ne hvp]; exact upd_same) ?_
  exact Paired.app' (Paired.mapP ppx fun _ _ z => z.mono (tk_same gF)) (Paired.mapP pqx fun _ _ z => z.mono (tk_same gF))
def spProgram (K : PySem.W.Frag) : Sp := fun vs H Q _ => ∃ tp, vs = [.ref tp] ∧ Tp H tp ∧ ∀ v R HS FS H', Go tp H H' → PgAt K H' v R FS → PgOk R HS FS → Q v H'
abbrev n_l_program : List Str := ["_law_tape_here", "_law_records_here", "_law_heads_here", "_law_functions", "_law_f", "_law_kit_here"]
theorem sc_l_program : FnScope n_l_program ["_law_tape_here"] (defScope s_l_program) := ⟨rfl, rfl, rfl, by decide +kernel, rfl, by decide +kernel, by decide +kernel⟩
theorem ok_program (T : G0 mg) (F : Fun K "_law_program" "_law_program" s_l_program f fd) (D_l_records : Cal P w K mg base 3 "_law_records" ["_law_tape_here"] spRecs) (D_l_heads : Cal P w K mg base 3 "_law_heads" ["_law_tape_here", "_law_records_here"] spHeads) (D_l_kit : Cal P w K mg base 1 "_law_kit" pKt spKit) (D_l_body : Cal P w K mg base 22 "_law_body" pTx (spBody K 3)) :
    FnOk P w K mg base CX0 23 f fd ["_law_tape_here"] (spProgram K) := by
  obtain ⟨g_l_records, gd_l_records, G_l_records, b_l_records, k_l_records, m_l_records⟩ := D_l_records.ex
  obtain ⟨g_l_heads, gd_l_heads, G_l_heads, b_l_heads, k_l_heads, m_l_heads⟩ := D_l_heads.ex
  obtain ⟨g_l_kit, gd_l_kit, G_l_kit, b_l_kit, k_l_kit, m_l_kit⟩ := D_l_kit.ex
  obtain ⟨g_l_body, gd_l_body, G_l_body, b_l_body, k_l_body, m_l_body⟩ := D_l_body.ex
  refine F.ok sc_l_program (fun vs H Q EX h => ?_) (fun cdv A outer s H vs Q EX hr h => ?_)
  · obtain ⟨tp, rfl, _⟩ := h
    rfl
  obtain ⟨tp, rfl, ht, q⟩ := h
  refine ⟨_, (@pss_cons _ _ _ _ _ (@ps_set _ _ 1 _ _ _ _ sc_l_program.nd rfl (Or.inl rfl) (@pe_call _ _ _ _ _ _ _ _ _ _ _ _ _ _ _ _ G_l_records (hr.mono (by omega)) rfl m_l_records k_l_records b_l_records .nil pass0 (@pa_cons _ _ _ _ _ (pv 0) pa_nil (star_of rfl)) (by decide) (star_of rfl) (plain_of rfl)) (swaps_of rfl) (.inr rfl)) (@pss_cons _ _ _ _ _ (@ps_set _ _ 2 _ _ _ _ sc_l_program.nd rfl (Or.inl rfl) (@pe_call _ _ _ _ _ _ _ _ _ _ _ _ _ _ _ _ G_l_heads (hr.mono (by omega)) rfl m_l_heads k_l_heads b_l_heads .nil pass0 (@pa_cons _ _ _ _ _ (pv 0) (@pa_cons _ _ _ _ _ (pv 1) pa_nil (star_of rfl)) (star_of rfl)) (by decide) (star_of rfl) (plain_of rfl)) (swaps_of rfl) (.inr rfl)) (@pss_cons _ _ _ _ _ (@ps_set _ _ 3 _ _ _ _ sc_l_program.nd rfl (Or.inl rfl) (@pe_lst _ _ _ _ pa_nil) (swaps_of rfl) (.inr rfl)) (@pss_cons _ _ _ _ _ (@ps_for _ _ _ _ _ _ _ _ PassesOwn.never rfl (pi_range1 rfl T.range (@pa_cons _ _ _ _ _ (@pe_callB _ _ _ _ _ _ _ _ _ call_len_seq rfl T.len b_len (@pa_cons _ _ _ _ _ (pv 2) pa_nil (star_of rfl)) (by decide) (by decide) (star_of rfl) (plain_of rfl)) pa_nil (star_of rfl))) (pg_name (i := 4) sc_l_program.nd rfl (Or.inl rfl)) (@pss_cons _ _ _ _ _ (@ps_set _ _ 5 _ _ _ _ sc_l_program.nd rfl (Or.inl rfl) (@pe_call _ _ _ _ _ _ _ _ _ _ _ _ _ _ _ _ G_l_kit (hr.mono (by omega)) rfl m_l_kit k_l_kit b_l_kit .nil pass0 (@pa_cons _ _ _ _ _ (pv 1) (@pa_cons _ _ _ _ _ (pv 2) (@pa_cons _ _ _ _ _ (pv 4) pa_nil (star_of rfl)) (star_of rfl)) (star_of rfl)) (by decide) (star_of rfl) (plain_of rfl)) (swaps_of rfl) (.inr rfl)) (@pss_one _ _ _ (@ps_expr _ _ _ _ (@pe_bm _ _ _ _ _ _ _ _ _ _ _ _ PySem.F.plainAttrs_list PySem.F.slot_list_append PySem.F.type_list_append mt_append (pv 3) (@pa_cons _ _ _ _ _ (@pe_op _ _ _ _ _ _ _ _ (op_catT.or op_catT0) (@pe_ix _ _ _ _ _ _ _ ix_list (pv 2) (pv 4) (fun _ _ => rfl)) (@pe_tup _ _ _ _ _ (@pa_cons _ _ _ _ _ (@pe_op _ _ _ _ _ _ _ _ (op_catT.or op_catT0) (@pe_call _ _ _ _ _ _ _ _ _ _ _ _ _ _ _ _ G_l_body (hr.mono (by omega)) rfl m_l_body k_l_body b_l_body .nil pass0 (@pa_cons _ _ _ _ _ (pv 0) (@pa_cons _ _ _ _ _ (pv 5) (@pa_cons _ _ _ _ _ pe_int pa_nil (star_of rfl)) (star_of rfl)) (star_of rfl)) (by decide) (star_of rfl) (plain_of rfl)) (@pe_call _ _ _ _ _ _ _ _ _ _ _ _ _ _ _ _ G_l_body (hr.mono (by omega)) rfl m_l_body k_l_body b_l_body .nil pass0 (@pa_cons _ _ _ _ _ (pv 0) (@pa_cons _ _ _ _ _ (pv 5) (@pa_cons _ _ _ _ _ pe_int pa_nil (star_of rfl)) (star_of rfl)) (star_of rfl)) (by decide) (star_of rfl) (plain_of rfl))) pa_nil (star_of rfl)))) pa_nil (star_of rfl)) rfl (few_of rfl rfl) rfl (star_of rfl) (plain_of rfl)) (swaps_of rfl)))) (fun _ => rfl)) (@pss_one _ _ _ (@ps_ret _ _ _ _ (@pe_tup _ _ _ _ _ (@pa_cons _ _ _ _ _ (pv 1) (@pa_cons _ _ _ _ _ (@pe_callTy _ _ _ _ _ _ _ _ _ call_tuple_of rfl T.tuple b_tuple (@pa_cons _ _ _ _ _ (pv 3) pa_nil (star_of rfl)) (by decide) (by decide) (star_of rfl) (plain_of rfl)) pa_nil (star_of rfl)) (star_of rfl))))))))), ?_⟩
  refine ⟨_, rfl, tp, rfl, ht, fun rv R H1 G1 hR hRl hg hnd => ?_⟩
  refine ⟨_, rfl, _, rfl, tp, rv, R, rfl, G1.t, hR, hRl, fun hl hs HS H2 G2 hl0 hhl phs hsok => ?_⟩
  have G12 := G1.trans G2
  have hlt : hl ≠ tp := G1.t.nt hl0
  have hR2 := hR.mono (G2.tk G1.t)
  have lhs := Paired.length phs
  have l3 := hsok.l3
  refine ⟨(by show 0 ≤ sizeLine; decide), fun fl hfl => ?_⟩
  have G3 := G12.new hfl (.lst [])
  have hft : fl ≠ tp := G12.t.nt hfl
  have hfH : H fl = none := G12.free ht hfl
  have hfh : fl ≠ hl := (ne_of_none hhl hfl).symm
  have hhl3 : (L2.upd H2 fl (.lst [])) hl = some (.lst hs) := same_new hfl _ _ _ hhl
  refine ⟨_, rfl, hl, hs, rfl, .inl (SqL.of hhl3), _, rfl, by omega, by omega, for_range (lo := 0) (n := ((hs.length : Nat) : Int).toNat) (fun i σ H' => ∃ m4 m5 fx FS, σ = [some (.ref tp), some rv, some (.ref hl), some (.ref fl), m4, m5] ∧ Go tp H H' ∧ Tk H2 H' ∧ H' hl = some (.lst hs) ∧ H' fl = some (.lst fx) ∧ Paired (FunAt K H') fx FS ∧ FS.map (·.1) = HS.take i ∧ ∀ F ∈ FS, FOk R HS F)
    ⟨none, none, [], [], rfl, G3, tk_new hfl _, hhl3, upd_same, .nil, by simp, fun _ z => nomatch z⟩ (fun i σ H' hi p => ?_) (fun σ H' p => ?_)⟩
  · obtain ⟨m4, m5, fx, FS, rfl, GA, kA, hhA, hfA, pFS, eFS, oFS⟩ := p
    have hi' : i < HS.length := by
      have : i < hs.length := by simpa using hi
      omega
    have hhi : HS[i]? = some HS[i] := List.getElem?_eq_getElem hi'
    generalize HS[i] = h at hhi
    have hm := List.mem_of_getElem? hhi
    have hok := hsok.ok h hm
    have phA := Paired.mapP phs fun _ _ z => HeadAt.mono kA z
    have hRA := hR2.mono kA
    have envS := envS_of hg hnd hRl hsok hm
    have i0 : (0 + (i : Int)) = (i : Int) := Int.zero_add _
    refine ⟨_, rfl, _, rfl, _, rfl, rv, hl, hs, R, HS, i, h, (show [rv, V.ref hl, V.int (0 + (i : Int))] = _ by rw [i0]), hRA, hhA, phA, hhi, by have := hok.l5; rw [List.length_append] at this; omega, fun kd vl xs HB gB kd0 vl0 hkd hvl pxs => ?_⟩
    have tB := GA.t.same gB
    have hkt : kd ≠ tp := GA.t.nt kd0
    have KB : KitX tp HB kd R HS (h.2.1 ++ h.2.2.1) rv hl vl h.2.2.2 8 true := ⟨hkd, hRA.mono (tk_same gB), hlt, GA.t.nt vl0, ⟨hs, gB _ _ hhA, Paired.mapP phA fun _ _ z => z.mono (tk_same gB)⟩, ⟨xs, hvl, pxs⟩⟩
    have hhk : hl ≠ kd := ne_of_none hhA kd0
    have hfk : fl ≠ kd := ne_of_none hfA kd0
    obtain ⟨x, hx, a, cp, cq, rfl, ha, pfl, qfl⟩ := paired_at' phA i h hhi
    refine ⟨_, rfl, .inl ⟨rfl, _, SqL.of (gB _ _ hfA)⟩, _, rfl, _, rfl, hl, _, _, _, rfl, rfl, SqL.of (gB _ _ hhA), atI0 hx, ?_⟩
    refine ⟨_, rfl, _, rfl, tp, kd, R, HS, _, rv, hl, vl, h.2.2.2, 8, true, rfl, tB, KB, envS, by decide, fun a1 x1 s1 H3 n3 G3 K3 hn3 en3 ha1 d1 o1 ns1 => ?_⟩
    obtain ⟨b3, K3⟩ := K3
    refine ⟨_, rfl, _, rfl, tp, kd, R, HS, _, rv, hl, vl, h.2.2.2, n3, b3, rfl, G3.t, K3, envS, hn3, fun a2 x2 s2 H4 n4 G4 K4 hn4 en4 ha2 d2 o2 ns2 => ?_⟩
    have l1 : x1.length ≤ 8 := by
      have e1 : s1.length ≤ S.cnts s1 := cnts_len s1
      rw [d1.len, S.ds_len]; omega
    have l2 : x2.length ≤ 8 := by
      have e1 : s2.length ≤ S.cnts s2 := cnts_len s2
      rw [d2.len, S.ds_len]; omega
    refine cat_of (G4.k _ _ ha1) ha2 (by omega) fun pc H5 g5 hpc => ?_
    refine ⟨(by show 1 ≤ sizeLine; decide), fun p6 hp6 => ?_⟩
    have g6 := same_new hp6 (.tup [.ref pc])
    have k36 : Tk HB (upd H5 p6 (.tup [.ref pc])) := (G3.k.trans G4.k).trans (tk_same (g5.trans g6))
    refine cat_of (k36 _ _ (gB _ _ ha)) upd_same (by show 4 + 1 ≤ 1000; decide) fun p7 H7 g7 hp7 => ?_
    have g57 := (g5.trans g6).trans g7
    have GK := (G3.trans G4).same g57
    have hfl7 := GK.x _ _ hft hfk (gB _ _ hfA)
    have hhl7 := GK.x _ _ hlt hhk (gB _ _ hhA)
    have GH : Go tp H H7 := by
      refine ⟨fun b o n e => GK.x _ _ n (fun z => ?_) (gB _ _ (GA.x _ _ n e)), GK.t, GA.y.trans ((Same.ts gB).trans GK.y)⟩
      have := GA.x _ _ n e
      rw [z, kd0] at this
      cases this
    have lfx : fx.length ≤ 3 := by
      rw [Paired.length pFS, ← List.length_map (f := fun F : Func => F.1), eFS, List.length_take]; omega
    refine ⟨fl, fx, .ref p7, rfl, rfl, hfl7, small1000 (by omega), ?_⟩
    have kL := tk_lst hfl7 (.lst (fx ++ [.ref p7]))
    have k7 : Tk HB H7 := k36.trans (tk_same g7)
    have kZ := (tk_same gB).trans (k7.trans kL)
    refine ⟨_, _, fx ++ [.ref p7], FS ++ [(h, s1 ++ s2)], rfl, GH.upd ht hfH _, kA.trans kZ, by rw [upd_ne hfh.symm]; exact hhl7, upd_same, ?_, ?_, fun F hF => ?_⟩
    · refine Paired.snoc (Paired.mapP pFS fun _ _ z => z.mono kZ) ⟨p7, cp, cq, pc, x1 ++ x2, rfl, kL _ _ hp7, pfl.mono kZ, qfl.mono kZ, kL _ _ ((g6.trans g7) _ _ hpc), ?_⟩
      show DTs K _ (x1 ++ x2) (S.ds (s1 ++ s2))
      rw [S.ds_app]
      exact (DTs.append (d1.mono (G4.k.trans (tk_same g57))) (d2.mono (tk_same g57))).mono kL
    · rw [List.map_append, eFS, List.take_add_one, hhi]; rfl
    · rcases List.mem_append.mp hF with hF | hF
      · exact oFS F hF
      · rw [List.mem_singleton.mp hF]
        refine ⟨OkSs.app o1 o2, ?_, fun s hs' => ?_⟩
        · show S.cnts (s1 ++ s2) ≤ 8
          rw [S.cnts_app]
          omega
        · rcases List.mem_append.mp hs' with h' | h'
          · exact ns1 s h'
          · exact ns2 s h'
  · obtain ⟨m4, m5, fx, FS, rfl, GA, kA, hhA, hfA, pFS, eFS, oFS⟩ := p
    refine ⟨_, rfl, _, rfl, fl, fx, rfl, .inl ⟨SqL.of hfA, fun tt htt => ⟨(by show 2 ≤ sizeLine; decide), fun p hp => ?_⟩⟩⟩
    have s1 := same_new htt (.tup fx)
    have s2 := same_new hp (.tup [rv, .ref tt])
    have kS := tk_same (s1.trans s2)
    rw [Int.toNat_natCast, lhs, List.take_length] at eFS
    exact q (.ref p) R HS FS _ (GA.trans (Go.same GA.t (s1.trans s2))) ⟨p, rv, tt, fx, rfl, upd_same, (hR2.mono kA).mono kS, s2 _ _ upd_same, Paired.mapP pFS fun _ _ z => z.mono kS⟩ ⟨hg, hnd, hRl, hsok, eFS, oFS⟩
/-! ### all depths -/
theorem all_leaf (T : G0 mg) (F : Fun K "_law_leaf" "_law_leaf" s_l_leaf f fd) (b : Binds K fd pLf []) (m : mg "_law_leaf" = some (.ref f)) (D : Cal P w K mg base 1 "_law_draw" dP spDraw2) : ∀ n : Nat, FnOk P w K mg base CX0 (n + 1) f fd pLf (spLeaf K n)
  | 0 => no_sp fun vs H Q E h => by
    obtain ⟨tp, kd, k, R, HS, Vs, gv, n, b, _, _, _, _, h1, _⟩ := h
    exact h1
  | n + 1 => ok_leaf T F D ⟨f, fd, all_leaf T F b m D n, b, F.kp, m⟩
theorem all_e (T : G0 mg) (F : Fun K "_law_e" "_law_e" s_l_e f fd) (b : Binds K fd pEx []) (m : mg "_law_e" = some (.ref f)) {f2 : Addr} {fd2 : FuncData} (F2 : Fun K "_law_num" "_law_num" s_l_num f2 fd2) (b2 : Binds K fd2 pTx []) (m2 : mg "_law_num" = some (.ref f2))
    {f3 : Addr} {fd3 : FuncData} (F3 : Fun K "_law_row" "_law_row" s_l_row f3 fd3) (b3 : Binds K fd3 pTx []) (m3 : mg "_law_row" = some (.ref f3)) (D : Cal P w K mg base 1 "_law_draw" dP spDraw2) (DL : Cal P w K mg base 5 "_law_leaf" pLf (spLeaf K 4)) : ∀ n : Nat, FnOk P w K mg base CX0 (2 * n + 6) f fd pEx (spE K n)
  | 0 => ok_e0 (r1 := 1) (r2 := 1) (r3 := 1) (by decide) (by decide) (by decide) T F D DL ⟨f, fd, no_sp (fun _ _ _ _ h => h), b, F.kp, m⟩ ⟨f2, fd2, no_sp (fun _ _ _ _ h => h), b2, F2.kp, m2⟩ ⟨f3, fd3, no_sp (fun _ _ _ _ h => h), b3, F3.kp, m3⟩
  | n + 1 =>
    have De : Cal P w K mg base (2 * n + 6) "_law_e" pEx (spE K n) := ⟨f, fd, all_e T F b m F2 b2 m2 F3 b3 m3 D DL n, b, F.kp, m⟩
    ok_e T F D DL De ⟨f2, fd2, ok_num T F2 D De, b2, F2.kp, m2⟩ ⟨f3, fd3, ok_row T F3 D De, b3, F3.kp, m3⟩
theorem all_cond (T : G0 mg) (F : Fun K "_law_condition" "_law_condition" s_l_condition f fd) (b : Binds K fd pTx []) (m : mg "_law_condition" = some (.ref f)) (D : Cal P w K mg base 1 "_law_draw" dP spDraw2) (DB : Cal P w K mg base 11 "_law_bounded" pBd (spBounded K)) : ∀ n : Nat, FnOk P w K mg base CX0 (n + 12) f fd pTx (spCL K n)
  | 0 => ok_cond (r := 11) (spC := fun _ _ _ _ => False) (Nat.le_refl _) (fun d' h => absurd h (Nat.not_lt_zero _)) T F D DB ⟨f, fd, no_sp (fun _ _ _ _ h => h), b, F.kp, m⟩
  | n + 1 => ok_cond (r := n + 12) (spC := spCL K n) (by omega) (fun d' h vs H Q E q => ⟨d', by omega, q⟩) T F D DB ⟨f, fd, all_cond T F b m D DB n, b, F.kp, m⟩
theorem all_body (T : G0 mg) (F : Fun K "_law_body" "_law_body" s_l_body f fd) (b : Binds K fd pTx []) (m : mg "_law_body" = some (.ref f)) {f2 : Addr} {fd2 : FuncData} (F2 : Fun K "_law_statement" "_law_statement" s_l_statement f2 fd2) (b2 : Binds K fd2 pTx []) (m2 : mg "_law_statement" = some (.ref f2))
    (D : Cal P w K mg base 1 "_law_draw" dP spDraw2) (DN : Cal P w K mg base 2 "_law_names" dP spNames) (DB : Cal P w K mg base 11 "_law_bounded" pBd (spBounded K)) (DC : Cal P w K mg base 14 "_law_condition" pTx (spCL K 2)) : ∀ n : Nat, FnOk P w K mg base CX0 (2 * n + 16) f fd pTx (spBody K n)
  | 0 => ok_body (r := 15) (by decide) T F D ⟨f2, fd2, ok_stmt (r := 14) (spB := fun _ _ _ _ => False) (Nat.le_refl _) (fun d' h => absurd h (by omega)) T F2 D DN DB DC ⟨f, fd, no_sp (fun _ _ _ _ h => h), b, F.kp, m⟩, b2, F2.kp, m2⟩
  | n + 1 => ok_body (r := 2 * n + 17) (by omega) T F D ⟨f2, fd2, ok_stmt (r := 2 * n + 16) (spB := spBody K n) (by omega) (fun d' h vs H Q E q => (Nat.succ.inj h) ▸ q) T F2 D DN DB DC ⟨f, fd, all_body T F b m F2 b2 m2 D DN DB DC n, b, F.kp, m⟩, b2, F2.kp, m2⟩
end
end K6

set_option Elab.async false
set_option linter.all false
set_option maxRecDepth 100000
set_option maxHeartbeats 4000000
namespace L2
open PySem PySem.Spec PyProof.Rows
section
variable {X : Cx}
/-- a module's dict with texts as keys -/
structure KDv (K : PySem.W.Frag) (w : World) (a : Addr) : Prop where
  ex : ∃ es n, K.lookup a = some ⟨.type "dict", none, .dict es n, #[]⟩ ∧ PySem.W.KeysLit w.params es.toList
  lo : (a == sysModules) = false
theorem op_inK {a : Addr} (h : KDv X.K X.w a) : OpR X (compareOp .In) (fun x y H Q => ∃ z r, x = .str z ∧ y = .ref a ∧ PySem.W.nsIn X.K a z = some r ∧ Q (.bl r.isSome) H) := by
  intro pins s σ H x y v u Q I rx ry hh
  obtain ⟨z, r, rfl, rfl, e, q⟩ := hh
  obtain ⟨t, rfl⟩ := rx
  cases ry
  obtain ⟨es, n, hl, hk⟩ := h.ex
  have mo := PySem.W.mapOf_K (prog := X.prog) (w := X.w) I.kIn hl hk
  refine wpAny_in_of (strKind_is X.prog X.w z t) h.lo mo ⟨.bl r.isSome, H, I.tok _, ?_, q⟩
  rw [PySem.W.find_K hl e]
  rfl
theorem ix_K {a : Addr} (h : KDv X.K X.w a) : IxR X (fun x y H Q => ∃ z u v, x = .ref a ∧ y = .str z ∧ PySem.W.nsIn X.K a z = some (some u) ∧ RelV v u ∧ Q v H) := by
  intro value slice pins s σ H x y v u Q I rx ry hh hs
  obtain ⟨z, u', v', rfl, rfl, e, rv, q⟩ := hh
  cases rx
  obtain ⟨t, rfl⟩ := ry
  obtain ⟨es, n, hl, hk⟩ := h.ex
  have mo := PySem.W.mapOf_K (prog := X.prog) (w := X.w) I.kIn hl hk
  have fin : EP X pins σ Q u' { s with toks := s.toks + 1 } := ⟨v', H, I.tok _, rv, q⟩
  exact subscriptTail_builtinR (x := u') mo.typeIs PySem.F.slot_dict_getitem.lookup (wpAny_getItem_of (Q := fun r s' => r = _ ∧ EP X pins σ Q r s') (strKind_is X.prog X.w z t) mo (PySem.W.find_K hl e) ⟨rfl, fin⟩) hs
end
end L2
namespace K6
open PySem L2
theorem DT.open {K : PySem.W.Frag} {H : Hp} {u : V} {ds : List PyData} (h : DT K H u (.tuple ds)) : ∃ a xs, u = .ref a ∧ H a = some (.tup xs) ∧ DTs K H xs ds := by
  cases h with
  | tup a b => exact ⟨_, _, rfl, a.hp, b⟩
theorem DTs.open {K : PySem.W.Frag} {H : Hp} {xs : List V} {d : PyData} {ds : List PyData} (h : DTs K H xs (d :: ds)) : ∃ x r, xs = x :: r ∧ DT K H x d ∧ DTs K H r ds := by
  cases h with
  | cons a b => exact ⟨_, _, rfl, a, b⟩
theorem DT.str_inv {K : PySem.W.Frag} {H : Hp} {u : V} {z : Str} (h : DT K H u (.str z)) : u = .str z := by cases h; rfl
def SHT7 : List (Str × List Int) := [("num", []), ("text", []), ("var", []), ("of", [1]), ("with", [1, 3]), ("add", [1, 2]), ("sub", [1, 2]), ("times", [2]), ("div", [1]), ("rest", [1]), ("len", [1]), ("at", [1, 2]), ("put", [1, 2, 3]), ("more", [1, 2]), ("signs", [1]), ("let", [2]), ("give", [1])]
def LIT : List (Str × Int) := [("call", 3), ("new", 2), ("rows", 1)]
structure G7 (K : PySem.W.Frag) (w : World) (mg : Str → Option Value) : Prop where
  t : G0 mg
  rev : mg "reversed" = none
  enu : mg "enumerate" = none
  sh : ∃ aS, mg "SHAPES" = some (.ref aS) ∧ KDv K w aS ∧ ∀ p ∈ SHT7, ∃ a b s n, PySem.W.nsIn K aS p.1 = some (some (.ref a)) ∧ (∀ H, SqT K H a [.str s, .int n, .ref b]) ∧ ∀ H, SqT K H b (p.2.map V.int)
  li : ∃ aL, mg "LISTED" = some (.ref aL) ∧ KDv K w aL ∧ (∀ p ∈ LIT, ∃ t, PySem.W.nsIn K aL p.1 = some (some (.int p.2 t))) ∧ ∀ p ∈ SHT7, PySem.W.nsIn K aL p.1 = some none
section
variable {P : Program} {w : World} {K : PySem.W.Frag} {mg : Str → Option Value} {base : Heap} {f g : Addr} {fd gd : FuncData}
abbrev n_inner_of : List Str := ["shaped", "word"]
abbrev nb_inner_of_0 : List Str := ["place", "shaped"]
theorem ndb_inner_of_0 : nb_inner_of_0.Nodup := by decide +kernel
theorem sc_inner_of : FnScope n_inner_of ["shaped"] (defScope s_inner_of) := ⟨rfl, rfl, rfl, by decide +kernel, rfl, by decide +kernel, by decide +kernel⟩
def spInner7 (K : PySem.W.Frag) : Sp := fun vs H Q _ => ∃ a z rs, vs = [.ref a] ∧ H a = some (.tup (.str z :: rs)) ∧
  ((∃ ps L, (z, ps) ∈ SHT7 ∧ ps.length ≤ 10 ∧ L.length = ps.length ∧ (∀ (i : Nat) (p : Int), ps[i]? = some p → ∃ y, atI (.str z :: rs) p = some y ∧ L[i]? = some y) ∧ ∀ r H', Same H H' → H r = none → H' r = some (.lst L) → Q (.ref r) H') ∨
   (∃ p al ys, (z, p) ∈ LIT ∧ atI (.str z :: rs) p = some (.ref al) ∧ H al = some (.tup ys) ∧ ∀ r H', Same H H' → H r = none → H' r = some (.lst ys) → Q (.ref r) H'))
theorem ok_inner7 (T : G7 K w mg) (F : Fun K "inner_of" "inner_of" s_inner_of f fd) : FnOk P w K mg base CX0 1 f fd ["shaped"] (spInner7 K) := by
  obtain ⟨aS, mS_, kS, hS⟩ := T.sh
  obtain ⟨aL, mL, kL, hLs, hLn⟩ := T.li
  have T := T.t
  refine F.ok sc_inner_of (fun vs H Q EX h => ?_) (fun cdv A outer s H vs Q EX hr h => ?_)
  · obtain ⟨a, z, rs, rfl, _⟩ := h
    rfl
  obtain ⟨a, z, rs, rfl, ha, h⟩ := h
  refine ⟨_, (@pss_cons _ _ _ _ _ (@ps_set _ _ 1 _ _ _ _ sc_inner_of.nd rfl (Or.inl rfl) (@pe_ix _ _ _ _ _ _ _ ix_tup (pv 0) pe_int (fun _ _ => rfl)) (swaps_of rfl) (.inr rfl)) (@pss_cons _ _ _ _ _ (@ps_if _ _ _ _ _ _ _ _ (@pt_cmpR _ _ _ _ _ _ _ _ (op_inK kL) (pv 1) (pe_glob (v := .ref aL) rfl mL rfl) rfl) (@pss_one _ _ _ (@ps_ret _ _ _ _ (@pe_callTy _ _ _ _ _ _ _ _ _ call_list_of rfl T.list b_list (@pa_cons _ _ _ _ _ (@pe_ix _ _ _ _ _ _ _ ix_tup (pv 0) (@pe_ix _ _ _ _ _ _ _ (ix_K kL) (pe_glob (v := .ref aL) rfl mL rfl) (pv 1) (fun _ _ => rfl)) (fun _ _ => rfl)) pa_nil (star_of rfl)) (by decide) (by decide) (star_of rfl) (plain_of rfl)))) pss_nil) (@pss_one _ _ _ (@ps_ret _ _ _ _ (pe_comp (N' := nb_inner_of_0) (ρ := [none, some 0]) (m := 1) (BlkOk.of (fs := defScope s_inner_of) (N := n_inner_of) rfl rfl (by decide +kernel)) rfl (pi_tup (pe_ix ix_tup (pe_ix (ix_K kS) (pe_glob (v := .ref aS) rfl mS_ rfl) (pv 1) (fun _ _ => rfl)) pe_int (fun _ _ => rfl))) (fun _ _ _ _ => (pg_name (i := 0) ndb_inner_of_0 rfl (Or.inl rfl))) (fun _ _ _ _ => pts_nil) (fun _ _ _ _ => (pe_ix (ix_tupK (K := K) rfl) (pv 1) (pv 0) (fun _ _ => rfl)))))))), ?_⟩
  refine ⟨_, rfl, a, _, _, _, rfl, rfl, SqT.of ha, at0 _ _, ?_⟩
  rcases h with ⟨ps, L, hm, lp, lL, hp, q⟩ | ⟨p, al, ys, hm, hp, hal, q⟩
  · obtain ⟨aw, bw, sw, nw, g1, g2, g3⟩ := hS (z, ps) hm
    refine ⟨_, rfl, _, none, rfl, rfl, hLn (z, ps) hm, _, rfl, iteF ⟨_, rfl, _, _, .ref aw, rfl, rfl, g1, rfl, aw, _, _, _, rfl, rfl, g2 _, rfl, bw, rfl, ⟨_, g3 _⟩, ?_⟩⟩
    refine comp_tup (xs := ps.map V.int) ps.length (by rw [List.length_map]) (by omega) (fun i acc H4 => H4 = H ∧ acc = L.take i) ⟨rfl, rfl⟩ (fun i acc H4 p => g3 _) (fun i acc H4 x hi la hx p => ?_) (fun acc H4 p la D hD => ?_)
    · obtain ⟨rfl, rfl⟩ := p
      rw [List.getElem?_map] at hx
      obtain ⟨pp, hpp, rfl⟩ := Option.map_eq_some_iff.mp hx
      obtain ⟨y, hy1, hy2⟩ := hp i pp hpp
      exact ⟨⟨rfl, rfl⟩, tTrue_i ⟨_, rfl, _, rfl, a, _, _, _, rfl, rfl, SqT.of ha, hy1, nxT (by omega) hi la ⟨rfl, by rw [List.take_add_one, hy2]; rfl⟩⟩⟩
    · obtain ⟨rfl, rfl⟩ := p
      rw [← lL, List.take_length]
      exact q D _ (same_new hD _) hD upd_same
  · obtain ⟨t, ht⟩ := hLs (z, p) hm
    exact ⟨_, rfl, _, _, rfl, rfl, ht, _, rfl, iteT ⟨_, rfl, _, rfl, _, _, .int p, rfl, rfl, ht, ⟨_, rfl⟩, a, _, _, _, rfl, rfl, SqT.of ha, hp, al, _, rfl, .inr (SqT.of hal), fun l hl2 => q l _ (same_new hl2 _) hl2 upd_same⟩⟩
end
end K6

set_option Elab.async false
set_option linter.all false
set_option maxRecDepth 100000
set_option maxHeartbeats 4000000
namespace K6
open PySem L2
mutual
def S.flat : S → List S
  | .if_ c a b => .if_ c a b :: (S.flats a ++ S.flats b)
  | .while_ c a => .while_ c a :: S.flats a
  | .let_ x e => [.let_ x e]
  | .say w c => [.say w c]
  | .call x f es => [.call x f es]
  | .give e => [.give e]
def S.flats : List S → List S
  | [] => []
  | s :: r => s.flat ++ S.flats r
end
def S.bods : S → List (List S)
  | .if_ _ a b => [a, b]
  | .while_ _ a => [a]
  | _ => []
theorem flats_app : ∀ a b : List S, S.flats (a ++ b) = S.flats a ++ S.flats b
  | [], b => by simp [S.flats]
  | s :: r, b => by simp only [List.cons_append, S.flats, flats_app r b, List.append_assoc]
theorem flat_eq (s : S) : s.flat = s :: S.flats s.bods.flatten := by
  cases s <;> simp [S.flat, S.bods, S.flats, flats_app]
theorem cnt_eq (s : S) : s.cnt = 1 + S.cnts s.bods.flatten := by
  cases s <;> simp [S.cnt, S.bods, S.cnts, S.cnts_app, Nat.add_assoc]
mutual
theorem flat_len : ∀ s : S, s.flat.length = s.cnt
  | .if_ c a b => by simp only [S.flat, S.cnt, List.length_cons, List.length_append, flats_len a, flats_len b]; omega
  | .while_ c a => by simp only [S.flat, S.cnt, List.length_cons, flats_len a]; omega
  | .let_ x e => by simp [S.flat, S.cnt]
  | .say w c => by simp [S.flat, S.cnt]
  | .call x f es => by simp [S.flat, S.cnt]
  | .give e => by simp [S.flat, S.cnt]
theorem flats_len : ∀ ss : List S, (S.flats ss).length = S.cnts ss
  | [] => by simp [S.flats, S.cnts]
  | s :: r => by simp only [S.flats, S.cnts, List.length_append, flat_len s, flats_len r]
end
theorem S.ds_eq : ∀ ss : List S, S.ds ss = ss.map S.d
  | [] => by simp [S.ds]
  | s :: r => by simp [S.ds, S.ds_eq r]
def bodD (b : List S) : PyData := .tuple (S.ds b)
theorem DTs.rev {K : PySem.W.Frag} {H : Hp} {xs : List V} {ds : List PyData} (h : DTs K H xs ds) : DTs K H xs.reverse ds.reverse := by
  induction xs generalizing ds with
  | nil => cases h; exact .nil
  | cons x r ih =>
    cases h with
    | cons h1 h2 => rw [List.reverse_cons, List.reverse_cons]; exact DTs.snoc h1 (ih h2)
theorem same_upd {t : Addr} {H H1 : Hp} {o : HO} (h : H t = none) (g : Same H H1) : Same H (upd H1 t o) := fun b u q => by rw [upd_ne (ne_of_none q h)]; exact g b u q
/-- a line's word, and its bodies -/
theorem st_view {K : PySem.W.Frag} {H : Hp} {u : V} {s : S} (h : DT K H u (S.d s)) : ∃ a z rs, u = .ref a ∧ H a = some (.tup (.str z :: rs)) ∧
    ((∃ c' b1 b2 A B, z = "if" ∧ rs = [c', b1, b2] ∧ s.bods = [A, B] ∧ DT K H b1 (bodD A) ∧ DT K H b2 (bodD B)) ∨ (∃ c' b1 A, z = "while" ∧ rs = [c', b1] ∧ s.bods = [A] ∧ DT K H b1 (bodD A)) ∨ (z ≠ "if" ∧ z ≠ "while" ∧ s.bods = [])) := by
  cases s with
  | if_ c A B =>
    simp only [S.d] at h
    obtain ⟨a, xs, rfl, ha, d0⟩ := h.open
    obtain ⟨x0, r0, rfl, h0, d1⟩ := d0.open
    obtain rfl := h0.str_inv
    obtain ⟨x1, r1, rfl, h1, d2⟩ := d1.open
    obtain ⟨x2, r2, rfl, h2, d3⟩ := d2.open
    obtain ⟨x3, r3, rfl, h3, d4⟩ := d3.open
    cases d4
    exact ⟨a, _, _, rfl, ha, .inl ⟨x1, x2, x3, A, B, rfl, rfl, rfl, h2, h3⟩⟩
  | while_ c A =>
    simp only [S.d] at h
    obtain ⟨a, xs, rfl, ha, d0⟩ := h.open
    obtain ⟨x0, r0, rfl, h0, d1⟩ := d0.open
    obtain rfl := h0.str_inv
    obtain ⟨x1, r1, rfl, h1, d2⟩ := d1.open
    obtain ⟨x2, r2, rfl, h2, d3⟩ := d2.open
    cases d3
    exact ⟨a, _, _, rfl, ha, .inr (.inl ⟨x1, x2, A, rfl, rfl, rfl, h2⟩)⟩
  | let_ x e =>
    simp only [S.d] at h
    obtain ⟨a, xs, rfl, ha, d0⟩ := h.open
    obtain ⟨x0, r0, rfl, h0, d1⟩ := d0.open
    obtain rfl := h0.str_inv
    exact ⟨a, _, _, rfl, ha, .inr (.inr ⟨by decide +kernel, by decide +kernel, rfl⟩)⟩
  | say y c =>
    simp only [S.d] at h
    obtain ⟨a, xs, rfl, ha, d0⟩ := h.open
    obtain ⟨x0, r0, rfl, h0, d1⟩ := d0.open
    obtain rfl := h0.str_inv
    exact ⟨a, _, _, rfl, ha, .inr (.inr ⟨by decide +kernel, by decide +kernel, rfl⟩)⟩
  | call x y es =>
    simp only [S.d] at h
    obtain ⟨a, xs, rfl, ha, d0⟩ := h.open
    obtain ⟨x0, r0, rfl, h0, d1⟩ := d0.open
    obtain rfl := h0.str_inv
    exact ⟨a, _, _, rfl, ha, .inr (.inr ⟨by decide +kernel, by decide +kernel, rfl⟩)⟩
  | give e =>
    simp only [S.d] at h
    obtain ⟨a, xs, rfl, ha, d0⟩ := h.open
    obtain ⟨x0, r0, rfl, h0, d1⟩ := d0.open
    obtain rfl := h0.str_inv
    exact ⟨a, _, _, rfl, ha, .inr (.inr ⟨by decide +kernel, by decide +kernel, rfl⟩)⟩
section
variable {P : Program} {w : World} {K : PySem.W.Frag} {mg : Str → Option Value} {base : Heap} {f g : Addr} {fd gd : FuncData}
abbrev n_bodies_of : List Str := ["statement"]
theorem sc_bodies_of : FnScope n_bodies_of ["statement"] (defScope s_bodies_of) := ⟨rfl, rfl, rfl, by decide +kernel, rfl, by decide +kernel, by decide +kernel⟩
def spBods (K : PySem.W.Frag) : Sp := fun vs H Q _ => ∃ u s, vs = [u] ∧ DT K H u (S.d s) ∧ ∀ r ys H', Same H H' → H r = none → H' r = some (.lst ys) → DTs K H' ys (s.bods.map bodD) → Q (.ref r) H'
theorem ok_bods (F : Fun K "bodies_of" "bodies_of" s_bodies_of f fd) : FnOk P w K mg base CX0 1 f fd ["statement"] (spBods K) := by
  refine F.ok sc_bodies_of (fun vs H Q EX h => ?_) (fun cdv A outer s H vs Q EX hr h => ?_)
  · obtain ⟨u, s, rfl, _⟩ := h
    rfl
  obtain ⟨u, s, rfl, hu, q⟩ := h
  obtain ⟨a, z, rs, rfl, ha, hv⟩ := st_view hu
  refine ⟨_, (@pss_cons _ _ _ _ _ (@ps_if _ _ _ _ _ _ _ _ (@pt_cmpR _ _ _ _ _ _ _ _ op_eq (@pe_ix _ _ _ _ _ _ _ ix_tup (pv 0) pe_int (fun _ _ => rfl)) pe_str (nomark _)) (@pss_one _ _ _ (@ps_ret _ _ _ _ (@pe_lst _ _ _ _ (@pa_cons _ _ _ _ _ (@pe_ix _ _ _ _ _ _ _ ix_tup (pv 0) pe_int (fun _ _ => rfl)) (@pa_cons _ _ _ _ _ (@pe_ix _ _ _ _ _ _ _ ix_tup (pv 0) pe_int (fun _ _ => rfl)) pa_nil (star_of rfl)) (star_of rfl))))) pss_nil) (@pss_cons _ _ _ _ _ (@ps_if _ _ _ _ _ _ _ _ (@pt_cmpR _ _ _ _ _ _ _ _ op_eq (@pe_ix _ _ _ _ _ _ _ ix_tup (pv 0) pe_int (fun _ _ => rfl)) pe_str (nomark _)) (@pss_one _ _ _ (@ps_ret _ _ _ _ (@pe_lst _ _ _ _ (@pa_cons _ _ _ _ _ (@pe_ix _ _ _ _ _ _ _ ix_tup (pv 0) pe_int (fun _ _ => rfl)) pa_nil (star_of rfl))))) pss_nil) (@pss_one _ _ _ (@ps_ret _ _ _ _ (@pe_lst _ _ _ _ pa_nil))))), ?_⟩
  refine ⟨_, rfl, a, _, _, _, rfl, rfl, SqT.of ha, at0 _ _, rfl, _, rfl, ?_⟩
  rcases hv with ⟨c', b1, b2, A, B, rfl, rfl, hb, d1, d2⟩ | ⟨c', b1, A, rfl, rfl, hb, d1⟩ | ⟨z1, z2, hb⟩
  · refine ite2 (fun c => ?_) (fun c => absurd (by decide +kernel) c)
    refine ⟨_, rfl, a, _, _, _, rfl, rfl, SqT.of ha, rfl, _, rfl, a, _, _, _, rfl, rfl, SqT.of ha, rfl, (by show 2 ≤ sizeLine; decide), fun l hl => ?_⟩
    exact q l _ _ (same_new hl _) hl upd_same (by rw [hb]; exact .cons (d1.mono (tk_new hl _)) (.cons (d2.mono (tk_new hl _)) .nil))
  · refine ite2 (fun c => absurd c (by decide +kernel)) (fun c => ?_)
    refine ⟨_, rfl, a, _, _, _, rfl, rfl, SqT.of ha, rfl, rfl, _, rfl, ?_⟩
    refine ite2 (fun c => ?_) (fun c => absurd (by decide +kernel) c)
    refine ⟨_, rfl, a, _, _, _, rfl, rfl, SqT.of ha, rfl, (by show 1 ≤ sizeLine; decide), fun l hl => ?_⟩
    exact q l _ _ (same_new hl _) hl upd_same (by rw [hb]; exact .cons (d1.mono (tk_new hl _)) .nil)
  · refine ite2 (fun c => absurd (V.str.inj (of_decide_eq_true c)) z1) (fun c => ?_)
    refine ⟨_, rfl, a, _, _, _, rfl, rfl, SqT.of ha, at0 _ _, rfl, _, rfl, ?_⟩
    refine ite2 (fun c => absurd (V.str.inj (of_decide_eq_true c)) z2) (fun c => ?_)
    refine ⟨(by show 0 ≤ sizeLine; decide), fun l hl => ?_⟩
    exact q l _ _ (same_new hl _) hl upd_same (by rw [hb]; exact .nil)
abbrev n_lines_in : List Str := ["body", "told", "waiting", "statement", "inner"]
theorem sc_lines_in : FnScope n_lines_in ["body"] (defScope s_lines_in) := ⟨rfl, rfl, rfl, by decide +kernel, rfl, by decide +kernel, by decide +kernel⟩
def spIn (K : PySem.W.Frag) : Sp := fun vs H Q _ => ∃ u b, vs = [u] ∧ DT K H u (bodD b) ∧ S.cnts b ≤ 1000 ∧ ∀ r ys H', Same H H' → H r = none → H' r = some (.lst ys) → DTs K H' ys (S.ds (S.flats b)) → Q (.ref r) H'
def LInv (K : PySem.W.Frag) (H : Hp) (u : V) (b : List S) (m : Nat) (σ : St) (H' : Hp) : Prop := ∃ m3 m4 tl wl ys vs ts ws, σ = [some u, some (.ref tl), some (.ref wl), m3, m4] ∧ Same H H' ∧ H tl = none ∧ H wl = none ∧ tl ≠ wl ∧ H' tl = some (.lst ys) ∧ H' wl = some (.lst vs) ∧
  DTs K H' ys (S.ds ts) ∧ DTs K H' vs.reverse (S.ds ws) ∧ S.flats b = ts ++ S.flats ws ∧ m = S.cnts ws
theorem ok_in (T : G0 mg) (TR : mg "reversed" = none) (F : Fun K "lines_in" "lines_in" s_lines_in f fd) (D_bodies_of : Cal P w K mg base 1 "bodies_of" ["statement"] (spBods K)) : FnOk P w K mg base CX0 2 f fd ["body"] (spIn K) := by
  obtain ⟨g_bodies_of, gd_bodies_of, G_bodies_of, b_bodies_of, k_bodies_of, m_bodies_of⟩ := D_bodies_of.ex
  refine F.ok sc_lines_in (fun vs H Q EX h => ?_) (fun cdv A outer s H vs Q EX hr h => ?_)
  · obtain ⟨u, b, rfl, _⟩ := h
    rfl
  obtain ⟨u, b, rfl, hu, hc, q⟩ := h
  obtain ⟨bb, xs, rfl, hbb, dxs⟩ := DT.open hu
  refine ⟨_, (@pss_cons _ _ _ _ _ (@ps_set _ _ 1 _ _ _ _ sc_lines_in.nd rfl (Or.inl rfl) (@pe_lst _ _ _ _ pa_nil) (swaps_of rfl) (.inr rfl)) (@pss_cons _ _ _ _ _ (@ps_set _ _ 2 _ _ _ _ sc_lines_in.nd rfl (Or.inl rfl) (pe_listrev rfl rfl T.list rfl TR (pv 0)) (swaps_of rfl) (.inr rfl)) (@pss_cons _ _ _ _ _ (ps_while PassesOwn.never (pt_truth (pv 2) (fun _ => rfl)) (@pss_cons _ _ _ _ _ (@ps_set _ _ 3 _ _ _ _ sc_lines_in.nd rfl (Or.inl rfl) (pe_bm0 PySem.F.plainAttrs_list PySem.F.slot_list_pop PySem.F.type_list_pop mt_pop (pv 2)) (swaps_of rfl) (.inr rfl)) (@pss_cons _ _ _ _ _ (@ps_expr _ _ _ _ (@pe_bm _ _ _ _ _ _ _ _ _ _ _ _ PySem.F.plainAttrs_list PySem.F.slot_list_append PySem.F.type_list_append mt_append (pv 1) (@pa_cons _ _ _ _ _ (pv 3) pa_nil (star_of rfl)) rfl (few_of rfl rfl) rfl (star_of rfl) (plain_of rfl)) (swaps_of rfl)) (@pss_one _ _ _ (@ps_for _ _ _ _ _ _ _ _ PassesOwn.never rfl (pi_rev rfl TR (@pe_call _ _ _ _ _ _ _ _ _ _ _ _ _ _ _ _ G_bodies_of (hr.mono (by omega)) rfl m_bodies_of k_bodies_of b_bodies_of .nil pass0 (@pa_cons _ _ _ _ _ (pv 3) pa_nil (star_of rfl)) (by decide) (star_of rfl) (plain_of rfl))) (pg_name (i := 4) sc_lines_in.nd rfl (Or.inl rfl)) (@pss_one _ _ _ (@ps_expr _ _ _ _ (@pe_bm _ _ _ _ _ _ _ _ _ _ _ _ PySem.F.plainAttrs_list PySem.F.slot_list_extend PySem.F.type_list_extend mt_extend (pv 2) (@pa_cons _ _ _ _ _ (pe_listrev rfl rfl T.list rfl TR (pv 4)) pa_nil (star_of rfl)) rfl (few_of rfl rfl) rfl (star_of rfl) (plain_of rfl)) (swaps_of rfl))) (fun _ => rfl)))))) (@pss_one _ _ _ (@ps_ret _ _ _ _ (pv 1)))))), ?_⟩
  refine ⟨(by show 0 ≤ sizeLine; decide), fun t0 ht0 => ?_⟩
  have g0 := same_new ht0 (.lst [])
  refine ⟨_, rfl, bb, xs, rfl, .inr (SqT.of (g0 _ _ hbb)), fun w0 hw0 => ?_⟩
  have g1 := g0.trans (same_new hw0 (.lst xs.reverse))
  have hw00 : H w0 = none := by
    cases e : H w0 with
    | none => rfl
    | some o => rw [g0 _ _ e] at hw0; cases hw0
  have htw : t0 ≠ w0 := fun z => by rw [← z, upd_same] at hw0; cases hw0
  refine ⟨LInv K H (.ref bb) b, ⟨_, none, none, t0, w0, [], xs.reverse, [], b, rfl, g1, ht0, hw00, htw, by rw [upd_ne htw]; exact upd_same, upd_same, .nil, by rw [List.reverse_reverse]; exact dxs.mono (tk_same g1), rfl, rfl⟩, ?_⟩
  rintro m σ H' ⟨m3, m4, tl, wl, ys, vs, ts, ws, rfl, GH, tl0, wl0, hne, htl, hwl, dy, dv, ef, em⟩
  have lt : ts.length + S.cnts ws = S.cnts b := by rw [← flats_len b, ef, List.length_append, flats_len]
  refine ⟨_, rfl, _, .inl ⟨vs, SqL.of hwl, rfl⟩, ?_⟩
  refine ite2 (fun cc => ?_) (fun cc => ?_)
  · obtain ⟨zs, y, rfl⟩ : ∃ zs y, vs = zs ++ [y] := by
      rcases List.eq_nil_or_concat vs with rfl | ⟨zs, y, e⟩
      · exact absurd cc (by decide)
      · exact ⟨zs, y, by rw [e, List.concat_eq_append]⟩
    rw [List.reverse_append, List.reverse_singleton, List.singleton_append] at dv
    obtain ⟨s1, wr, rfl⟩ : ∃ s1 wr, ws = s1 :: wr := by
      cases ws with
      | nil => simp only [S.ds] at dv; cases dv
      | cons a r => exact ⟨a, r, rfl⟩
    simp only [S.ds] at dv
    have ⟨dy1, dz⟩ : DT K H' y s1.d ∧ DTs K H' zs.reverse (S.ds wr) := by
      cases dv with
      | cons a r => exact ⟨a, r⟩
    refine ⟨fun σ' H' => ∃ m', m' < m ∧ LInv K H (.ref bb) b m' σ' H', fun _ _ z => z, ?_⟩
    refine ⟨_, rfl, .inl ⟨rfl, _, SqL.of hwl⟩, wl, _, y, rfl, rfl, hwl, by simp, ?_⟩
    rw [List.dropLast_concat]
    have k1 : Tk H' (upd H' wl (.lst zs)) := tk_lst hwl _
    have htl1 : (upd H' wl (.lst zs)) tl = some (.lst ys) := by rw [upd_ne hne]; exact htl
    have lys := dy.len
    rw [S.ds_len] at lys
    have lzs := dz.len
    rw [S.ds_len, List.length_reverse] at lzs
    have cw := cnts_len wr
    simp only [S.cnts] at lt em
    have cs := cnt_eq s1
    refine ⟨_, rfl, .inl ⟨rfl, _, SqL.of htl1⟩, _, rfl, tl, _, y, rfl, rfl, htl1, by rw [sizeLine_eq]; omega, ?_⟩
    have k2 : Tk H' (upd (upd H' wl (.lst zs)) tl (.lst (ys ++ [y]))) := k1.trans (tk_lst htl1 _)
    have G2 : Same H (upd (upd H' wl (.lst zs)) tl (.lst (ys ++ [y]))) := same_upd tl0 (same_upd wl0 GH)
    have hwl2 : (upd (upd H' wl (.lst zs)) tl (.lst (ys ++ [y]))) wl = some (.lst zs) := by rw [upd_ne (Ne.symm hne)]; exact upd_same
    have htl2 : (upd (upd H' wl (.lst zs)) tl (.lst (ys ++ [y]))) tl = some (.lst (ys ++ [y])) := upd_same
    generalize hH2 : (upd (upd H' wl (.lst zs)) tl (.lst (ys ++ [y]))) = H2 at k2 G2 hwl2 htl2
    refine ⟨_, rfl, y, s1, rfl, dy1.mono k2, fun r bs H3 g3 hr0 hr3 db => ?_⟩
    have htl3 := g3 _ _ htl2
    have hwl3 := g3 _ _ hwl2
    have hrt : r ≠ tl := fun z => by rw [z, htl2] at hr0; cases hr0
    have hrw : r ≠ wl := fun z => by rw [z, hwl2] at hr0; cases hr0
    have hlb : bs.length = s1.bods.length := by rw [db.len, List.length_map]
    refine ⟨r, bs, rfl, SqL.of hr3, for_rev (xs := bs) (fun i σ H5 => ∃ m4' vs5, σ = [some (.ref bb), some (.ref tl), some (.ref wl), some y, m4'] ∧ Same H H5 ∧ Tk H3 H5 ∧ H5 tl = some (.lst (ys ++ [y])) ∧ H5 r = some (.lst bs) ∧ H5 wl = some (.lst vs5) ∧
      DTs K H5 vs5.reverse (S.ds ((s1.bods.reverse.take i).reverse.flatten ++ wr))) ⟨m4, zs, rfl, G2.trans g3, fun _ _ z => z, htl3, hr3, hwl3, by simpa using (dz.mono k2).mono (tk_same g3)⟩ (fun i σ H5 _ p => ?_) (fun i x σ H5 hx p => ?_) (fun σ H5 p => ?_)⟩
    · obtain ⟨_, _, rfl, _, _, _, h, _⟩ := p
      exact SqL.of h
    · obtain ⟨m4', vs5, rfl, G5, k5, ht5, hr5, hw5, dv5⟩ := p
      have dbr := (db.mono k5).rev
      obtain ⟨dd, hdd, dx⟩ := dbr.get i x hx
      rw [← List.map_reverse, List.getElem?_map] at hdd
      obtain ⟨B, hB, rfl⟩ := Option.map_eq_some_iff.mp hdd
      obtain ⟨p, xp, rfl, hp, dp⟩ := DT.open dx
      refine ⟨_, rfl, .inl ⟨rfl, _, SqL.of hw5⟩, _, rfl, p, xp, rfl, .inr (SqT.of hp), fun l hl => ?_⟩
      have gl := same_new hl (.lst xp.reverse)
      have hw6 := gl _ _ hw5
      have es : (s1.bods.reverse.take (i + 1)).reverse.flatten = B ++ (s1.bods.reverse.take i).reverse.flatten := by
        rw [List.take_add_one, hB]
        simp
      have dn : DTs K H5 (vs5 ++ xp.reverse).reverse (S.ds ((s1.bods.reverse.take (i + 1)).reverse.flatten ++ wr)) := by
        rw [es, List.reverse_append, List.reverse_reverse, List.append_assoc, S.ds_app]
        exact DTs.append dp dv5
      have ln := dn.len
      rw [S.ds_len, List.length_reverse, List.length_append] at ln
      have cl := cnts_len ((s1.bods.reverse.take (i + 1)).reverse.flatten ++ wr)
      have cb : S.cnts (s1.bods.reverse.take (i + 1)).reverse.flatten ≤ S.cnts s1.bods.flatten := by
        have e1 : (s1.bods.reverse.take (i + 1)).reverse = s1.bods.drop (s1.bods.length - (i + 1)) := by rw [List.take_reverse, List.reverse_reverse]
        rw [e1]
        conv => rhs; rw [← List.take_append_drop (s1.bods.length - (i + 1)) s1.bods]
        rw [List.flatten_append, S.cnts_app]
        omega
      rw [S.cnts_app] at cl
      rw [List.length_append] at ln
      refine ⟨wl, l, _, _, rfl, rfl, hw6, upd_same, by rw [sizeLine_eq]; rw [List.length_append] at cl; omega, ?_⟩
      have k6 : Tk H5 _ := (tk_same gl).trans (tk_lst hw6 (.lst (vs5 ++ xp.reverse)))
      have hwr5 : wl ≠ r := Ne.symm hrw
      refine ⟨_, _, rfl, same_upd wl0 (G5.trans gl), k5.trans k6, by rw [upd_ne hne]; exact gl _ _ ht5, by rw [upd_ne hrw]; exact gl _ _ hr5, upd_same, dn.mono k6⟩
    · obtain ⟨m4', vs5, rfl, G5, k5, ht5, hr5, hw5, dv5⟩ := p
      have ee : (s1.bods.reverse.take bs.length).reverse.flatten = s1.bods.flatten := by
        rw [hlb, ← List.length_reverse (as := s1.bods), List.take_length, List.reverse_reverse]
      rw [ee] at dv5
      refine ⟨S.cnts (s1.bods.flatten ++ wr), by rw [S.cnts_app]; omega, _, _, tl, wl, _, vs5, ts ++ [s1], s1.bods.flatten ++ wr, rfl, G5, tl0, wl0, hne, ht5, hw5, ?_, dv5, ?_, rfl⟩
      · rw [S.ds_snoc]
        exact DTs.snoc (((dy1.mono k2).mono (tk_same g3)).mono k5) (((dy.mono k2).mono (tk_same g3)).mono k5)
      · rw [ef, flats_app]
        simp only [S.flats, flat_eq s1, List.append_assoc, List.singleton_append, List.cons_append, List.nil_append]
  · have hv : vs = [] := by
      cases vs with
      | nil => rfl
      | cons a r => exact absurd rfl cc
    subst hv
    have hw' : ws = [] := by
      cases ws with
      | nil => rfl
      | cons a r => simp only [S.ds] at dv; cases dv
    subst hw'
    refine ⟨_, rfl, ?_⟩
    refine q tl ys H' GH tl0 htl ?_
    rw [ef]
    simpa [S.flats] using dy
abbrev n_lines_of : List Str := ["function"]
theorem sc_lines_of : FnScope n_lines_of ["function"] (defScope s_lines_of) := ⟨rfl, rfl, rfl, by decide +kernel, rfl, by decide +kernel, by decide +kernel⟩
def spOf (K : PySem.W.Frag) : Sp := fun vs H Q _ => ∃ u F, vs = [u] ∧ FunAt K H u F ∧ S.cnts F.2 ≤ 1000 ∧ ∀ r ys H', Same H H' → H r = none → H' r = some (.lst ys) → DTs K H' ys (S.ds (S.flats F.2)) → Q (.ref r) H'
theorem ok_of (F : Fun K "lines_of" "lines_of" s_lines_of f fd) (D_lines_in : Cal P w K mg base 2 "lines_in" ["body"] (spIn K)) : FnOk P w K mg base CX0 3 f fd ["function"] (spOf K) := by
  obtain ⟨g_lines_in, gd_lines_in, G_lines_in, b_lines_in, k_lines_in, m_lines_in⟩ := D_lines_in.ex
  refine F.ok sc_lines_of (fun vs H Q EX h => ?_) (fun cdv A outer s H vs Q EX hr h => ?_)
  · obtain ⟨u, b, rfl, _⟩ := h
    rfl
  obtain ⟨u, FF, rfl, ⟨a, p, q', bb, xs, rfl, ha, h1, h2, hbb, dx⟩, hc, q⟩ := h
  refine ⟨_, (@pss_one _ _ _ (@ps_ret _ _ _ _ (@pe_call _ _ _ _ _ _ _ _ _ _ _ _ _ _ _ _ G_lines_in (hr.mono (by omega)) rfl m_lines_in k_lines_in b_lines_in .nil pass0 (@pa_cons _ _ _ _ _ (@pe_ix _ _ _ _ _ _ _ ix_tup (pv 0) pe_int (fun _ _ => rfl)) pa_nil (star_of rfl)) (by decide) (star_of rfl) (plain_of rfl)))), ?_⟩
  exact ⟨_, rfl, a, _, _, _, rfl, rfl, SqT.of ha, rfl, .ref bb, FF.2, rfl, .tup (.inl hbb) dx, hc, q⟩
abbrev n_within : List Str := ["statement", "told", "body"]
theorem sc_within : FnScope n_within ["statement"] (defScope s_within) := ⟨rfl, rfl, rfl, by decide +kernel, rfl, by decide +kernel, by decide +kernel⟩
def spWithin (K : PySem.W.Frag) : Sp := fun vs H Q _ => ∃ u s, vs = [u] ∧ DT K H u (S.d s) ∧ s.cnt ≤ 1000 ∧ ∀ r ys H', Same H H' → H r = none → H' r = some (.lst ys) → DTs K H' ys (S.ds (S.flats s.bods.flatten)) → Q (.ref r) H'
theorem cnts_bods : ∀ {l : List (List S)} {i : Nat} {B : List S}, l[i]? = some B → S.cnts (l.take i).flatten + S.cnts B ≤ S.cnts l.flatten
  | [], i, B, h => by simp at h
  | a :: r, 0, B, h => by
    have h' : a = B := by simpa using h
    subst h'
    simp [S.cnts, S.cnts_app]
  | a :: r, i + 1, B, h => by
    have := cnts_bods (l := r) (i := i) (B := B) (by simpa using h)
    simp only [List.take_succ_cons, List.flatten_cons, S.cnts_app]
    omega
theorem ok_within (T : G0 mg) (F : Fun K "within" "within" s_within f fd) (D_bodies_of : Cal P w K mg base 1 "bodies_of" ["statement"] (spBods K)) (D_lines_in : Cal P w K mg base 2 "lines_in" ["body"] (spIn K)) : FnOk P w K mg base CX0 3 f fd ["statement"] (spWithin K) := by
  obtain ⟨g_bodies_of, gd_bodies_of, G_bodies_of, b_bodies_of, k_bodies_of, m_bodies_of⟩ := D_bodies_of.ex
  obtain ⟨g_lines_in, gd_lines_in, G_lines_in, b_lines_in, k_lines_in, m_lines_in⟩ := D_lines_in.ex
  refine F.ok sc_within (fun vs H Q EX h => ?_) (fun cdv A outer s H vs Q EX hr h => ?_)
  · obtain ⟨u, b, rfl, _⟩ := h
    rfl
  obtain ⟨u, s1, rfl, hu, hc, q⟩ := h
  have cs := cnt_eq s1
  refine ⟨_, (@pss_cons _ _ _ _ _ (@ps_set _ _ 1 _ _ _ _ sc_within.nd rfl (Or.inl rfl) (@pe_lst _ _ _ _ pa_nil) (swaps_of rfl) (.inr rfl)) (@pss_cons _ _ _ _ _ (@ps_for _ _ _ _ _ _ _ _ PassesOwn.never rfl (pi_list (@pe_call _ _ _ _ _ _ _ _ _ _ _ _ _ _ _ _ G_bodies_of (hr.mono (by omega)) rfl m_bodies_of k_bodies_of b_bodies_of .nil pass0 (@pa_cons _ _ _ _ _ (pv 0) pa_nil (star_of rfl)) (by decide) (star_of rfl) (plain_of rfl))) (pg_name (i := 2) sc_within.nd rfl (Or.inl rfl)) (@pss_one _ _ _ (@ps_expr _ _ _ _ (@pe_bm _ _ _ _ _ _ _ _ _ _ _ _ PySem.F.plainAttrs_list PySem.F.slot_list_extend PySem.F.type_list_extend mt_extend (pv 1) (@pa_cons _ _ _ _ _ (@pe_call _ _ _ _ _ _ _ _ _ _ _ _ _ _ _ _ G_lines_in (hr.mono (by omega)) rfl m_lines_in k_lines_in b_lines_in .nil pass0 (@pa_cons _ _ _ _ _ (pv 2) pa_nil (star_of rfl)) (by decide) (star_of rfl) (plain_of rfl)) pa_nil (star_of rfl)) rfl (few_of rfl rfl) rfl (star_of rfl) (plain_of rfl)) (swaps_of rfl))) (fun _ => rfl)) (@pss_one _ _ _ (@ps_ret _ _ _ _ (pv 1))))), ?_⟩
  refine ⟨(by show 0 ≤ sizeLine; decide), fun t0 ht0 => ?_⟩
  have g0 := same_new ht0 (.lst [])
  refine ⟨_, rfl, u, s1, rfl, hu.mono (tk_same g0), fun r bs H3 g3 hr0 hr3 db => ?_⟩
  have hrt : r ≠ t0 := fun z => by rw [z, upd_same] at hr0; cases hr0
  have hlb : bs.length = s1.bods.length := by rw [db.len, List.length_map]
  refine ⟨r, rfl, ⟨bs, SqL.of hr3⟩, for_list (xs := bs) (fun i σ H5 => ∃ m2 ys, σ = [some u, some (.ref t0), m2] ∧ Same H H5 ∧ Tk H3 H5 ∧ H5 r = some (.lst bs) ∧ H5 t0 = some (.lst ys) ∧ DTs K H5 ys (S.ds (S.flats (s1.bods.take i).flatten)))
    ⟨none, [], rfl, g0.trans g3, fun _ _ z => z, hr3, g3 _ _ upd_same, .nil⟩ (fun i σ H5 _ p => ?_) (fun i x σ H5 hx p => ?_) (fun σ H5 p => ?_)⟩
  · obtain ⟨_, _, rfl, _, _, h, _⟩ := p
    exact SqL.of h
  · obtain ⟨m2, ys, rfl, G5, k5, hr5, ht5, dy⟩ := p
    obtain ⟨dd, hdd, dx⟩ := (db.mono k5).get i x hx
    rw [List.getElem?_map] at hdd
    obtain ⟨B, hB, rfl⟩ := Option.map_eq_some_iff.mp hdd
    have cb := cnts_bods hB
    refine ⟨_, rfl, .inl ⟨rfl, _, SqL.of ht5⟩, _, rfl, x, B, rfl, dx, by omega, fun r2 y2 H6 g6 hr20 h26 d26 => ?_⟩
    have ht6 := g6 _ _ ht5
    have ly := dy.len
    have ly2 := d26.len
    rw [S.ds_len, flats_len] at ly ly2
    refine ⟨t0, r2, _, _, rfl, rfl, ht6, h26, by rw [sizeLine_eq]; omega, ?_⟩
    have k6 : Tk H5 (upd H6 t0 (.lst (ys ++ y2))) := (tk_same g6).trans (tk_lst ht6 _)
    have e : S.flats (s1.bods.take (i + 1)).flatten = S.flats (s1.bods.take i).flatten ++ S.flats B := by
      rw [List.take_add_one, hB, List.flatten_append, flats_app]
      simp
    refine ⟨_, _, rfl, same_upd ht0 (G5.trans g6), k5.trans k6, by rw [upd_ne hrt]; exact g6 _ _ hr5, upd_same, ?_⟩
    rw [e, S.ds_app]
    exact DTs.append (dy.mono k6) (d26.mono (tk_lst ht6 _))
  · obtain ⟨m2, ys, rfl, G5, k5, hr5, ht5, dy⟩ := p
    rw [hlb, List.take_length] at dy
    exact ⟨_, rfl, q t0 ys H5 G5 ht0 ht5 dy⟩
end
end K6

set_option Elab.async false
set_option linter.all false
set_option maxRecDepth 100000
set_option maxHeartbeats 4000000
namespace L2
open PySem PySem.Spec PyProof.Rows
section
variable {X : Cx}
def rNilN (K : PySem.W.Frag) : R2 := fun x y H Q => ∃ a b xs, x = .ref a ∧ y = .ref b ∧ SqT K H a xs ∧ SqT K H b [] ∧ Q (.bl (!xs.isEmpty)) H
theorem op_neNilT (hu : X.A.units < cLine) : OpR X (compareOp .NotEq) (rNilN X.K) := by
  intro pins s σ H x y v u Q I rx ry h
  obtain ⟨a, b, xs, rfl, rfl, ha, hb, q⟩ := h
  cases rx
  cases ry
  obtain ⟨i1, r1, p1, _⟩ := I.tuple ha
  obtain ⟨i2, r2, p2, _⟩ := I.tuple hb
  cases r2
  refine SeqAt.RcNeAt.tuples (e := fun _ => true) p1 p2 hu (fun j h1 h2 => absurd h2 (by simp)) _ _ _ _ (fin_bl I q ?_)
  cases r1 <;> simp
/-- a tuple in a list of texts -/
def rInX (K : PySem.W.Frag) : R2 := fun x y H Q => ∃ a b xs, ∃ ts : List Str, x = .ref a ∧ y = .ref b ∧ SqT K H a xs ∧ SqL K H b (ts.map V.str) ∧ Q (.bl false) H
theorem vals_str : ∀ {ts : List Str} {vs : List Value}, Vals (ts.map V.str) vs → ∀ v ∈ vs, ∃ z t, v = Value.str z t
  | [], _, .nil, v, h => nomatch h
  | z :: r, _, .cons h1 h2, v, h => by
    rcases List.mem_cons.mp h with rfl | h
    · obtain ⟨t, e⟩ := h1
      exact ⟨z, t, e⟩
    · exact vals_str h2 v h
theorem op_inX (hu : X.A.units + 64 < cLine) : OpR X (compareOp .In) (rInX X.K) := by
  intro pins s σ H x y v u Q I rx ry h
  obtain ⟨a, b, xs, ts, rfl, rfl, ha, hb, q⟩ := h
  cases rx
  cases ry
  obtain ⟨i1, r1, p1, _⟩ := I.tuple ha
  obtain ⟨i2, r2, p2, _⟩ := I.list hb
  have hin : X.A.in1.units < cLine := by
    have : X.A.in1.units ≤ X.A.units + 1 := by simp [Around.in1]
    omega
  refine SeqAt.in_listAt (fun _ => false) p2.isList (fun y hy => ?_) ⟨.bl false, H, I, ?_, q⟩
  · obtain ⟨z, t, rfl⟩ := vals_str r2 y (by simpa using hy)
    exact SeqAt.EqAt.str_tuple z t p1 hin
  · show Value.bool _ = Value.bool _
    simp
end
end L2
namespace K6
open PySem L2
def hAt : List PyData → Bool
  | .str z :: r => (decide (z = "at") && r.length == 2) || (decide (z = "put") && r.length == 3)
  | _ => false
theorem at_ne : ¬ (Str.ofString "at" = Str.ofString "put") := by decide +kernel
theorem put_ne : ¬ (Str.ofString "put" = Str.ofString "at") := by decide +kernel
mutual
def lk : PyData → Bool
  | .tuple xs => hAt xs || lks xs
  | _ => false
def lks : List PyData → Bool
  | [] => false
  | x :: r => lk x || lks r
end
theorem lks_app : ∀ a b : List PyData, lks (a ++ b) = (lks a || lks b)
  | [], b => by simp [lks]
  | x :: r, b => by simp only [List.cons_append, lks, lks_app r b, Bool.or_assoc]
section
variable {P : Program} {w : World} {K : PySem.W.Frag} {mg : Str → Option Value} {base : Heap} {f g : Addr} {fd gd : FuncData}
abbrev n_l_looks_up : List Str := ["_law_thing", "_law_left", "_law_one"]
theorem sc_l_looks_up : FnScope n_l_looks_up ["_law_thing"] (defScope s_l_looks_up) := ⟨rfl, rfl, rfl, by decide +kernel, rfl, by decide +kernel, by decide +kernel⟩
def spLU (K : PySem.W.Frag) : Sp := fun vs H Q _ => ∃ u d, vs = [u] ∧ DT K H u d ∧ zD d ≤ 1000000 ∧ ∀ b H', Same H H' → b = lk d → Q (.bl b) H'
def UInv (K : PySem.W.Frag) (u : V) (d : PyData) (l : Addr) (H0 : Hp) (m : Nat) (σ : St) (H' : Hp) : Prop :=
  ∃ ys ds m2, σ = [some u, some (.ref l), m2] ∧ Ext l H0 H' ∧ H' l = some (.lst ys) ∧ DTs K H' ys ds ∧ lk d = lks ds ∧ m = zDs ds ∧ zDs ds ≤ zD d
theorem ext_same {l : Addr} {H H' : Hp} {o : HO} (hl : H l = none) (x : Ext l (upd H l o) H') : Same H H' := fun b u e => x b u (ne_of_none e hl) (by rw [upd_ne (ne_of_none e hl)]; exact e)
theorem same_upd2 {p : Addr} {H2 H3 : Hp} (g : Same H2 H3) (h : H3 p = none) (o o' : HO) : Same H2 (upd (upd H3 p o) p o') := fun b u e => by rw [upd_ne (ne_of_none (g _ _ e) h), upd_ne (ne_of_none (g _ _ e) h)]; exact g _ _ e
theorem ok_lu (T : G0 mg) (F : Fun K "_law_looks_up" "_law_looks_up" s_l_looks_up f fd) : FnOk P w K mg base CX0 1 f fd ["_law_thing"] (spLU K) := by
  refine F.ok sc_l_looks_up (fun vs H Q EX h => ?_) (fun cdv A outer s H vs Q EX hr h => ?_)
  · obtain ⟨u, d, rfl, _⟩ := h
    rfl
  obtain ⟨u, d, rfl, hu, hz, q⟩ := h
  refine ⟨_, (@pss_cons _ _ _ _ _ (@ps_set _ _ 1 _ _ _ _ sc_l_looks_up.nd rfl (Or.inl rfl) (@pe_lst _ _ _ _ (@pa_cons _ _ _ _ _ (pv 0) pa_nil (star_of rfl))) (swaps_of rfl) (.inr rfl)) (@pss_cons _ _ _ _ _ (ps_while PassesOwn.never (@pt_cmpR _ _ _ _ _ _ _ _ (op_neNil hr.units0) (pv 1) (@pe_lst _ _ _ _ pa_nil) (nomark _)) (@pss_cons _ _ _ _ _ (@ps_set _ _ 2 _ _ _ _ sc_l_looks_up.nd rfl (Or.inl rfl) (pe_bm0 PySem.F.plainAttrs_list PySem.F.slot_list_pop PySem.F.type_list_pop mt_pop (pv 1)) (swaps_of rfl) (.inr rfl)) (@pss_one _ _ _ (@ps_if _ _ _ _ _ _ _ _ (pt_val (@pe_callB _ _ _ _ _ _ _ _ _ call_isi rfl T.isi b_isi (@pa_cons _ _ _ _ _ (pv 2) (@pa_cons _ _ _ _ _ (pe_bltn (v := .ty "tuple") rfl T.tuple b_tuple rfl) pa_nil (star_of rfl)) (star_of rfl)) (by decide) (by decide) (star_of rfl) (plain_of rfl))) (@pss_cons _ _ _ _ _ (@ps_if _ _ _ _ _ _ _ _ (PW.pt (pw_and (@pt_cmpR _ _ _ _ _ _ _ _ (op_neNilT hr.units0) (pv 2) (@pe_tup _ _ _ _ _ pa_nil) (nomark _)) (pw_and (@pt_cmpR _ _ _ _ _ _ _ _ (op_in_seq.or (op_inX hr.units)) (@pe_ix _ _ _ _ _ _ _ ix_tup (pv 2) pe_int (fun _ _ => rfl)) (@pe_lst _ _ _ _ (@pa_cons _ _ _ _ _ pe_str (@pa_cons _ _ _ _ _ pe_str pa_nil (star_of rfl)) (star_of rfl))) rfl) (pw_and1 (@pt_cmpR _ _ _ _ _ _ _ _ op_eq (@pe_callB _ _ _ _ _ _ _ _ _ call_len_seq rfl T.len b_len (@pa_cons _ _ _ _ _ (pv 2) pa_nil (star_of rfl)) (by decide) (by decide) (star_of rfl) (plain_of rfl)) (@pe_ix _ _ _ _ _ _ _ ix_dict (@pe_disp _ _ _ _ _ (@pps_cons _ _ _ _ _ _ _ _ _ pe_str pe_int (@pps_cons _ _ _ _ _ _ _ _ _ pe_str pe_int pps_nil)) rfl rfl (by simp) (by decide)) (@pe_ix _ _ _ _ _ _ _ ix_tup (pv 2) pe_int (fun _ _ => rfl)) (fun _ _ => rfl)) (nomark _)))))) (@pss_one _ _ _ (@ps_ret _ _ _ _ pe_bl)) pss_nil) (@pss_one _ _ _ (@ps_expr _ _ _ _ (@pe_bm _ _ _ _ _ _ _ _ _ _ _ _ PySem.F.plainAttrs_list PySem.F.slot_list_extend PySem.F.type_list_extend mt_extend (pv 1) (@pa_cons _ _ _ _ _ (@pe_callTy _ _ _ _ _ _ _ _ _ call_list_of rfl T.list b_list (@pa_cons _ _ _ _ _ (pv 2) pa_nil (star_of rfl)) (by decide) (by decide) (star_of rfl) (plain_of rfl)) pa_nil (star_of rfl)) rfl (few_of rfl rfl) rfl (star_of rfl) (plain_of rfl)) (swaps_of rfl)))) pss_nil)))) (@pss_one _ _ _ (@ps_ret _ _ _ _ pe_bl)))), ?_⟩
  refine ⟨_, rfl, (by show 1 ≤ sizeLine; decide), fun l hl => ?_⟩
  have g0 := same_new hl (.lst [u])
  have hl0 : (upd H l (.lst [u])) l = some (.lst [u]) := upd_same
  refine ⟨UInv K u d l (upd H l (.lst [u])), ⟨_, [u], [d], none, rfl, Ext.refl _ _, hl0, .cons (hu.mono (tk_same g0)) .nil, by simp [lks], rfl, by simp [zDs]⟩, ?_⟩
  rintro m σ H' ⟨ys, ds, m3, rfl, x1, hy, dy, ec, em, ez⟩
  refine ⟨_, rfl, (by show 0 ≤ sizeLine; decide), fun e he => ⟨l, e, ys, rfl, rfl, SqL.of (same_new he _ _ _ hy), SqL.of upd_same, _, rfl, ?_⟩⟩
  have ge := same_new he (.lst [])
  have hy1 := ge _ _ hy
  refine ite2 (fun cc => ?_) (fun cc => ?_)
  · obtain ⟨zs, y, rfl⟩ : ∃ zs y, ys = zs ++ [y] := by
      rcases List.eq_nil_or_concat ys with rfl | ⟨zs, y, e⟩
      · exact absurd cc (by decide)
      · exact ⟨zs, y, by rw [e, List.concat_eq_append]⟩
    obtain ⟨es, e1, rfl, dz, d1⟩ := dy.snoc_inv
    refine ⟨fun σ' H' => ∃ m', m' < m ∧ UInv K u d l (upd H l (.lst [u])) m' σ' H', fun _ _ z => z, ?_⟩
    refine ⟨_, rfl, .inl ⟨rfl, _, SqL.of hy1⟩, l, _, y, rfl, rfl, hy1, by simp, ?_⟩
    rw [List.dropLast_concat]
    have kT : Tk H' (upd (upd H' e (.lst [])) l (.lst zs)) := (tk_same ge).trans (tk_lst hy1 _)
    have x2 : Ext l (upd H l (.lst [u])) (upd (upd H' e (.lst [])) l (.lst zs)) := (x1.trans (Same.ext ge)).trans Ext.upd
    have hy2 : (upd (upd H' e (.lst [])) l (.lst zs)) l = some (.lst zs) := upd_same
    have dz2 := dz.mono kT
    have d2 := d1.mono kT
    rw [lks_app] at ec
    rw [zDs_app] at em ez
    simp only [lks, zDs, Nat.add_zero, Bool.or_false] at ec em ez
    generalize hH : (upd (upd H' e (.lst [])) l (.lst zs)) = H2 at x2 hy2 dz2 d2
    have plainR : lk e1 = false → ∃ m', m' < m ∧ UInv K u d l (upd H l (.lst [u])) m' [some u, some (.ref l), some y] H2 := fun e0 => by
      have := zD_pos e1
      exact ⟨zDs es, by omega, zs, es, _, rfl, x2, hy2, dz2, by rw [ec, e0, Bool.or_false], rfl, by omega⟩
    cases d2 with
    | int i => exact ⟨_, rfl, _, _, _, false, rfl, .int i, rfl, _, rfl, iteF (plainR (by simp only [lk]))⟩
    | str z => exact ⟨_, rfl, _, _, _, false, rfl, .str z, rfl, _, rfl, iteF (plainR (by simp only [lk]))⟩
    | @tup a xs ds' ha dx =>
    have ha' := ha.hp
    simp only [lk] at ec
    simp only [zD] at em ez
    have lx := dx.len
    have lz := dz2.len
    have zl := zDs_len es
    have zl' := zDs_len ds'
    have sz : zs.length + xs.length ≤ sizeLine := by rw [sizeLine_eq]; omega
    have fin : ∀ (H3 : Hp) (l2 : Addr), Same H2 H3 → H3 l2 = none → hAt ds' = false → ∃ m', m' < m ∧ UInv K u d l (upd H l (.lst [u])) m' [some u, some (.ref l), some (.ref a)] (upd (upd H3 l2 (.lst xs)) l (.lst (zs ++ xs))) := by
      intro H3 l2 g3 hl2 hh
      have g4 := g3.trans (same_new hl2 (.lst xs))
      have hy4 := g4 _ _ hy2
      have kL := (tk_same g4).trans (tk_lst hy4 (.lst (zs ++ xs)))
      exact ⟨zDs es + zDs ds', by omega, zs ++ xs, es ++ ds', _, rfl, (x2.trans (Same.ext g4)).trans Ext.upd, upd_same, DTs.append (dz2.mono kL) (dx.mono kL), by rw [ec, lks_app, hh, Bool.false_or], by rw [zDs_app], by rw [zDs_app]; omega⟩
    refine ⟨_, rfl, _, _, _, true, rfl, .tup ha', rfl, _, rfl, iteT ?_⟩
    refine ⟨_, rfl, (by show 0 ≤ sizeLine; decide), fun t ht => ⟨a, t, xs, rfl, rfl, SqT.of (same_new ht _ _ _ ha'), SqT.of upd_same, _, rfl, ?_⟩⟩
    have gt := same_new ht (.tup [])
    cases dx with
    | nil => exact iteF (iteF ⟨_, rfl, .inl ⟨rfl, _, SqL.of (gt _ _ hy2)⟩, _, rfl, a, _, rfl, .inr (SqT.of (gt _ _ ha')), fun l2 hl2 => ⟨l, l2, zs, _, rfl, rfl, same_new hl2 _ _ _ (gt _ _ hy2), upd_same, sz, fin _ l2 (gt) hl2 (by simp [hAt])⟩⟩)
    | @cons x0 xr e0 er h0 hrr =>
    refine iteT ?_
    refine ⟨_, rfl, a, _, _, _, rfl, rfl, SqT.of (gt _ _ ha'), at0 _ _, (by show 2 ≤ sizeLine; decide), fun pl hpl => ?_⟩
    have g3 := gt.trans (same_new hpl (.lst [.str "at", .str "put"]))
    cases h0 with
    | int i =>
      refine .inl ⟨pl, _, rfl, .inl (SqL.of upd_same), rfl, rfl, _, rfl, ?_⟩
      refine iteF (iteF ⟨_, rfl, .inl ⟨rfl, _, SqL.of (g3 _ _ hy2)⟩, _, rfl, a, _, rfl, .inr (SqT.of (g3 _ _ ha')), fun l2 hl2 => ⟨l, l2, zs, _, rfl, rfl, same_new hl2 _ _ _ (g3 _ _ hy2), upd_same, sz, fin _ l2 (g3) hl2 rfl⟩⟩)
    | @tup a0 xs0 d0 ha0 dx0 =>
      refine .inr ⟨a0, pl, xs0, ["at", "put"], rfl, rfl, SqT.of (g3 _ _ ha0.hp), SqL.of upd_same, _, rfl, ?_⟩
      refine iteF (iteF ⟨_, rfl, .inl ⟨rfl, _, SqL.of (g3 _ _ hy2)⟩, _, rfl, a, _, rfl, .inr (SqT.of (g3 _ _ ha')), fun l2 hl2 => ⟨l, l2, zs, _, rfl, rfl, same_new hl2 _ _ _ (g3 _ _ hy2), upd_same, sz, fin _ l2 (g3) hl2 rfl⟩⟩)
    | str z =>
      refine .inl ⟨pl, _, rfl, .inl (SqL.of upd_same), rfl, rfl, _, rfl, ?_⟩
      refine ite2 (fun c => ?_) (fun c => ?_)
      · have hz2 : z = "at" ∨ z = "put" := by
          have c' : ((Str.ofString "at" == z) || (Str.ofString "put" == z)) = true := by simpa [inV, eqV] using c
          rcases Bool.or_eq_true_iff.mp c' with h | h
          · exact .inl (eq_of_beq h).symm
          · exact .inr (eq_of_beq h).symm
        rcases hz2 with rfl | rfl
        ·
          refine ⟨_, rfl, a, _, rfl, .inr (SqT.of (g3 _ _ ha')), fun pd hpd => ?_⟩
          have g4 := g3.trans (same_new hpd (.dK []))
          refine ⟨upd_same, [(Sum.inr "at", .int 3), (Sum.inr "put", .int 4)], rfl, (by show 2 ≤ 15; decide), ?_⟩
          have g5 := same_upd2 g3 hpd (.dK []) (.dK (mergeK [] [(Sum.inr "at", .int 3), (Sum.inr "put", .int 4)]))
          refine ⟨_, rfl, a, _, _, _, rfl, rfl, SqT.of (g5 _ _ ha'), at0 _ _, pd, _, _, .int 3, rfl, rfl, upd_same, (by decide +kernel), rfl, _, rfl, ?_⟩
          refine ite2 (fun c => ?_) (fun c => ?_)
          · have c1 : er.length = 2 := by
              have := V.int.inj (of_decide_eq_true c)
              rw [List.length_cons] at this lx
              rw [List.length_cons] at lx
              omega
            refine q _ _ ((ext_same hl x2).trans g5) ?_
            rw [ec]
            simp [hAt, c1]
          · have c1 : ¬ er.length = 2 := fun z => c (decide_eq_true (congrArg V.int (by rw [List.length_cons]; rw [List.length_cons, List.length_cons] at lx; omega)))
            exact ⟨_, rfl, .inl ⟨rfl, _, SqL.of (g5 _ _ hy2)⟩, _, rfl, a, _, rfl, .inr (SqT.of (g5 _ _ ha')), fun l2 hl2 => ⟨l, l2, zs, _, rfl, rfl, same_new hl2 _ _ _ (g5 _ _ hy2), upd_same, sz, fin _ l2 (g5) hl2 (by simp [hAt, c1, at_ne, put_ne])⟩⟩
        ·
          refine ⟨_, rfl, a, _, rfl, .inr (SqT.of (g3 _ _ ha')), fun pd hpd => ?_⟩
          have g4 := g3.trans (same_new hpd (.dK []))
          refine ⟨upd_same, [(Sum.inr "at", .int 3), (Sum.inr "put", .int 4)], rfl, (by show 2 ≤ 15; decide), ?_⟩
          have g5 := same_upd2 g3 hpd (.dK []) (.dK (mergeK [] [(Sum.inr "at", .int 3), (Sum.inr "put", .int 4)]))
          refine ⟨_, rfl, a, _, _, _, rfl, rfl, SqT.of (g5 _ _ ha'), at0 _ _, pd, _, _, .int 4, rfl, rfl, upd_same, (by decide +kernel), rfl, _, rfl, ?_⟩
          refine ite2 (fun c => ?_) (fun c => ?_)
          · have c1 : er.length = 3 := by
              have := V.int.inj (of_decide_eq_true c)
              rw [List.length_cons] at this lx
              rw [List.length_cons] at lx
              omega
            refine q _ _ ((ext_same hl x2).trans g5) ?_
            rw [ec]
            simp [hAt, c1]
          · have c1 : ¬ er.length = 3 := fun z => c (decide_eq_true (congrArg V.int (by rw [List.length_cons]; rw [List.length_cons, List.length_cons] at lx; omega)))
            exact ⟨_, rfl, .inl ⟨rfl, _, SqL.of (g5 _ _ hy2)⟩, _, rfl, a, _, rfl, .inr (SqT.of (g5 _ _ ha')), fun l2 hl2 => ⟨l, l2, zs, _, rfl, rfl, same_new hl2 _ _ _ (g5 _ _ hy2), upd_same, sz, fin _ l2 (g5) hl2 (by simp [hAt, c1, at_ne, put_ne])⟩⟩
      · have hz2 : z ≠ "at" ∧ z ≠ "put" := ⟨fun h => c (by subst h; decide +kernel), fun h => c (by subst h; decide +kernel)⟩
        refine iteF ⟨_, rfl, .inl ⟨rfl, _, SqL.of (g3 _ _ hy2)⟩, _, rfl, a, _, rfl, .inr (SqT.of (g3 _ _ ha')), fun l2 hl2 => ⟨l, l2, zs, _, rfl, rfl, same_new hl2 _ _ _ (g3 _ _ hy2), upd_same, sz, fin _ l2 (g3) hl2 (by simp [hAt, hz2.1, hz2.2])⟩⟩
  · have hv : ys = [] := by
      cases ys with
      | nil => rfl
      | cons a r => exact absurd rfl cc
    subst hv
    have hw' : ds = [] := by
      cases dy
      rfl
    subst hw'
    exact q _ _ ((ext_same hl x1).trans ge) (by rw [ec]; simp [lks])
end
end K6

set_option Elab.async false
set_option linter.all false
set_option maxRecDepth 100000
set_option maxHeartbeats 4000000
namespace K6
open PySem L2
theorem hAt_no {z : Str} {r : List PyData} (h1 : z ≠ "at") (h2 : z ≠ "put") : hAt (.str z :: r) = false := by simp [hAt, h1, h2]
theorem hAt_E : ∀ es : List E, hAt (E.ds es) = false
  | [] => by simp [E.ds, hAt]
  | e :: r => by cases e <;> simp [E.ds, E.d, hAt]
def S.lgc : S → Prop
  | .let_ _ _ => True
  | .call _ _ _ => True
  | .give _ => True
  | _ => False
inductive Shp : PyData → Prop
  | e (x : E) : Shp x.d
  | s (x : S) : x.lgc → Shp x.d
theorem mem_ds : ∀ (es : List E), ∀ d ∈ E.ds es, Shp d
  | [], d, h => by simp [E.ds] at h
  | e :: r, d, h => by
    simp only [E.ds, List.mem_cons] at h
    rcases h with rfl | h
    · exact .e e
    · exact mem_ds r d h
theorem sh_view {K : PySem.W.Frag} {H : Hp} {u : V} {d : PyData} (h : DT K H u d) (p : Shp d) : ∃ a z rs ds', u = .ref a ∧ H a = some (.tup (.str z :: rs)) ∧ d = .tuple (.str z :: ds') ∧
    ((z = "at" ∨ z = "put") ∧ hAt (.str z :: ds') = true ∨ (z ≠ "at" ∧ z ≠ "put") ∧ hAt (.str z :: ds') = false) ∧
    ((∃ (ps : List Int) (L : List V) (is : List PyData), (z, ps) ∈ SHT7 ∧ ps.length ≤ 10 ∧ L.length = ps.length ∧ (∀ (i : Nat) (p : Int), ps[i]? = some p → ∃ y, atI (.str z :: rs) p = some y ∧ L[i]? = some y) ∧ DTs K H L is ∧ (∀ d ∈ is, Shp d) ∧ lks is = lks (.str z :: ds') ∧ zDs is ≤ zDs ds') ∨
     (∃ p al ys is, (z, p) ∈ LIT ∧ atI (.str z :: rs) p = some (.ref al) ∧ H al = some (.tup ys) ∧ DTs K H ys is ∧ (∀ d ∈ is, Shp d) ∧ lks is = lks (.str z :: ds') ∧ zDs is ≤ zDs ds')) := by
  cases p with
  | e x =>
    cases x with
    | num y1 =>
      simp only [E.d] at h ⊢
      obtain ⟨a, xs, rfl, ha, dx0⟩ := h.open
      obtain ⟨x0, r0, rfl, h0, dx1⟩ := dx0.open
      obtain rfl := h0.str_inv
      obtain ⟨x1, r1, rfl, h1, dx2⟩ := dx1.open
      cases dx2
      exact ⟨a, _, _, _, rfl, ha, rfl, .inr ⟨⟨by decide +kernel, by decide +kernel⟩, hAt_no (by decide +kernel) (by decide +kernel)⟩, .inl ⟨[], [], [], by decide +kernel, by decide, rfl, fun i p h => match i, h with | n, h => by simp at h, .nil, (by simp only [List.mem_cons, List.not_mem_nil, or_false, false_imp_iff, implies_true, forall_eq_or_imp, forall_eq]), by simp [lks, lk], by simp only [zDs]; omega⟩⟩
    | text y1 =>
      simp only [E.d] at h ⊢
      obtain ⟨a, xs, rfl, ha, dx0⟩ := h.open
      obtain ⟨x0, r0, rfl, h0, dx1⟩ := dx0.open
      obtain rfl := h0.str_inv
      obtain ⟨x1, r1, rfl, h1, dx2⟩ := dx1.open
      cases dx2
      exact ⟨a, _, _, _, rfl, ha, rfl, .inr ⟨⟨by decide +kernel, by decide +kernel⟩, hAt_no (by decide +kernel) (by decide +kernel)⟩, .inl ⟨[], [], [], by decide +kernel, by decide, rfl, fun i p h => match i, h with | n, h => by simp at h, .nil, (by simp only [List.mem_cons, List.not_mem_nil, or_false, false_imp_iff, implies_true, forall_eq_or_imp, forall_eq]), by simp [lks, lk], by simp only [zDs]; omega⟩⟩
    | var y1 =>
      simp only [E.d] at h ⊢
      obtain ⟨a, xs, rfl, ha, dx0⟩ := h.open
      obtain ⟨x0, r0, rfl, h0, dx1⟩ := dx0.open
      obtain rfl := h0.str_inv
      obtain ⟨x1, r1, rfl, h1, dx2⟩ := dx1.open
      cases dx2
      exact ⟨a, _, _, _, rfl, ha, rfl, .inr ⟨⟨by decide +kernel, by decide +kernel⟩, hAt_no (by decide +kernel) (by decide +kernel)⟩, .inl ⟨[], [], [], by decide +kernel, by decide, rfl, fun i p h => match i, h with | n, h => by simp at h, .nil, (by simp only [List.mem_cons, List.not_mem_nil, or_false, false_imp_iff, implies_true, forall_eq_or_imp, forall_eq]), by simp [lks, lk], by simp only [zDs]; omega⟩⟩
    | of_ y1 y2 =>
      simp only [E.d] at h ⊢
      obtain ⟨a, xs, rfl, ha, dx0⟩ := h.open
      obtain ⟨x0, r0, rfl, h0, dx1⟩ := dx0.open
      obtain rfl := h0.str_inv
      obtain ⟨x1, r1, rfl, h1, dx2⟩ := dx1.open
      obtain ⟨x2, r2, rfl, h2, dx3⟩ := dx2.open
      cases dx3
      exact ⟨a, _, _, _, rfl, ha, rfl, .inr ⟨⟨by decide +kernel, by decide +kernel⟩, hAt_no (by decide +kernel) (by decide +kernel)⟩, .inl ⟨[1], [x1], [y1.d], by decide +kernel, by decide, rfl, fun i p h => match i, h with | 0, h => by cases h; exact ⟨_, rfl, rfl⟩ | n + 1, h => by simp at h, (.cons h1 .nil), (by simp only [List.mem_cons, List.not_mem_nil, or_false, false_imp_iff, implies_true, forall_eq_or_imp, forall_eq]; exact .e _), by simp [lks, lk], by simp only [zDs]; omega⟩⟩
    | with_ y1 y2 y3 =>
      simp only [E.d] at h ⊢
      obtain ⟨a, xs, rfl, ha, dx0⟩ := h.open
      obtain ⟨x0, r0, rfl, h0, dx1⟩ := dx0.open
      obtain rfl := h0.str_inv
      obtain ⟨x1, r1, rfl, h1, dx2⟩ := dx1.open
      obtain ⟨x2, r2, rfl, h2, dx3⟩ := dx2.open
      obtain ⟨x3, r3, rfl, h3, dx4⟩ := dx3.open
      cases dx4
      exact ⟨a, _, _, _, rfl, ha, rfl, .inr ⟨⟨by decide +kernel, by decide +kernel⟩, hAt_no (by decide +kernel) (by decide +kernel)⟩, .inl ⟨[1, 3], [x1, x3], [y1.d, y3.d], by decide +kernel, by decide, rfl, fun i p h => match i, h with | 0, h => by cases h; exact ⟨_, rfl, rfl⟩ | 1, h => by cases h; exact ⟨_, rfl, rfl⟩ | n + 2, h => by simp at h, (.cons h1 (.cons h3 .nil)), (by simp only [List.mem_cons, List.not_mem_nil, or_false, false_imp_iff, implies_true, forall_eq_or_imp, forall_eq]; exact ⟨.e _, .e _⟩), by simp [lks, lk], by simp only [zDs]; omega⟩⟩
    | new y1 y2 =>
      simp only [E.d] at h ⊢
      obtain ⟨a, xs, rfl, ha, dx0⟩ := h.open
      obtain ⟨x0, r0, rfl, h0, dx1⟩ := dx0.open
      obtain rfl := h0.str_inv
      obtain ⟨x1, r1, rfl, h1, dx2⟩ := dx1.open
      obtain ⟨x2, r2, rfl, h2, dx3⟩ := dx2.open
      cases dx3
      obtain ⟨al, ys, rfl, hal, dys⟩ := h2.open
      exact ⟨a, _, _, _, rfl, ha, rfl, .inr ⟨⟨by decide +kernel, by decide +kernel⟩, hAt_no (by decide +kernel) (by decide +kernel)⟩, .inr ⟨2, al, ys, E.ds y2, by decide +kernel, rfl, hal, dys, mem_ds _, by simp [lks, lk, hAt_E], by simp only [zDs, zD]; omega⟩⟩
    | add y1 y2 =>
      simp only [E.d] at h ⊢
      obtain ⟨a, xs, rfl, ha, dx0⟩ := h.open
      obtain ⟨x0, r0, rfl, h0, dx1⟩ := dx0.open
      obtain rfl := h0.str_inv
      obtain ⟨x1, r1, rfl, h1, dx2⟩ := dx1.open
      obtain ⟨x2, r2, rfl, h2, dx3⟩ := dx2.open
      cases dx3
      exact ⟨a, _, _, _, rfl, ha, rfl, .inr ⟨⟨by decide +kernel, by decide +kernel⟩, hAt_no (by decide +kernel) (by decide +kernel)⟩, .inl ⟨[1, 2], [x1, x2], [y1.d, y2.d], by decide +kernel, by decide, rfl, fun i p h => match i, h with | 0, h => by cases h; exact ⟨_, rfl, rfl⟩ | 1, h => by cases h; exact ⟨_, rfl, rfl⟩ | n + 2, h => by simp at h, (.cons h1 (.cons h2 .nil)), (by simp only [List.mem_cons, List.not_mem_nil, or_false, false_imp_iff, implies_true, forall_eq_or_imp, forall_eq]; exact ⟨.e _, .e _⟩), by simp [lks, lk], by simp only [zDs]; omega⟩⟩
    | sub y1 y2 =>
      simp only [E.d] at h ⊢
      obtain ⟨a, xs, rfl, ha, dx0⟩ := h.open
      obtain ⟨x0, r0, rfl, h0, dx1⟩ := dx0.open
      obtain rfl := h0.str_inv
      obtain ⟨x1, r1, rfl, h1, dx2⟩ := dx1.open
      obtain ⟨x2, r2, rfl, h2, dx3⟩ := dx2.open
      cases dx3
      exact ⟨a, _, _, _, rfl, ha, rfl, .inr ⟨⟨by decide +kernel, by decide +kernel⟩, hAt_no (by decide +kernel) (by decide +kernel)⟩, .inl ⟨[1, 2], [x1, x2], [y1.d, y2.d], by decide +kernel, by decide, rfl, fun i p h => match i, h with | 0, h => by cases h; exact ⟨_, rfl, rfl⟩ | 1, h => by cases h; exact ⟨_, rfl, rfl⟩ | n + 2, h => by simp at h, (.cons h1 (.cons h2 .nil)), (by simp only [List.mem_cons, List.not_mem_nil, or_false, false_imp_iff, implies_true, forall_eq_or_imp, forall_eq]; exact ⟨.e _, .e _⟩), by simp [lks, lk], by simp only [zDs]; omega⟩⟩
    | times y1 y2 =>
      simp only [E.d] at h ⊢
      obtain ⟨a, xs, rfl, ha, dx0⟩ := h.open
      obtain ⟨x0, r0, rfl, h0, dx1⟩ := dx0.open
      obtain rfl := h0.str_inv
      obtain ⟨x1, r1, rfl, h1, dx2⟩ := dx1.open
      obtain ⟨x2, r2, rfl, h2, dx3⟩ := dx2.open
      cases dx3
      exact ⟨a, _, _, _, rfl, ha, rfl, .inr ⟨⟨by decide +kernel, by decide +kernel⟩, hAt_no (by decide +kernel) (by decide +kernel)⟩, .inl ⟨[2], [x2], [y2.d], by decide +kernel, by decide, rfl, fun i p h => match i, h with | 0, h => by cases h; exact ⟨_, rfl, rfl⟩ | n + 1, h => by simp at h, (.cons h2 .nil), (by simp only [List.mem_cons, List.not_mem_nil, or_false, false_imp_iff, implies_true, forall_eq_or_imp, forall_eq]; exact .e _), by simp [lks, lk], by simp only [zDs]; omega⟩⟩
    | div y1 y2 =>
      simp only [E.d] at h ⊢
      obtain ⟨a, xs, rfl, ha, dx0⟩ := h.open
      obtain ⟨x0, r0, rfl, h0, dx1⟩ := dx0.open
      obtain rfl := h0.str_inv
      obtain ⟨x1, r1, rfl, h1, dx2⟩ := dx1.open
      obtain ⟨x2, r2, rfl, h2, dx3⟩ := dx2.open
      cases dx3
      exact ⟨a, _, _, _, rfl, ha, rfl, .inr ⟨⟨by decide +kernel, by decide +kernel⟩, hAt_no (by decide +kernel) (by decide +kernel)⟩, .inl ⟨[1], [x1], [y1.d], by decide +kernel, by decide, rfl, fun i p h => match i, h with | 0, h => by cases h; exact ⟨_, rfl, rfl⟩ | n + 1, h => by simp at h, (.cons h1 .nil), (by simp only [List.mem_cons, List.not_mem_nil, or_false, false_imp_iff, implies_true, forall_eq_or_imp, forall_eq]; exact .e _), by simp [lks, lk], by simp only [zDs]; omega⟩⟩
    | rest y1 y2 =>
      simp only [E.d] at h ⊢
      obtain ⟨a, xs, rfl, ha, dx0⟩ := h.open
      obtain ⟨x0, r0, rfl, h0, dx1⟩ := dx0.open
      obtain rfl := h0.str_inv
      obtain ⟨x1, r1, rfl, h1, dx2⟩ := dx1.open
      obtain ⟨x2, r2, rfl, h2, dx3⟩ := dx2.open
      cases dx3
      exact ⟨a, _, _, _, rfl, ha, rfl, .inr ⟨⟨by decide +kernel, by decide +kernel⟩, hAt_no (by decide +kernel) (by decide +kernel)⟩, .inl ⟨[1], [x1], [y1.d], by decide +kernel, by decide, rfl, fun i p h => match i, h with | 0, h => by cases h; exact ⟨_, rfl, rfl⟩ | n + 1, h => by simp at h, (.cons h1 .nil), (by simp only [List.mem_cons, List.not_mem_nil, or_false, false_imp_iff, implies_true, forall_eq_or_imp, forall_eq]; exact .e _), by simp [lks, lk], by simp only [zDs]; omega⟩⟩
    | len y1 =>
      simp only [E.d] at h ⊢
      obtain ⟨a, xs, rfl, ha, dx0⟩ := h.open
      obtain ⟨x0, r0, rfl, h0, dx1⟩ := dx0.open
      obtain rfl := h0.str_inv
      obtain ⟨x1, r1, rfl, h1, dx2⟩ := dx1.open
      cases dx2
      exact ⟨a, _, _, _, rfl, ha, rfl, .inr ⟨⟨by decide +kernel, by decide +kernel⟩, hAt_no (by decide +kernel) (by decide +kernel)⟩, .inl ⟨[1], [x1], [y1.d], by decide +kernel, by decide, rfl, fun i p h => match i, h with | 0, h => by cases h; exact ⟨_, rfl, rfl⟩ | n + 1, h => by simp at h, (.cons h1 .nil), (by simp only [List.mem_cons, List.not_mem_nil, or_false, false_imp_iff, implies_true, forall_eq_or_imp, forall_eq]; exact .e _), by simp [lks, lk], by simp only [zDs]; omega⟩⟩
    | at_ y1 y2 =>
      simp only [E.d] at h ⊢
      obtain ⟨a, xs, rfl, ha, dx0⟩ := h.open
      obtain ⟨x0, r0, rfl, h0, dx1⟩ := dx0.open
      obtain rfl := h0.str_inv
      obtain ⟨x1, r1, rfl, h1, dx2⟩ := dx1.open
      obtain ⟨x2, r2, rfl, h2, dx3⟩ := dx2.open
      cases dx3
      exact ⟨a, _, _, _, rfl, ha, rfl, .inl ⟨.inl rfl, by simp [hAt]⟩, .inl ⟨[1, 2], [x1, x2], [y1.d, y2.d], by decide +kernel, by decide, rfl, fun i p h => match i, h with | 0, h => by cases h; exact ⟨_, rfl, rfl⟩ | 1, h => by cases h; exact ⟨_, rfl, rfl⟩ | n + 2, h => by simp at h, (.cons h1 (.cons h2 .nil)), (by simp only [List.mem_cons, List.not_mem_nil, or_false, false_imp_iff, implies_true, forall_eq_or_imp, forall_eq]; exact ⟨.e _, .e _⟩), by simp [lks, lk], by simp only [zDs]; omega⟩⟩
    | rows y1 =>
      simp only [E.d] at h ⊢
      obtain ⟨a, xs, rfl, ha, dx0⟩ := h.open
      obtain ⟨x0, r0, rfl, h0, dx1⟩ := dx0.open
      obtain rfl := h0.str_inv
      obtain ⟨x1, r1, rfl, h1, dx2⟩ := dx1.open
      cases dx2
      obtain ⟨al, ys, rfl, hal, dys⟩ := h1.open
      exact ⟨a, _, _, _, rfl, ha, rfl, .inr ⟨⟨by decide +kernel, by decide +kernel⟩, hAt_no (by decide +kernel) (by decide +kernel)⟩, .inr ⟨1, al, ys, E.ds y1, by decide +kernel, rfl, hal, dys, mem_ds _, by simp [lks, lk, hAt_E], by simp only [zDs, zD]; omega⟩⟩
    | put y1 y2 y3 =>
      simp only [E.d] at h ⊢
      obtain ⟨a, xs, rfl, ha, dx0⟩ := h.open
      obtain ⟨x0, r0, rfl, h0, dx1⟩ := dx0.open
      obtain rfl := h0.str_inv
      obtain ⟨x1, r1, rfl, h1, dx2⟩ := dx1.open
      obtain ⟨x2, r2, rfl, h2, dx3⟩ := dx2.open
      obtain ⟨x3, r3, rfl, h3, dx4⟩ := dx3.open
      cases dx4
      exact ⟨a, _, _, _, rfl, ha, rfl, .inl ⟨.inr rfl, by simp [hAt]⟩, .inl ⟨[1, 2, 3], [x1, x2, x3], [y1.d, y2.d, y3.d], by decide +kernel, by decide, rfl, fun i p h => match i, h with | 0, h => by cases h; exact ⟨_, rfl, rfl⟩ | 1, h => by cases h; exact ⟨_, rfl, rfl⟩ | 2, h => by cases h; exact ⟨_, rfl, rfl⟩ | n + 3, h => by simp at h, (.cons h1 (.cons h2 (.cons h3 .nil))), (by simp only [List.mem_cons, List.not_mem_nil, or_false, false_imp_iff, implies_true, forall_eq_or_imp, forall_eq]; exact ⟨.e _, .e _, .e _⟩), by simp [lks, lk], by simp only [zDs]; omega⟩⟩
    | more y1 y2 =>
      simp only [E.d] at h ⊢
      obtain ⟨a, xs, rfl, ha, dx0⟩ := h.open
      obtain ⟨x0, r0, rfl, h0, dx1⟩ := dx0.open
      obtain rfl := h0.str_inv
      obtain ⟨x1, r1, rfl, h1, dx2⟩ := dx1.open
      obtain ⟨x2, r2, rfl, h2, dx3⟩ := dx2.open
      cases dx3
      exact ⟨a, _, _, _, rfl, ha, rfl, .inr ⟨⟨by decide +kernel, by decide +kernel⟩, hAt_no (by decide +kernel) (by decide +kernel)⟩, .inl ⟨[1, 2], [x1, x2], [y1.d, y2.d], by decide +kernel, by decide, rfl, fun i p h => match i, h with | 0, h => by cases h; exact ⟨_, rfl, rfl⟩ | 1, h => by cases h; exact ⟨_, rfl, rfl⟩ | n + 2, h => by simp at h, (.cons h1 (.cons h2 .nil)), (by simp only [List.mem_cons, List.not_mem_nil, or_false, false_imp_iff, implies_true, forall_eq_or_imp, forall_eq]; exact ⟨.e _, .e _⟩), by simp [lks, lk], by simp only [zDs]; omega⟩⟩
    | signs y1 =>
      simp only [E.d] at h ⊢
      obtain ⟨a, xs, rfl, ha, dx0⟩ := h.open
      obtain ⟨x0, r0, rfl, h0, dx1⟩ := dx0.open
      obtain rfl := h0.str_inv
      obtain ⟨x1, r1, rfl, h1, dx2⟩ := dx1.open
      cases dx2
      exact ⟨a, _, _, _, rfl, ha, rfl, .inr ⟨⟨by decide +kernel, by decide +kernel⟩, hAt_no (by decide +kernel) (by decide +kernel)⟩, .inl ⟨[1], [x1], [y1.d], by decide +kernel, by decide, rfl, fun i p h => match i, h with | 0, h => by cases h; exact ⟨_, rfl, rfl⟩ | n + 1, h => by simp at h, (.cons h1 .nil), (by simp only [List.mem_cons, List.not_mem_nil, or_false, false_imp_iff, implies_true, forall_eq_or_imp, forall_eq]; exact .e _), by simp [lks, lk], by simp only [zDs]; omega⟩⟩
  | s x hx =>
    cases x with
    | let_ y1 y2 =>
      simp only [S.d] at h ⊢
      obtain ⟨a, xs, rfl, ha, dx0⟩ := h.open
      obtain ⟨x0, r0, rfl, h0, dx1⟩ := dx0.open
      obtain rfl := h0.str_inv
      obtain ⟨x1, r1, rfl, h1, dx2⟩ := dx1.open
      obtain ⟨x2, r2, rfl, h2, dx3⟩ := dx2.open
      cases dx3
      exact ⟨a, _, _, _, rfl, ha, rfl, .inr ⟨⟨by decide +kernel, by decide +kernel⟩, hAt_no (by decide +kernel) (by decide +kernel)⟩, .inl ⟨[2], [x2], [y2.d], by decide +kernel, by decide, rfl, fun i p h => match i, h with | 0, h => by cases h; exact ⟨_, rfl, rfl⟩ | n + 1, h => by simp at h, (.cons h2 .nil), (by simp only [List.mem_cons, List.not_mem_nil, or_false, false_imp_iff, implies_true, forall_eq_or_imp, forall_eq]; exact .e _), by simp [lks, lk], by simp only [zDs]; omega⟩⟩
    | call y1 y2 y3 =>
      simp only [S.d] at h ⊢
      obtain ⟨a, xs, rfl, ha, dx0⟩ := h.open
      obtain ⟨x0, r0, rfl, h0, dx1⟩ := dx0.open
      obtain rfl := h0.str_inv
      obtain ⟨x1, r1, rfl, h1, dx2⟩ := dx1.open
      obtain ⟨x2, r2, rfl, h2, dx3⟩ := dx2.open
      obtain ⟨x3, r3, rfl, h3, dx4⟩ := dx3.open
      cases dx4
      obtain ⟨al, ys, rfl, hal, dys⟩ := h3.open
      exact ⟨a, _, _, _, rfl, ha, rfl, .inr ⟨⟨by decide +kernel, by decide +kernel⟩, hAt_no (by decide +kernel) (by decide +kernel)⟩, .inr ⟨3, al, ys, E.ds y3, by decide +kernel, rfl, hal, dys, mem_ds _, by simp [lks, lk, hAt_E], by simp only [zDs, zD]; omega⟩⟩
    | give y1 =>
      simp only [S.d] at h ⊢
      obtain ⟨a, xs, rfl, ha, dx0⟩ := h.open
      obtain ⟨x0, r0, rfl, h0, dx1⟩ := dx0.open
      obtain rfl := h0.str_inv
      obtain ⟨x1, r1, rfl, h1, dx2⟩ := dx1.open
      cases dx2
      exact ⟨a, _, _, _, rfl, ha, rfl, .inr ⟨⟨by decide +kernel, by decide +kernel⟩, hAt_no (by decide +kernel) (by decide +kernel)⟩, .inl ⟨[1], [x1], [y1.d], by decide +kernel, by decide, rfl, fun i p h => match i, h with | 0, h => by cases h; exact ⟨_, rfl, rfl⟩ | n + 1, h => by simp at h, (.cons h1 .nil), (by simp only [List.mem_cons, List.not_mem_nil, or_false, false_imp_iff, implies_true, forall_eq_or_imp, forall_eq]; exact .e _), by simp [lks, lk], by simp only [zDs]; omega⟩⟩
    | say _ _ => exact hx.elim
    | if_ _ _ _ => exact hx.elim
    | while_ _ _ => exact hx.elim
section
variable {P : Program} {w : World} {K : PySem.W.Frag} {mg : Str → Option Value} {base : Heap} {f g : Addr} {fd gd : FuncData}
abbrev n_may_break : List Str := ["shaped", "waiting", "one"]
theorem sc_may_break : FnScope n_may_break ["shaped"] (defScope s_may_break) := ⟨rfl, rfl, rfl, by decide +kernel, rfl, by decide +kernel, by decide +kernel⟩
def spMB (K : PySem.W.Frag) : Sp := fun vs H Q _ => ∃ u d, vs = [u] ∧ DT K H u d ∧ Shp d ∧ zD d ≤ 1000000 ∧ ∀ b H', Same H H' → b = lk d → Q (.bl b) H'
def MInv (K : PySem.W.Frag) (u : V) (d : PyData) (l : Addr) (H0 : Hp) (m : Nat) (σ : St) (H' : Hp) : Prop :=
  ∃ ys ds m2, σ = [some u, some (.ref l), m2] ∧ Ext l H0 H' ∧ H' l = some (.lst ys) ∧ DTs K H' ys ds ∧ (∀ d ∈ ds, Shp d) ∧ lk d = lks ds ∧ m = zDs ds ∧ zDs ds ≤ zD d
theorem ok_mb (F : Fun K "may_break" "may_break" s_may_break f fd) (D_inner_of : Cal P w K mg base 1 "inner_of" ["shaped"] (spInner7 K)) : FnOk P w K mg base CX0 2 f fd ["shaped"] (spMB K) := by
  obtain ⟨g_inner_of, gd_inner_of, G_inner_of, b_inner_of, k_inner_of, m_inner_of⟩ := D_inner_of.ex
  refine F.ok sc_may_break (fun vs H Q EX h => ?_) (fun cdv A outer s H vs Q EX hr h => ?_)
  · obtain ⟨u, d, rfl, _⟩ := h
    rfl
  obtain ⟨u, d, rfl, hu, hsp, hz, q⟩ := h
  refine ⟨_, (@pss_cons _ _ _ _ _ (@ps_set _ _ 1 _ _ _ _ sc_may_break.nd rfl (Or.inl rfl) (@pe_lst _ _ _ _ (@pa_cons _ _ _ _ _ (pv 0) pa_nil (star_of rfl))) (swaps_of rfl) (.inr rfl)) (@pss_cons _ _ _ _ _ (ps_while PassesOwn.never (pt_truth (pv 1) (fun _ => rfl)) (@pss_cons _ _ _ _ _ (@ps_set _ _ 2 _ _ _ _ sc_may_break.nd rfl (Or.inl rfl) (pe_bm0 PySem.F.plainAttrs_list PySem.F.slot_list_pop PySem.F.type_list_pop mt_pop (pv 1)) (swaps_of rfl) (.inr rfl)) (@pss_cons _ _ _ _ _ (@ps_if _ _ _ _ _ _ _ _ (@pt_cmpR _ _ _ _ _ _ _ _ op_in_seq (@pe_ix _ _ _ _ _ _ _ ix_tup (pv 2) pe_int (fun _ _ => rfl)) (@pe_tup _ _ _ _ _ (@pa_cons _ _ _ _ _ pe_str (@pa_cons _ _ _ _ _ pe_str pa_nil (star_of rfl)) (star_of rfl))) rfl) (@pss_one _ _ _ (@ps_ret _ _ _ _ pe_bl)) pss_nil) (@pss_one _ _ _ (@ps_expr _ _ _ _ (@pe_bm _ _ _ _ _ _ _ _ _ _ _ _ PySem.F.plainAttrs_list PySem.F.slot_list_extend PySem.F.type_list_extend mt_extend (pv 1) (@pa_cons _ _ _ _ _ (@pe_call _ _ _ _ _ _ _ _ _ _ _ _ _ _ _ _ G_inner_of (hr.mono (by omega)) rfl m_inner_of k_inner_of b_inner_of .nil pass0 (@pa_cons _ _ _ _ _ (pv 2) pa_nil (star_of rfl)) (by decide) (star_of rfl) (plain_of rfl)) pa_nil (star_of rfl)) rfl (few_of rfl rfl) rfl (star_of rfl) (plain_of rfl)) (swaps_of rfl)))))) (@pss_one _ _ _ (@ps_ret _ _ _ _ pe_bl)))), ?_⟩
  refine ⟨_, rfl, (by show 1 ≤ sizeLine; decide), fun l hl => ?_⟩
  have g0 := same_new hl (.lst [u])
  have hl0 : (upd H l (.lst [u])) l = some (.lst [u]) := upd_same
  refine ⟨MInv K u d l (upd H l (.lst [u])), ⟨_, [u], [d], none, rfl, Ext.refl _ _, hl0, .cons (hu.mono (tk_same g0)) .nil, (fun d' hd => by rw [List.mem_singleton.mp hd]; exact hsp), by simp [lks], rfl, by simp [zDs]⟩, ?_⟩
  rintro m σ H' ⟨ys, ds, m3, rfl, x1, hy, dy, sp, ec, em, ez⟩
  refine ⟨_, rfl, _, .inl ⟨ys, SqL.of hy, rfl⟩, ?_⟩
  refine ite2 (fun cc => ?_) (fun cc => ?_)
  · obtain ⟨zs, y, rfl⟩ : ∃ zs y, ys = zs ++ [y] := by
      rcases List.eq_nil_or_concat ys with rfl | ⟨zs, y, e⟩
      · exact absurd cc (by decide)
      · exact ⟨zs, y, by rw [e, List.concat_eq_append]⟩
    obtain ⟨es, e1, rfl, dz, d1⟩ := dy.snoc_inv
    refine ⟨fun σ' H' => ∃ m', m' < m ∧ MInv K u d l (upd H l (.lst [u])) m' σ' H', fun _ _ z => z, ?_⟩
    refine ⟨_, rfl, .inl ⟨rfl, _, SqL.of hy⟩, l, _, y, rfl, rfl, hy, by simp, ?_⟩
    rw [List.dropLast_concat]
    have kT : Tk H' (upd H' l (.lst zs)) := tk_lst hy _
    have x2 : Ext l (upd H l (.lst [u])) (upd H' l (.lst zs)) := x1.trans Ext.upd
    have hy2 : (upd H' l (.lst zs)) l = some (.lst zs) := upd_same
    have dz2 := dz.mono kT
    have d2 := d1.mono kT
    rw [lks_app] at ec
    rw [zDs_app] at em ez
    simp only [lks, zDs, Nat.add_zero, Bool.or_false] at ec em ez
    generalize hH : (upd H' l (.lst zs)) = H2 at x2 hy2 dz2 d2
    obtain ⟨a, z, rs, ds', rfl, ha, rfl, hb, hin⟩ := sh_view d2 (sp e1 (by simp))
    simp only [lk] at ec
    simp only [zD] at em ez
    have lz := dz2.len
    have zl := zDs_len es
    have zn : zDs (PyData.str z :: ds') = 1 + zDs ds' := by simp only [zDs, zD]
    refine ⟨_, rfl, a, _, _, _, rfl, rfl, SqT.of ha, at0 _ _, (by show 2 ≤ sizeLine; decide), fun pl hpl => ⟨pl, _, rfl, .inr (SqT.of upd_same), rfl, rfl, _, rfl, ?_⟩⟩
    have g3 := same_new hpl (.tup [.str "at", .str "put"])
    refine ite2 (fun c => ?_) (fun c => ?_)
    · have c' : ((Str.ofString "at" == z) || (Str.ofString "put" == z)) = true := by simpa [inV, eqV] using c
      have hz2 : z = "at" ∨ z = "put" := by
        rcases Bool.or_eq_true_iff.mp c' with h | h
        · exact .inl (eq_of_beq h).symm
        · exact .inr (eq_of_beq h).symm
      have hh : hAt (.str z :: ds') = true := by
        rcases hb with h | h
        · exact h.2
        · rcases hz2 with h2 | h2
          · exact absurd h2 h.1.1
          · exact absurd h2 h.1.2
      exact q _ _ ((ext_same hl x2).trans g3) (by rw [ec, hh]; simp)
    · have hh : hAt (.str z :: ds') = false := by
        rcases hb with h | h
        · exact absurd (by rcases h.1 with rfl | rfl <;> decide +kernel) c
        · exact h.2
      have fin : ∀ (r : Addr) (L : List V) (is : List PyData) (H4 : Hp), Same (upd H2 pl (.tup [.str "at", .str "put"])) H4 → DTs K H2 L is → (∀ d ∈ is, Shp d) → lks is = lks (.str z :: ds') → zDs is ≤ zDs ds' → zs.length + L.length ≤ sizeLine ∧
          ∃ m', m' < m ∧ MInv K u d l (upd H l (.lst [u])) m' [some u, some (.ref l), some (.ref a)] (upd H4 l (.lst (zs ++ L))) := by
        intro r L is H4 g4 dL sL eL zL
        have g5 := g3.trans g4
        have hy4 := g5 _ _ hy2
        have kL := (tk_same g5).trans (tk_lst hy4 (.lst (zs ++ L)))
        have lL := dL.len
        have zl' := zDs_len is
        refine ⟨by rw [sizeLine_eq]; omega, zDs es + zDs is, by omega, zs ++ L, es ++ is, _, rfl, (x2.trans (Same.ext g5)).trans Ext.upd, upd_same, DTs.append (dz2.mono kL) (dL.mono kL), (fun d' hd => (List.mem_append.mp hd).elim (fun h => sp d' (List.mem_append.mpr (.inl h))) (sL d')), by rw [ec, lks_app, eL, hh, Bool.false_or], by rw [zDs_app], by rw [zDs_app]; omega⟩
      refine ⟨_, rfl, .inl ⟨rfl, _, SqL.of (g3 _ _ hy2)⟩, _, rfl, a, z, rs, rfl, g3 _ _ ha, ?_⟩
      rcases hin with ⟨ps, L, is, hm, lp, lL, hp, dL, sL, eL, zL⟩ | ⟨p, al, ys', is, hm, hp, hal, dL, sL, eL, zL⟩
      · exact .inl ⟨ps, L, hm, lp, lL, hp, fun r H4 g4 hr0 hr4 => ⟨l, r, _, _, rfl, rfl, g4 _ _ (g3 _ _ hy2), hr4, (fin r L is H4 g4 dL sL eL zL).1, (fin r L is H4 g4 dL sL eL zL).2⟩⟩
      · exact .inr ⟨p, al, ys', hm, hp, g3 _ _ hal, fun r H4 g4 hr0 hr4 => ⟨l, r, _, _, rfl, rfl, g4 _ _ (g3 _ _ hy2), hr4, (fin r ys' is H4 g4 dL sL eL zL).1, (fin r ys' is H4 g4 dL sL eL zL).2⟩⟩
  · have hv : ys = [] := by
      cases ys with
      | nil => rfl
      | cons a r => exact absurd rfl cc
    subst hv
    have hw' : ds = [] := by
      cases dy
      rfl
    subst hw'
    exact q _ _ (ext_same hl x1) (by rw [ec]; simp [lks])
end
end K6

set_option Elab.async false
set_option linter.all false
set_option maxRecDepth 100000
set_option maxHeartbeats 4000000
namespace L2
open PySem PySem.Spec PyProof.Rows
theorem boot_enumerate : bootBuiltins "enumerate" = some (.type "enumerate") := by decide +kernel
/-- enumerate(a) at turn i: a new pair -/
def Ite (K : PySem.W.Frag) (a : Addr) : It :=
  ⟨fun i H => ∃ xs x, SqL K H a xs ∧ xs[i]? = some x,
   fun i H v H' => ∃ p x, H p = none ∧ v = .ref p ∧ H' = upd H p (.tup [.int (i : Int), x]) ∧ ∀ xs, SqL K H a xs → xs[i]? = some x,
   fun i H => ∃ xs, SqL K H a xs ∧ xs.length ≤ i⟩
theorem turn_enum {P : Program} {w : World} {K : PySem.W.Frag} {elts : List Expr} {x1} {pos : Pos} {e it : Addr} (hne : e ≠ it) (a : Addr) :
    Turn P w K (.Tuple elts x1 pos) (Ite K a) [e, it] e (fun i h => (∃ old, IsEnum h e it ((i : Nat) : Int) old) ∧ h.IsListIter it a i) where
  mem := by simp
  obj := fun i h st c hc => by
    obtain ⟨⟨old, he⟩, o, eo, _, d⟩ := st
    simp at hc
    rcases hc with rfl | rfl
    · exact ⟨_, he, fun v z => by have z' : Data.fields _ = Data.cell v := z; cases z'⟩
    · exact ⟨o, eo, fun v z => by rw [d] at z; cases z⟩
  keep := fun i h h' st k => by
    obtain ⟨⟨old, he⟩, hit⟩ := st
    exact ⟨⟨old, k e (by simp) _ he⟩, hit.at fun o eo => k it (by simp) o eo⟩
  item := by
    intro X hP hw hK hc i pins s σ H E I hf st hg
    subst hP hw hK
    obtain ⟨xs, x, hq, ex⟩ := hg
    obtain ⟨⟨old, he⟩, hit⟩ := st
    obtain ⟨its, r1, p1, _⟩ := I.list hq
    obtain ⟨ux, hux, rx⟩ := r1.get ex
    have fe := hf e (by simp)
    have fi := hf it (by simp)
    refine wpAny_pyNext_enum_item he hit p1.isList (x := ux) (by simpa using hux) hne fun h' a1 a2 a3 a4 a5 => ?_
    refine ⟨_, rfl, wpAny_letOwnedTupleGo_enum (s := { s with heap := h', toks := s.toks + 1 }) a1 fun h2 b1 b2 => ?_⟩
    have b2' : Heap.SameBut e h' h2 := b2
    have lt : ∀ {c : Addr} {o : Obj}, s.heap.get? c = some o → c ≠ s.heap.objs.size := fun e => Nat.ne_of_lt (Heap.lt_size e)
    have fr : H s.heap.objs.size = none := I.hok.fresh (Nat.le_refl _)
    have I1 : Inv X pins σ (upd H s.heap.objs.size (.tup [.int (i : Int), x])) { s with heap := s.heap.push { cls := .type "tuple", data := .seq #[.int i s.toks, ux] }, toks := s.toks + 1 } := by
      refine I.laid (t' := s.toks + 1) (fun b u e => Heap.get?_push_of_some _ e) (Nat.le_refl _) ⟨by simp [sizeLine], [.int i s.toks, ux], .cons ⟨_, rfl⟩ (.cons rx .nil), ⟨_, Heap.get?_push_size _ rfl, rfl, _, rfl⟩, _, Heap.get?_push_size _ rfl, rfl⟩
    have nl : ∀ c ∈ [e, it], c ≠ s.heap.objs.size := fun c hc => by
      simp at hc
      rcases hc with rfl | rfl
      · exact lt he
      · obtain ⟨o, eo, _⟩ := hit; exact lt eo
    have hf' : ∀ c ∈ [e, it], FpOk X pins (upd H s.heap.objs.size (.tup [.int (i : Int), x])) c := fun c hc => ⟨by rw [upd_ne (nl c hc)]; exact (hf c hc).1, (hf c hc).2⟩
    have I2 : Inv X pins σ (upd H s.heap.objs.size (.tup [.int (i : Int), x])) { s with heap := h2, toks := s.toks + 1 } := by
      refine Inv.turnedL (s := { s with heap := s.heap.push { cls := .type "tuple", data := .seq #[.int i s.toks, ux] }, toks := s.toks + 1 }) (t' := s.toks + 1) (its := [e, it]) I1 (fun c o hc eo => ?_) hf'
      simp at hc
      refine b2'.extBut _ _ hc.1 ?_
      rcases Heap.get?_push_cases eo with ⟨q, q'⟩ | q
      · rw [q, q']
        exact a3
      · exact a5 c o hc.1 hc.2 q
    refine ⟨.ref s.heap.objs.size, _, I2, rfl, ⟨_, x, fr, rfl, rfl, fun zs hz' => by rw [I.list_inj hz' hq]; exact ex⟩, ⟨⟨_, b1⟩, a2.at fun o eo => b2'.extBut _ _ (Ne.symm hne) eo⟩, fun c hc => (hf' c hc).1⟩
  done := by
    intro X hP hw hK hc i pins s σ H E I hf st hg
    subst hP hw hK
    obtain ⟨xs, hq, hx⟩ := hg
    obtain ⟨⟨old, he⟩, hit⟩ := st
    obtain ⟨its, r1, p1, _⟩ := I.list hq
    have hl := r1.length
    obtain ⟨f0, f1, f2, f3, f4, f5⟩ := hf it (by simp)
    exact wpAny_pyNext_enum_end (I.ok.hd hc) he hit p1.isList (by simp; omega) fun h' eb => ⟨rfl, I.turned (t' := s.toks) (fun b o hb e => eb b o hb e) f0 f1 f3 f4 f5⟩
  self := fun _ _ _ _ _ st h => wpAny_pyIter_enum st.1.choose_spec h
section
variable {X : Cx}
def iEnum (K : PySem.W.Frag) (te : TE) : TI := fun σ H R => te σ H fun x H1 => ∃ a, x = .ref a ∧ (∃ xs, SqL K H1 a xs) ∧ R (Ite K a) H1
theorem pi_enum {elts : List Expr} {x1} {tp : Pos} {e : Expr} {te : TE} {p pos : Pos} (hg : Gl X "enumerate") (hm : X.mg "enumerate" = none) (he : PE X e te)
    (hs : starEach [e] X.env = (false, eval e X.env) :: starEach [] X.env := by exact star_of rfl) : PI X (.Tuple elts x1 tp) (.Call (.Name "enumerate" p) [e] [] pos) (iEnum X.K te) := by
  intro pins s σ H R I h
  refine wpAny_Call_Name_kw (ld_blt I hg hm boot_enumerate ?_)
  refine PyProof.Rows.callWith_type1 ?_ hs rfl
  rw [hs]
  show wpAny _ _ (spliced ((false, eval e X.env) :: [])) _ _ s
  refine Calls.spliced_cons (thn (he pins s σ H _ I h) fun u s1 ⟨x, H1, I1, r1, q1⟩ => ?_)
  obtain ⟨a, rfl, ⟨xs, hq⟩, q⟩ := q1
  cases r1
  refine Calls.spliced_nil ?_
  obtain ⟨its, r', pl, hz⟩ := I1.list hq
  refine call_enumerate_list pl.isList fun h' a1 a2 a3 a4 => ?_
  refine wpAny_pyIter_enum (s := { s1 with heap := h' }) a1 ?_
  refine ⟨s1.heap.objs.size + 1, [s1.heap.objs.size + 1, s1.heap.objs.size], _, _, H1, rfl, I1.kept (t' := s1.toks) fun b o e => a4 b o e, turn_enum (show (s1.heap.objs.size + 1 : Nat) ≠ s1.heap.objs.size by omega) a, ⟨⟨_, a1⟩, a2⟩, fun b hb => ?_, q⟩
  have le : s1.heap.objs.size ≤ b := by
    simp only [List.mem_cons, List.not_mem_nil, or_false] at hb
    rcases hb with rfl | rfl
    · exact Nat.le_add_right _ _
    · exact Nat.le_refl _
  exact I1.fpOk le (I1.hok.fresh le)
end
/-- over enumerate of a list that the body leaves as it is -/
theorem for_enum {K : PySem.W.Frag} {a : Addr} {xs : List V} {g : TG} {tb : TS} {D : Ends} {σ : St} {H : Hp} (Pv : Nat → St → Hp → Prop) (h0 : Pv 0 σ H) (hl : ∀ i σ H, i ≤ xs.length → Pv i σ H → SqL K H a xs)
    (hs : ∀ (i : Nat) x σ H p, xs[i]? = some x → Pv i σ H → H p = none → g (.ref p) σ (upd H p (.tup [.int (i : Int), x])) fun σ2 H2 => tb { D with nx := Pv (i + 1), ct := Pv (i + 1), bk := D.nx } σ2 H2) (hd : ∀ σ H, Pv xs.length σ H → D.nx σ H) :
    ∃ W : Nat → Nat → St → Hp → Prop, (∃ m, W 0 m σ H) ∧ ∀ i m σ H, W i m σ H →
      ((Ite K a).stop i H ∧ D.nx σ H) ∨ ((Ite K a).go i H ∧ ∃ N : St → Hp → Prop, (∀ σ' H', N σ' H' → ∃ m', m' < m ∧ W (i + 1) m' σ' H') ∧ ∀ x H', (Ite K a).yld i H x H' → g x σ H' fun σ2 H2 => tb { D with nx := N, ct := N, bk := D.nx } σ2 H2) := by
  refine ⟨fun i m σ H => m = xs.length - i ∧ i ≤ xs.length ∧ Pv i σ H, ⟨xs.length, by simp, Nat.zero_le _, h0⟩, ?_⟩
  rintro i m σ H ⟨rfl, hi, p⟩
  have q := hl i σ H hi p
  by_cases hlt : i < xs.length
  · refine .inr ⟨⟨xs, xs[i], q, by simp [hlt]⟩, Pv (i + 1), fun σ' H' p' => ⟨xs.length - (i + 1), by omega, rfl, hlt, p'⟩, fun x H' y => ?_⟩
    obtain ⟨pp, xx, h1, rfl, rfl, y⟩ := y
    exact hs i xx σ H pp (y xs q) p h1
  · have e : i = xs.length := by omega
    subst e
    exact .inl ⟨⟨xs, q, Nat.le_refl _⟩, hd σ H p⟩
end L2

set_option Elab.async false
set_option linter.all false
set_option maxRecDepth 100000
set_option maxHeartbeats 4000000
namespace K6
open PySem L2
def SPV (f : Str) (k : Int) : S → List (List V)
  | .if_ _ _ _ => [[.str "line", .str f, .int k], [.str "way", .str f, .int k, .bl true], [.str "way", .str f, .int k, .bl false]]
  | .while_ _ _ => [[.str "line", .str f, .int k], [.str "way", .str f, .int k, .bl true], [.str "way", .str f, .int k, .bl false]]
  | .say y _ => [[.str "line", .str f, .int k], [.str "breaks", .str f, .int k, .str y]]
  | s => if lk s.d = true then [[.str "line", .str f, .int k], [.str "breaks", .str f, .int k, .str "range"]] else [[.str "line", .str f, .int k]]
def TupAt (H : Hp) (v : V) (sp : List V) : Prop := ∃ p, v = .ref p ∧ H p = some (.tup sp)
theorem TupAt.mono {H H' : Hp} (t : Tk H H') {v : V} {sp : List V} (h : TupAt H v sp) : TupAt H' v sp := let ⟨p, e, q⟩ := h; ⟨p, e, t _ _ q⟩
theorem lk_lgc {s : S} (h : s.lgc) (f : Str) (k : Int) : SPV f k s = if lk s.d = true then [[.str "line", .str f, .int k], [.str "breaks", .str f, .int k, .str "range"]] else [[.str "line", .str f, .int k]] := by
  cases s <;> first | exact h.elim | rfl
/-- a line's word -/
theorem st_view2 {K : PySem.W.Frag} {H : Hp} {u : V} {s : S} (h : DT K H u (S.d s)) : ∃ a z rs, u = .ref a ∧ H a = some (.tup (.str z :: rs)) ∧
    (((z = "if" ∨ z = "while") ∧ ∀ f k, SPV f k s = [[.str "line", .str f, .int k], [.str "way", .str f, .int k, .bl true], [.str "way", .str f, .int k, .bl false]]) ∨ (∃ y c', z = "say" ∧ rs = [.str y, c'] ∧ ∀ f k, SPV f k s = [[.str "line", .str f, .int k], [.str "breaks", .str f, .int k, .str y]]) ∨
     ((z = "let" ∨ z = "give" ∨ z = "call") ∧ s.lgc ∧ ∃ v d, atI (.str z :: rs) (-1) = some v ∧ DT K H v d ∧ lk d = lk s.d ∧ zD d ≤ zD s.d)) := by
  cases s with
  | if_ c A B =>
    simp only [S.d] at h
    obtain ⟨a, xs, rfl, ha, d0⟩ := h.open
    obtain ⟨x0, r0, rfl, h0, d1⟩ := d0.open
    obtain rfl := h0.str_inv
    exact ⟨a, _, _, rfl, ha, .inl ⟨.inl rfl, fun _ _ => rfl⟩⟩
  | while_ c A =>
    simp only [S.d] at h
    obtain ⟨a, xs, rfl, ha, d0⟩ := h.open
    obtain ⟨x0, r0, rfl, h0, d1⟩ := d0.open
    obtain rfl := h0.str_inv
    exact ⟨a, _, _, rfl, ha, .inl ⟨.inr rfl, fun _ _ => rfl⟩⟩
  | say y c =>
    simp only [S.d] at h
    obtain ⟨a, xs, rfl, ha, d0⟩ := h.open
    obtain ⟨x0, r0, rfl, h0, d1⟩ := d0.open
    obtain rfl := h0.str_inv
    obtain ⟨x1, r1, rfl, h1, d2⟩ := d1.open
    obtain rfl := h1.str_inv
    obtain ⟨x2, r2, rfl, h2, d3⟩ := d2.open
    cases d3
    exact ⟨a, _, _, rfl, ha, .inr (.inl ⟨y, x2, rfl, rfl, fun _ _ => rfl⟩)⟩
  | let_ x e =>
    simp only [S.d] at h ⊢
    obtain ⟨a, xs, rfl, ha, d0⟩ := h.open
    obtain ⟨x0, r0, rfl, h0, d1⟩ := d0.open
    obtain rfl := h0.str_inv
    obtain ⟨x1, r1, rfl, h1, d2⟩ := d1.open
    obtain ⟨x2, r2, rfl, h2, d3⟩ := d2.open
    cases d3
    exact ⟨a, _, _, rfl, ha, .inr (.inr ⟨.inl rfl, trivial, x2, _, rfl, h2, by simp [lk, lks, hAt_no (z := "let") (by decide +kernel) (by decide +kernel)], by simp only [zD, zDs]; omega⟩)⟩
  | give e =>
    simp only [S.d] at h ⊢
    obtain ⟨a, xs, rfl, ha, d0⟩ := h.open
    obtain ⟨x0, r0, rfl, h0, d1⟩ := d0.open
    obtain rfl := h0.str_inv
    obtain ⟨x1, r1, rfl, h1, d2⟩ := d1.open
    cases d2
    exact ⟨a, _, _, rfl, ha, .inr (.inr ⟨.inr (.inl rfl), trivial, x1, _, rfl, h1, by simp [lk, lks, hAt_no (z := "give") (by decide +kernel) (by decide +kernel)], by simp only [zD, zDs]; omega⟩)⟩
  | call x y es =>
    simp only [S.d] at h ⊢
    obtain ⟨a, xs, rfl, ha, d0⟩ := h.open
    obtain ⟨x0, r0, rfl, h0, d1⟩ := d0.open
    obtain rfl := h0.str_inv
    obtain ⟨x1, r1, rfl, h1, d2⟩ := d1.open
    obtain ⟨x2, r2, rfl, h2, d3⟩ := d2.open
    obtain ⟨x3, r3, rfl, h3, d4⟩ := d3.open
    cases d4
    exact ⟨a, _, _, rfl, ha, .inr (.inr ⟨.inr (.inr rfl), trivial, x3, _, rfl, h3, by simp [lk, lks, hAt_no (z := "call") (by decide +kernel) (by decide +kernel)], by simp only [zD, zDs]; omega⟩)⟩
section
variable {P : Program} {w : World} {K : PySem.W.Frag} {mg : Str → Option Value} {base : Heap} {f g : Addr} {fd gd : FuncData}
def spSL (K : PySem.W.Frag) : Sp := fun vs H Q _ => ∃ fn k u s, vs = [.str fn, .int k, u] ∧ DT K H u (S.d s) ∧ zD (S.d s) ≤ 1000000 ∧ ∀ r ys H', Same H H' → H r = none → H' r = some (.lst ys) → Paired (TupAt H') ys (SPV fn k s) → Q (.ref r) H'
abbrev n_spots_of_line : List Str := ["f", "k", "statement", "word", "told"]
theorem sc_spots_of_line : FnScope n_spots_of_line ["f", "k", "statement"] (defScope s_spots_of_line) := ⟨rfl, rfl, rfl, by decide +kernel, rfl, by decide +kernel, by decide +kernel⟩
theorem ok_sl (F : Fun K "spots_of_line" "spots_of_line" s_spots_of_line f fd) (D_may_break : Cal P w K mg base 2 "may_break" ["shaped"] (spMB K)) : FnOk P w K mg base CX0 3 f fd ["f", "k", "statement"] (spSL K) := by
  obtain ⟨g_may_break, gd_may_break, G_may_break, b_may_break, k_may_break, m_may_break⟩ := D_may_break.ex
  refine F.ok sc_spots_of_line (fun vs H Q EX h => ?_) (fun cdv A outer s H vs Q EX hr h => ?_)
  · obtain ⟨fn, k, u, s, rfl, _⟩ := h
    rfl
  obtain ⟨fn, k, u, s1, rfl, hu, hz, q⟩ := h
  obtain ⟨a, z, rs, rfl, ha, hv⟩ := st_view2 hu
  refine ⟨_, (@pss_cons _ _ _ _ _ (@ps_set _ _ 3 _ _ _ _ sc_spots_of_line.nd rfl (Or.inl rfl) (@pe_ix _ _ _ _ _ _ _ ix_tup (pv 2) pe_int (fun _ _ => rfl)) (swaps_of rfl) (.inr rfl)) (@pss_cons _ _ _ _ _ (@ps_set _ _ 4 _ _ _ _ sc_spots_of_line.nd rfl (Or.inl rfl) (@pe_lst _ _ _ _ (@pa_cons _ _ _ _ _ (@pe_tup _ _ _ _ _ (@pa_cons _ _ _ _ _ pe_str (@pa_cons _ _ _ _ _ (pv 0) (@pa_cons _ _ _ _ _ (pv 1) pa_nil (star_of rfl)) (star_of rfl)) (star_of rfl))) pa_nil (star_of rfl))) (swaps_of rfl) (.inr rfl)) (@pss_cons _ _ _ _ _ (@ps_if _ _ _ _ _ _ _ _ (@pt_cmpR _ _ _ _ _ _ _ _ op_in_seq (pv 3) (@pe_tup _ _ _ _ _ (@pa_cons _ _ _ _ _ pe_str (@pa_cons _ _ _ _ _ pe_str pa_nil (star_of rfl)) (star_of rfl))) rfl) (@pss_one _ _ _ (@ps_expr _ _ _ _ (@pe_bm _ _ _ _ _ _ _ _ _ _ _ _ PySem.F.plainAttrs_list PySem.F.slot_list_extend PySem.F.type_list_extend mt_extend (pv 4) (@pa_cons _ _ _ _ _ (@pe_lst _ _ _ _ (@pa_cons _ _ _ _ _ (@pe_tup _ _ _ _ _ (@pa_cons _ _ _ _ _ pe_str (@pa_cons _ _ _ _ _ (pv 0) (@pa_cons _ _ _ _ _ (pv 1) (@pa_cons _ _ _ _ _ pe_bl pa_nil (star_of rfl)) (star_of rfl)) (star_of rfl)) (star_of rfl))) (@pa_cons _ _ _ _ _ (@pe_tup _ _ _ _ _ (@pa_cons _ _ _ _ _ pe_str (@pa_cons _ _ _ _ _ (pv 0) (@pa_cons _ _ _ _ _ (pv 1) (@pa_cons _ _ _ _ _ pe_bl pa_nil (star_of rfl)) (star_of rfl)) (star_of rfl)) (star_of rfl))) pa_nil (star_of rfl)) (star_of rfl))) pa_nil (star_of rfl)) rfl (few_of rfl rfl) rfl (star_of rfl) (plain_of rfl)) (swaps_of rfl))) (@pss_one _ _ _ (@ps_if _ _ _ _ _ _ _ _ (@pt_cmpR _ _ _ _ _ _ _ _ op_eq (pv 3) pe_str (nomark _)) (@pss_one _ _ _ (@ps_expr _ _ _ _ (@pe_bm _ _ _ _ _ _ _ _ _ _ _ _ PySem.F.plainAttrs_list PySem.F.slot_list_append PySem.F.type_list_append mt_append (pv 4) (@pa_cons _ _ _ _ _ (@pe_tup _ _ _ _ _ (@pa_cons _ _ _ _ _ pe_str (@pa_cons _ _ _ _ _ (pv 0) (@pa_cons _ _ _ _ _ (pv 1) (@pa_cons _ _ _ _ _ (@pe_ix _ _ _ _ _ _ _ ix_tup (pv 2) pe_int (fun _ _ => rfl)) pa_nil (star_of rfl)) (star_of rfl)) (star_of rfl)) (star_of rfl))) pa_nil (star_of rfl)) rfl (few_of rfl rfl) rfl (star_of rfl) (plain_of rfl)) (swaps_of rfl))) (@pss_one _ _ _ (@ps_if _ _ _ _ _ _ _ _ (pt_val (@pe_call _ _ _ _ _ _ _ _ _ _ _ _ _ _ _ _ G_may_break (hr.mono (by omega)) rfl m_may_break k_may_break b_may_break .nil pass0 (@pa_cons _ _ _ _ _ (pv 2) pa_nil (star_of rfl)) (by decide) (star_of rfl) (plain_of rfl))) (@pss_one _ _ _ (@ps_expr _ _ _ _ (@pe_bm _ _ _ _ _ _ _ _ _ _ _ _ PySem.F.plainAttrs_list PySem.F.slot_list_append PySem.F.type_list_append mt_append (pv 4) (@pa_cons _ _ _ _ _ (@pe_tup _ _ _ _ _ (@pa_cons _ _ _ _ _ pe_str (@pa_cons _ _ _ _ _ (pv 0) (@pa_cons _ _ _ _ _ (pv 1) (@pa_cons _ _ _ _ _ pe_str pa_nil (star_of rfl)) (star_of rfl)) (star_of rfl)) (star_of rfl))) pa_nil (star_of rfl)) rfl (few_of rfl rfl) rfl (star_of rfl) (plain_of rfl)) (swaps_of rfl))) pss_nil))))) (@pss_one _ _ _ (@ps_ret _ _ _ _ (pv 4)))))), ?_⟩
  refine ⟨_, rfl, a, _, _, _, rfl, rfl, SqT.of ha, at0 _ _, ?_⟩
  refine ⟨_, rfl, _, rfl, (by show 3 ≤ sizeLine; decide), fun p1 hp1 => ⟨(by show 1 ≤ sizeLine; decide), fun tl htl => ?_⟩⟩
  have g1 := same_new hp1 (.tup [.str "line", .str fn, .int k])
  have g2 := g1.trans (same_new htl (.lst [.ref p1]))
  have tl0 : H tl = none := g1.free htl
  have hp2 : (upd (upd H p1 (.tup [.str "line", .str fn, .int k])) tl (.lst [.ref p1])) p1 = some (.tup [.str "line", .str fn, .int k]) := same_new htl _ _ _ upd_same
  have ht2 : (upd (upd H p1 (.tup [.str "line", .str fn, .int k])) tl (.lst [.ref p1])) tl = some (.lst [.ref p1]) := upd_same
  generalize hH2 : (upd (upd H p1 (.tup [.str "line", .str fn, .int k])) tl (.lst [.ref p1])) = H2 at g2 hp2 ht2
  refine ⟨_, rfl, (by show 2 ≤ sizeLine; decide), fun pl hpl => ⟨pl, _, rfl, .inr (SqT.of upd_same), rfl, rfl, _, rfl, ?_⟩⟩
  have g3 := same_new hpl (.tup [.str "if", .str "while"])
  have G3 := g2.trans g3
  have hp3 := g3 _ _ hp2
  have ht3 := g3 _ _ ht2
  have ha3 := G3 _ _ ha
  generalize hH3 : (upd H2 pl (.tup [.str "if", .str "while"])) = H3 at g3 G3 hp3 ht3 ha3
  rcases hv with ⟨hz2, es⟩ | ⟨y, c', rfl, rfl, es⟩ | ⟨hz2, hl, v, d, hv1, hv2, hv3, hv4⟩
  · refine ite2 (fun c => ?_) (fun c => absurd (by rcases hz2 with rfl | rfl <;> decide +kernel) c)
    refine ⟨_, rfl, .inl ⟨rfl, _, SqL.of ht3⟩, _, rfl, _, rfl, (by show 4 ≤ sizeLine; decide), fun p2 hp20 => ⟨_, rfl, _, rfl, (by show 4 ≤ sizeLine; decide), fun p3 hp30 => ⟨(by show 2 ≤ sizeLine; decide), fun l2 hl2 => ?_⟩⟩⟩
    have g4 := same_new hp20 (.tup [.str "way", .str fn, .int k, .bl true])
    have g5 := same_new hp30 (.tup [.str "way", .str fn, .int k, .bl false])
    have g6 := same_new hl2 (.lst [.ref p2, .ref p3])
    have g36 := (g4.trans g5).trans g6
    have ht6 := g36 _ _ ht3
    refine ⟨tl, l2, _, _, rfl, rfl, ht6, upd_same, (by show 3 ≤ sizeLine; decide), ?_⟩
    have k7 := tk_lst ht6 (.lst ([.ref p1] ++ [.ref p2, .ref p3]))
    refine ⟨_, rfl, q tl _ _ (same_upd tl0 (G3.trans g36)) tl0 upd_same ?_⟩
    rw [es]
    exact .cons ⟨p1, rfl, k7 _ _ (g36 _ _ hp3)⟩ (.cons ⟨p2, rfl, k7 _ _ (g6 _ _ (g5 _ _ upd_same))⟩ (.cons ⟨p3, rfl, k7 _ _ (g6 _ _ upd_same)⟩ .nil))
  · refine ite2 (fun c => absurd c (by decide +kernel)) (fun c => ?_)
    refine ⟨_, rfl, rfl, _, rfl, ite2 (fun c => ?_) (fun c => absurd (by decide +kernel) c)⟩
    refine ⟨_, rfl, .inl ⟨rfl, _, SqL.of ht3⟩, _, rfl, _, rfl, _, rfl, a, _, _, _, rfl, rfl, SqT.of ha3, rfl, (by show 4 ≤ sizeLine; decide), fun p2 hp20 => ?_⟩
    have g4 := same_new hp20 (.tup [.str "breaks", .str fn, .int k, .str y])
    have ht4 := g4 _ _ ht3
    refine ⟨tl, _, _, rfl, rfl, ht4, (by show 1 < sizeLine; decide), ?_⟩
    have k5 := tk_lst ht4 (.lst ([.ref p1] ++ [.ref p2]))
    refine ⟨_, rfl, q tl _ _ (same_upd tl0 (G3.trans g4)) tl0 upd_same ?_⟩
    rw [es]
    exact .cons ⟨p1, rfl, k5 _ _ (g4 _ _ hp3)⟩ (.cons ⟨p2, rfl, k5 _ _ upd_same⟩ .nil)
  · refine ite2 (fun c => absurd c (by rcases hz2 with rfl | rfl | rfl <;> decide +kernel)) (fun c => ?_)
    refine ⟨_, rfl, rfl, _, rfl, ite2 (fun c => absurd c (by rcases hz2 with rfl | rfl | rfl <;> decide +kernel)) (fun c => ?_)⟩
    refine ⟨_, rfl, .ref a, S.d s1, rfl, hu.mono (tk_same G3), .s s1 hl, hz, fun b H4 g4 eb => ⟨b, rfl, ?_⟩⟩
    have ht4 := g4 _ _ ht3
    refine ite2 (fun c => ?_) (fun c => ?_)
    · refine ⟨_, rfl, .inl ⟨rfl, _, SqL.of ht4⟩, _, rfl, _, rfl, (by show 4 ≤ sizeLine; decide), fun p2 hp20 => ?_⟩
      have g5 := same_new hp20 (.tup [.str "breaks", .str fn, .int k, .str "range"])
      have ht5 := g5 _ _ ht4
      refine ⟨tl, _, _, rfl, rfl, ht5, (by show 1 < sizeLine; decide), ?_⟩
      have k6 := tk_lst ht5 (.lst ([.ref p1] ++ [.ref p2]))
      refine ⟨_, rfl, q tl _ _ (same_upd tl0 ((G3.trans g4).trans g5)) tl0 upd_same ?_⟩
      rw [lk_lgc hl, ← eb, if_pos c]
      exact .cons ⟨p1, rfl, k6 _ _ (g5 _ _ (g4 _ _ hp3))⟩ (.cons ⟨p2, rfl, k6 _ _ upd_same⟩ .nil)
    · refine ⟨_, rfl, q tl _ _ (G3.trans g4) tl0 ht4 ?_⟩
      rw [lk_lgc hl, ← eb, if_neg c]
      exact .cons ⟨p1, rfl, g4 _ _ hp3⟩ .nil
abbrev n_l_line_spots : List Str := ["_law_name", "_law_k", "_law_line", "_law_found"]
theorem sc_l_line_spots : FnScope n_l_line_spots ["_law_name", "_law_k", "_law_line"] (defScope s_l_line_spots) := ⟨rfl, rfl, rfl, by decide +kernel, rfl, by decide +kernel, by decide +kernel⟩
theorem ok_ls (T : G0 mg) (F : Fun K "_law_line_spots" "_law_line_spots" s_l_line_spots f fd) (D_l_looks_up : Cal P w K mg base 1 "_law_looks_up" ["_law_thing"] (spLU K)) : FnOk P w K mg base CX0 3 f fd ["_law_name", "_law_k", "_law_line"] (spSL K) := by
  obtain ⟨g_l_looks_up, gd_l_looks_up, G_l_looks_up, b_l_looks_up, k_l_looks_up, m_l_looks_up⟩ := D_l_looks_up.ex
  refine F.ok sc_l_line_spots (fun vs H Q EX h => ?_) (fun cdv A outer s H vs Q EX hr h => ?_)
  · obtain ⟨fn, k, u, s, rfl, _⟩ := h
    rfl
  obtain ⟨fn, k, u, s1, rfl, hu, hz, q⟩ := h
  obtain ⟨a, z, rs, rfl, ha, hv⟩ := st_view2 hu
  refine ⟨_, (@pss_cons _ _ _ _ _ (@ps_set _ _ 3 _ _ _ _ sc_l_line_spots.nd rfl (Or.inl rfl) (@pe_lst _ _ _ _ (@pa_cons _ _ _ _ _ (@pe_tup _ _ _ _ _ (@pa_cons _ _ _ _ _ pe_str (@pa_cons _ _ _ _ _ (pv 0) (@pa_cons _ _ _ _ _ (pv 1) pa_nil (star_of rfl)) (star_of rfl)) (star_of rfl))) pa_nil (star_of rfl))) (swaps_of rfl) (.inr rfl)) (@pss_cons _ _ _ _ _ (@ps_if _ _ _ _ _ _ _ _ (@pt_cmpR _ _ _ _ _ _ _ _ op_in_seq (@pe_ix _ _ _ _ _ _ _ ix_tup (pv 2) pe_int (fun _ _ => rfl)) (@pe_lst _ _ _ _ (@pa_cons _ _ _ _ _ pe_str (@pa_cons _ _ _ _ _ pe_str pa_nil (star_of rfl)) (star_of rfl))) rfl) (@pss_one _ _ _ (@ps_set _ _ 3 _ _ _ _ sc_l_line_spots.nd rfl (Or.inl rfl) (@pe_op _ _ _ _ _ _ _ _ op_cat (pv 3) (@pe_lst _ _ _ _ (@pa_cons _ _ _ _ _ (@pe_tup _ _ _ _ _ (@pa_cons _ _ _ _ _ pe_str (@pa_cons _ _ _ _ _ (pv 0) (@pa_cons _ _ _ _ _ (pv 1) (@pa_cons _ _ _ _ _ pe_bl pa_nil (star_of rfl)) (star_of rfl)) (star_of rfl)) (star_of rfl))) (@pa_cons _ _ _ _ _ (@pe_tup _ _ _ _ _ (@pa_cons _ _ _ _ _ pe_str (@pa_cons _ _ _ _ _ (pv 0) (@pa_cons _ _ _ _ _ (pv 1) (@pa_cons _ _ _ _ _ pe_bl pa_nil (star_of rfl)) (star_of rfl)) (star_of rfl)) (star_of rfl))) pa_nil (star_of rfl)) (star_of rfl)))) (swaps_of rfl) (.inr rfl))) pss_nil) (@pss_cons _ _ _ _ _ (@ps_if _ _ _ _ _ _ _ _ (@pt_cmpR _ _ _ _ _ _ _ _ op_eq (@pe_ix _ _ _ _ _ _ _ ix_tup (pv 2) pe_int (fun _ _ => rfl)) pe_str (nomark _)) (@pss_one _ _ _ (@ps_expr _ _ _ _ (@pe_bm _ _ _ _ _ _ _ _ _ _ _ _ PySem.F.plainAttrs_list PySem.F.slot_list_append PySem.F.type_list_append mt_append (pv 3) (@pa_cons _ _ _ _ _ (@pe_tup _ _ _ _ _ (@pa_cons _ _ _ _ _ pe_str (@pa_cons _ _ _ _ _ (pv 0) (@pa_cons _ _ _ _ _ (pv 1) (@pa_cons _ _ _ _ _ (@pe_ix _ _ _ _ _ _ _ ix_tup (pv 2) pe_int (fun _ _ => rfl)) pa_nil (star_of rfl)) (star_of rfl)) (star_of rfl)) (star_of rfl))) pa_nil (star_of rfl)) rfl (few_of rfl rfl) rfl (star_of rfl) (plain_of rfl)) (swaps_of rfl))) pss_nil) (@pss_cons _ _ _ _ _ (@ps_if _ _ _ _ _ _ _ _ (PW.pt (pw_and (@pt_cmpR _ _ _ _ _ _ _ _ op_in_seq (@pe_ix _ _ _ _ _ _ _ ix_tup (pv 2) pe_int (fun _ _ => rfl)) (@pe_lst _ _ _ _ (@pa_cons _ _ _ _ _ pe_str (@pa_cons _ _ _ _ _ pe_str (@pa_cons _ _ _ _ _ pe_str pa_nil (star_of rfl)) (star_of rfl)) (star_of rfl))) rfl) (pw_and1 (pt_val (@pe_call _ _ _ _ _ _ _ _ _ _ _ _ _ _ _ _ G_l_looks_up (hr.mono (by omega)) rfl m_l_looks_up k_l_looks_up b_l_looks_up .nil pass0 (@pa_cons _ _ _ _ _ (@pe_ix _ _ _ _ _ _ _ ix_tup (pv 2) (@pe_un _ _ _ _ _ _ un_neg pe_int) (fun _ _ => rfl)) pa_nil (star_of rfl)) (by decide) (star_of rfl) (plain_of rfl)))))) (@pss_one _ _ _ (@ps_expr _ _ _ _ (@pe_bm _ _ _ _ _ _ _ _ _ _ _ _ PySem.F.plainAttrs_list PySem.F.slot_list_append PySem.F.type_list_append mt_append (pv 3) (@pa_cons _ _ _ _ _ (@pe_tup _ _ _ _ _ (@pa_cons _ _ _ _ _ pe_str (@pa_cons _ _ _ _ _ (pv 0) (@pa_cons _ _ _ _ _ (pv 1) (@pa_cons _ _ _ _ _ pe_str pa_nil (star_of rfl)) (star_of rfl)) (star_of rfl)) (star_of rfl))) pa_nil (star_of rfl)) rfl (few_of rfl rfl) rfl (star_of rfl) (plain_of rfl)) (swaps_of rfl))) pss_nil) (@pss_one _ _ _ (@ps_ret _ _ _ _ (pv 3))))))), ?_⟩
  refine ⟨_, rfl, _, rfl, (by show 3 ≤ sizeLine; decide), fun p1 hp1 => ⟨(by show 1 ≤ sizeLine; decide), fun tl htl => ?_⟩⟩
  have g1 := same_new hp1 (.tup [.str "line", .str fn, .int k])
  have G2 := g1.trans (same_new htl (.lst [.ref p1]))
  have tl0 : H tl = none := g1.free htl
  have hp2 : (upd (upd H p1 (.tup [.str "line", .str fn, .int k])) tl (.lst [.ref p1])) p1 = some (.tup [.str "line", .str fn, .int k]) := same_new htl _ _ _ upd_same
  have ht2 : (upd (upd H p1 (.tup [.str "line", .str fn, .int k])) tl (.lst [.ref p1])) tl = some (.lst [.ref p1]) := upd_same
  generalize hH2 : (upd (upd H p1 (.tup [.str "line", .str fn, .int k])) tl (.lst [.ref p1])) = H2 at G2 hp2 ht2
  have ha2 := G2 _ _ ha
  refine ⟨_, rfl, a, _, _, _, rfl, rfl, SqT.of ha2, at0 _ _, (by show 2 ≤ sizeLine; decide), fun pl hpl => ⟨pl, _, rfl, .inl (SqL.of upd_same), rfl, rfl, _, rfl, ?_⟩⟩
  have g3 := same_new hpl (.lst [.str "if", .str "while"])
  have G3 := G2.trans g3
  have hp3 := g3 _ _ hp2
  have ht3 := g3 _ _ ht2
  have ha3 := G3 _ _ ha
  generalize hH3 : (upd H2 pl (.lst [.str "if", .str "while"])) = H3 at g3 G3 hp3 ht3 ha3
  rcases hv with ⟨hz2, es⟩ | ⟨y, c', rfl, rfl, es⟩ | ⟨hz2, hl, v, d, hv1, hv2, hv3, hv4⟩
  · refine ite2 (fun c => ?_) (fun c => absurd (by rcases hz2 with rfl | rfl <;> decide +kernel) c)
    refine ⟨_, rfl, _, rfl, _, rfl, (by show 4 ≤ sizeLine; decide), fun p2 hp20 => ⟨_, rfl, _, rfl, (by show 4 ≤ sizeLine; decide), fun p3 hp30 => ⟨(by show 2 ≤ sizeLine; decide), fun l2 hl2 => ?_⟩⟩⟩
    have g4 := same_new hp20 (.tup [.str "way", .str fn, .int k, .bl true])
    have g5 := same_new hp30 (.tup [.str "way", .str fn, .int k, .bl false])
    have g6 := same_new hl2 (.lst [.ref p2, .ref p3])
    have g36 := (g4.trans g5).trans g6
    have ht6 := g36 _ _ ht3
    refine ⟨tl, l2, _, _, rfl, rfl, ht6, upd_same, (by show 3 ≤ sizeLine; decide), fun r hr0 => ?_⟩
    have g7 := same_new hr0 (.lst ([.ref p1] ++ [.ref p2, .ref p3]))
    have G7 := (G3.trans g36).trans g7
    have r0 := (G3.trans g36).free hr0
    have pF : Paired (TupAt (upd (upd (upd (upd H3 p2 (.tup [.str "way", .str fn, .int k, .bl true])) p3 (.tup [.str "way", .str fn, .int k, .bl false])) l2 (.lst [.ref p2, .ref p3])) r (.lst ([.ref p1] ++ [.ref p2, .ref p3])))) ([.ref p1] ++ [.ref p2, .ref p3]) (SPV fn k s1) := by
      rw [es]
      exact .cons ⟨p1, rfl, g7 _ _ (g36 _ _ hp3)⟩ (.cons ⟨p2, rfl, g7 _ _ (g6 _ _ (g5 _ _ upd_same))⟩ (.cons ⟨p3, rfl, g7 _ _ (g6 _ _ upd_same)⟩ .nil))
    have hr7 : (upd (upd (upd (upd H3 p2 (.tup [.str "way", .str fn, .int k, .bl true])) p3 (.tup [.str "way", .str fn, .int k, .bl false])) l2 (.lst [.ref p2, .ref p3])) r (.lst ([.ref p1] ++ [.ref p2, .ref p3]))) r = some (.lst ([.ref p1] ++ [.ref p2, .ref p3])) := upd_same
    generalize hH7 : (upd (upd (upd (upd H3 p2 (.tup [.str "way", .str fn, .int k, .bl true])) p3 (.tup [.str "way", .str fn, .int k, .bl false])) l2 (.lst [.ref p2, .ref p3])) r (.lst ([.ref p1] ++ [.ref p2, .ref p3]))) = H7 at G7 pF hr7
    refine ⟨_, rfl, a, _, _, _, rfl, rfl, SqT.of (G7 _ _ ha), at0 _ _, rfl, _, rfl, ite2 (fun c => absurd c (by rcases hz2 with rfl | rfl <;> decide +kernel)) (fun c => ?_)⟩
    refine ⟨_, rfl, a, _, _, _, rfl, rfl, SqT.of (G7 _ _ ha), at0 _ _, (by show 3 ≤ sizeLine; decide), fun pm hpm => ⟨pm, _, rfl, .inl (SqL.of upd_same), rfl, rfl, _, rfl, ite2 (fun c => absurd c (by rcases hz2 with rfl | rfl <;> decide +kernel)) (fun c => iteF ?_)⟩⟩
    have g8 := same_new hpm (.lst [.str "let", .str "give", .str "call"])
    exact ⟨_, rfl, q r _ _ (G7.trans g8) r0 (g8 _ _ hr7) (Paired.mapP pF fun _ _ z => z.mono (tk_same g8))⟩
  · refine ite2 (fun c => absurd c (by decide +kernel)) (fun c => ?_)
    refine ⟨_, rfl, a, _, _, _, rfl, rfl, SqT.of ha3, rfl, rfl, _, rfl, ite2 (fun c => ?_) (fun c => absurd (by decide +kernel) c)⟩
    refine ⟨_, rfl, .inl ⟨rfl, _, SqL.of ht3⟩, _, rfl, _, rfl, _, rfl, a, _, _, _, rfl, rfl, SqT.of ha3, rfl, (by show 4 ≤ sizeLine; decide), fun p2 hp20 => ?_⟩
    have g4 := same_new hp20 (.tup [.str "breaks", .str fn, .int k, .str y])
    have ht4 := g4 _ _ ht3
    refine ⟨tl, _, _, rfl, rfl, ht4, (by show 1 < sizeLine; decide), ?_⟩
    have k5 := tk_lst ht4 (.lst ([.ref p1] ++ [.ref p2]))
    have G5 := same_upd (o := .lst ([.ref p1] ++ [.ref p2])) tl0 (G3.trans g4)
    refine ⟨_, rfl, a, _, _, _, rfl, rfl, SqT.of (G5 _ _ ha), rfl, (by show 3 ≤ sizeLine; decide), fun pm hpm => ⟨pm, _, rfl, .inl (SqL.of upd_same), rfl, rfl, _, rfl, ite2 (fun c => absurd c (by decide +kernel)) (fun c => iteF ?_)⟩⟩
    have g8 := same_new hpm (.lst [.str "let", .str "give", .str "call"])
    refine ⟨_, rfl, q tl _ _ (G5.trans g8) tl0 (g8 _ _ upd_same) ?_⟩
    rw [es]
    exact .cons ⟨p1, rfl, g8 _ _ (k5 _ _ (g4 _ _ hp3))⟩ (.cons ⟨p2, rfl, g8 _ _ (k5 _ _ upd_same)⟩ .nil)
  · refine ite2 (fun c => absurd c (by rcases hz2 with rfl | rfl | rfl <;> decide +kernel)) (fun c => ?_)
    refine ⟨_, rfl, a, _, _, _, rfl, rfl, SqT.of ha3, at0 _ _, rfl, _, rfl, ite2 (fun c => absurd c (by rcases hz2 with rfl | rfl | rfl <;> decide +kernel)) (fun c => ?_)⟩
    refine ⟨_, rfl, a, _, _, _, rfl, rfl, SqT.of ha3, at0 _ _, (by show 3 ≤ sizeLine; decide), fun pm hpm => ⟨pm, _, rfl, .inl (SqL.of upd_same), rfl, rfl, _, rfl, ite2 (fun c => ?_) (fun c => absurd (by rcases hz2 with rfl | rfl | rfl <;> decide +kernel) c)⟩⟩
    have g4 := same_new hpm (.lst [.str "let", .str "give", .str "call"])
    have G4 := G3.trans g4
    have ht4 := g4 _ _ ht3
    refine ⟨_, rfl, 1, rfl, a, _, _, _, rfl, rfl, SqT.of (G4 _ _ ha), hv1, v, d, rfl, hv2.mono (tk_same G4), by omega, fun b H5 g5 eb => ⟨b, rfl, ?_⟩⟩
    have ht5 := g5 _ _ ht4
    rw [hv3] at eb
    refine ite2 (fun c => ?_) (fun c => ?_)
    · refine ⟨_, rfl, .inl ⟨rfl, _, SqL.of ht5⟩, _, rfl, _, rfl, (by show 4 ≤ sizeLine; decide), fun p2 hp20 => ?_⟩
      have g6 := same_new hp20 (.tup [.str "breaks", .str fn, .int k, .str "range"])
      have ht6 := g6 _ _ ht5
      refine ⟨tl, _, _, rfl, rfl, ht6, (by show 1 < sizeLine; decide), ?_⟩
      have k6 := tk_lst ht6 (.lst ([.ref p1] ++ [.ref p2]))
      refine ⟨_, rfl, q tl _ _ (same_upd tl0 ((G4.trans g5).trans g6)) tl0 upd_same ?_⟩
      rw [lk_lgc hl, ← eb, if_pos c]
      exact .cons ⟨p1, rfl, k6 _ _ (g6 _ _ (g5 _ _ (g4 _ _ hp3)))⟩ (.cons ⟨p2, rfl, k6 _ _ upd_same⟩ .nil)
    · refine ⟨_, rfl, q tl _ _ (G4.trans g5) tl0 ht5 ?_⟩
      rw [lk_lgc hl, ← eb, if_neg c]
      exact .cons ⟨p1, rfl, g5 _ _ (g4 _ _ hp3)⟩ .nil
end
end K6

set_option Elab.async false
set_option linter.all false
set_option maxRecDepth 100000
set_option maxHeartbeats 4000000
namespace K6
open PySem L2
section
variable {P : Program} {w : World} {K : PySem.W.Frag} {mg : Str → Option Value} {base : Heap} {f g : Addr} {fd gd : FuncData}
abbrev n_l_lines : List Str := ["_law_body_here", "_law_found", "_law_left", "_law_line", "_law_inner", "_law_some"]
theorem sc_l_lines : FnScope n_l_lines ["_law_body_here"] (defScope s_l_lines) := ⟨rfl, rfl, rfl, by decide +kernel, rfl, by decide +kernel, by decide +kernel⟩
def spLL (K : PySem.W.Frag) : Sp := fun vs H Q _ => ∃ a xs b, vs = [.ref a] ∧ (SqL K H a xs ∨ SqT K H a xs) ∧ (∀ H', Same H H' → SqL K H' a xs ∨ SqT K H' a xs) ∧ DTs K H xs (S.ds b) ∧ S.cnts b ≤ 1000 ∧ ∀ r ys H', Same H H' → H r = none → H' r = some (.lst ys) → DTs K H' ys (S.ds (S.flats b)) → Q (.ref r) H'
def LLInv (K : PySem.W.Frag) (H : Hp) (u : V) (b : List S) (m : Nat) (σ : St) (H' : Hp) : Prop := ∃ m3 m4 m5 tl wl ys vs ts ws, σ = [some u, some (.ref tl), some (.ref wl), m3, m4, m5] ∧ Same H H' ∧ H tl = none ∧ H wl = none ∧ tl ≠ wl ∧ H' tl = some (.lst ys) ∧ H' wl = some (.lst vs) ∧
  DTs K H' ys (S.ds ts) ∧ DTs K H' vs.reverse (S.ds ws) ∧ S.flats b = ts ++ S.flats ws ∧ m = S.cnts ws
theorem ok_ll (T : G0 mg) (TR : mg "reversed" = none) (F : Fun K "_law_lines" "_law_lines" s_l_lines f fd) : FnOk P w K mg base CX0 1 f fd ["_law_body_here"] (spLL K) := by
  refine F.ok sc_l_lines (fun vs H Q EX h => ?_) (fun cdv A outer s H vs Q EX hr h => ?_)
  · obtain ⟨a, xs, b, rfl, _⟩ := h
    rfl
  obtain ⟨bb, xs, b, rfl, hbb, hbb2, dxs, hc, q⟩ := h
  refine ⟨_, (@pss_cons _ _ _ _ _ (@ps_set _ _ 1 _ _ _ _ sc_l_lines.nd rfl (Or.inl rfl) (@pe_lst _ _ _ _ pa_nil) (swaps_of rfl) (.inr rfl)) (@pss_cons _ _ _ _ _ (@ps_set _ _ 2 _ _ _ _ sc_l_lines.nd rfl (Or.inl rfl) (pe_listrev rfl rfl T.list rfl TR (pv 0)) (swaps_of rfl) (.inr rfl)) (@pss_cons _ _ _ _ _ (ps_while PassesOwn.never (@pt_cmpR _ _ _ _ _ _ _ _ (op_neNil hr.units0) (pv 2) (@pe_lst _ _ _ _ pa_nil) (nomark _)) (@pss_cons _ _ _ _ _ (@ps_set _ _ 3 _ _ _ _ sc_l_lines.nd rfl (Or.inl rfl) (pe_bm0 PySem.F.plainAttrs_list PySem.F.slot_list_pop PySem.F.type_list_pop mt_pop (pv 2)) (swaps_of rfl) (.inr rfl)) (@pss_cons _ _ _ _ _ (@ps_expr _ _ _ _ (@pe_bm _ _ _ _ _ _ _ _ _ _ _ _ PySem.F.plainAttrs_list PySem.F.slot_list_append PySem.F.type_list_append mt_append (pv 1) (@pa_cons _ _ _ _ _ (pv 3) pa_nil (star_of rfl)) rfl (few_of rfl rfl) rfl (star_of rfl) (plain_of rfl)) (swaps_of rfl)) (@pss_cons _ _ _ _ _ (@ps_set _ _ 4 _ _ _ _ sc_l_lines.nd rfl (Or.inl rfl) (@pe_lst _ _ _ _ pa_nil) (swaps_of rfl) (.inr rfl)) (@pss_cons _ _ _ _ _ (@ps_if _ _ _ _ _ _ _ _ (@pt_cmpR _ _ _ _ _ _ _ _ op_in_seq (@pe_ix _ _ _ _ _ _ _ ix_tup (pv 3) pe_int (fun _ _ => rfl)) (@pe_lst _ _ _ _ (@pa_cons _ _ _ _ _ pe_str (@pa_cons _ _ _ _ _ pe_str pa_nil (star_of rfl)) (star_of rfl))) rfl) (@pss_one _ _ _ (@ps_for _ _ _ _ _ _ _ _ PassesOwn.never rfl (pi_tup (@pe_slice _ _ _ _ _ _ _ _ _ _ sl_tup (pv 3) (po_some pe_int) po_none)) (pg_name (i := 5) sc_l_lines.nd rfl (Or.inl rfl)) (@pss_one _ _ _ (@ps_set _ _ 4 _ _ _ _ sc_l_lines.nd rfl (Or.inl rfl) (@pe_op _ _ _ _ _ _ _ _ op_cat (pv 4) (@pe_callTy _ _ _ _ _ _ _ _ _ call_list_of rfl T.list b_list (@pa_cons _ _ _ _ _ (pv 5) pa_nil (star_of rfl)) (by decide) (by decide) (star_of rfl) (plain_of rfl))) (swaps_of rfl) (.inr rfl))) (fun _ => rfl))) pss_nil) (@pss_one _ _ _ (@ps_expr _ _ _ _ (@pe_bm _ _ _ _ _ _ _ _ _ _ _ _ PySem.F.plainAttrs_list PySem.F.slot_list_extend PySem.F.type_list_extend mt_extend (pv 2) (@pa_cons _ _ _ _ _ (pe_listrev rfl rfl T.list rfl TR (pv 4)) pa_nil (star_of rfl)) rfl (few_of rfl rfl) rfl (star_of rfl) (plain_of rfl)) (swaps_of rfl)))))))) (@pss_one _ _ _ (@ps_ret _ _ _ _ (pv 1)))))), ?_⟩
  refine ⟨(by show 0 ≤ sizeLine; decide), fun t0 ht0 => ?_⟩
  have g0 := same_new ht0 (.lst [])
  refine ⟨_, rfl, bb, xs, rfl, hbb2 _ g0, fun w0 hw0 => ?_⟩
  have g1 := g0.trans (same_new hw0 (.lst xs.reverse))
  have hw00 : H w0 = none := g0.free hw0
  have htw : t0 ≠ w0 := fun z => by rw [← z, upd_same] at hw0; cases hw0
  generalize hvv : V.ref bb = v
  refine ⟨LLInv K H v b, ⟨_, none, none, none, t0, w0, [], xs.reverse, [], b, by rw [← hvv]; rfl, g1, ht0, hw00, htw, by rw [upd_ne htw]; exact upd_same, upd_same, .nil, by rw [List.reverse_reverse]; exact dxs.mono (tk_same g1), rfl, rfl⟩, ?_⟩
  rintro m σ H' ⟨m3, m4, m5, tl, wl, ys, vs, ts, ws, rfl, GH, tl0, wl0, hne, htl, hwl, dy, dv, ef, em⟩
  have lt : ts.length + S.cnts ws = S.cnts b := by rw [← flats_len b, ef, List.length_append, flats_len]
  refine ⟨_, rfl, (by show 0 ≤ sizeLine; decide), fun e he => ⟨wl, e, vs, rfl, rfl, SqL.of (same_new he _ _ _ hwl), SqL.of upd_same, _, rfl, ?_⟩⟩
  have ge := same_new he (.lst [])
  have htl := ge _ _ htl
  have hwl := ge _ _ hwl
  have dy := dy.mono (tk_same ge)
  have dv := dv.mono (tk_same ge)
  have GH := GH.trans ge
  generalize hHe : upd H' e (.lst []) = H' at *
  refine ite2 (fun cc => ?_) (fun cc => ?_)
  · obtain ⟨zs, y, rfl⟩ : ∃ zs y, vs = zs ++ [y] := by
      rcases List.eq_nil_or_concat vs with rfl | ⟨zs, y, e⟩
      · exact absurd cc (by decide)
      · exact ⟨zs, y, by rw [e, List.concat_eq_append]⟩
    rw [List.reverse_append, List.reverse_singleton, List.singleton_append] at dv
    obtain ⟨s1, wr, rfl⟩ : ∃ s1 wr, ws = s1 :: wr := by
      cases ws with
      | nil => simp only [S.ds] at dv; cases dv
      | cons a r => exact ⟨a, r, rfl⟩
    simp only [S.ds] at dv
    have ⟨dy1, dz⟩ : DT K H' y s1.d ∧ DTs K H' zs.reverse (S.ds wr) := by
      cases dv with
      | cons a r => exact ⟨a, r⟩
    refine ⟨fun σ' H' => ∃ m', m' < m ∧ LLInv K H v b m' σ' H', fun _ _ z => z, ?_⟩
    refine ⟨_, rfl, .inl ⟨rfl, _, SqL.of hwl⟩, wl, _, y, rfl, rfl, hwl, by simp, ?_⟩
    rw [List.dropLast_concat]
    have k1 : Tk H' (upd H' wl (.lst zs)) := tk_lst hwl _
    have htl1 : (upd H' wl (.lst zs)) tl = some (.lst ys) := by rw [upd_ne hne]; exact htl
    have lys := dy.len
    rw [S.ds_len] at lys
    have lzs := dz.len
    rw [S.ds_len, List.length_reverse] at lzs
    have cw := cnts_len wr
    simp only [S.cnts] at lt em
    have cs := cnt_eq s1
    refine ⟨_, rfl, .inl ⟨rfl, _, SqL.of htl1⟩, _, rfl, tl, _, y, rfl, rfl, htl1, by rw [sizeLine_eq]; omega, ?_⟩
    have k2 : Tk H' (upd (upd H' wl (.lst zs)) tl (.lst (ys ++ [y]))) := k1.trans (tk_lst htl1 _)
    have G2 : Same H (upd (upd H' wl (.lst zs)) tl (.lst (ys ++ [y]))) := same_upd tl0 (same_upd wl0 GH)
    have hwl2 : (upd (upd H' wl (.lst zs)) tl (.lst (ys ++ [y]))) wl = some (.lst zs) := by rw [upd_ne (Ne.symm hne)]; exact upd_same
    have htl2 : (upd (upd H' wl (.lst zs)) tl (.lst (ys ++ [y]))) tl = some (.lst (ys ++ [y])) := upd_same
    generalize hH2 : (upd (upd H' wl (.lst zs)) tl (.lst (ys ++ [y]))) = H2 at k2 G2 hwl2 htl2
    have dy2 := dy1.mono k2
    obtain ⟨a, z, rs, rfl, ha, hv⟩ := st_view dy2
    refine ⟨(by show 0 ≤ sizeLine; decide), fun i0 hi0 => ?_⟩
    have gi := same_new hi0 (.lst [])
    refine ⟨_, rfl, a, _, _, _, rfl, rfl, SqT.of (gi _ _ ha), at0 _ _, (by show 2 ≤ sizeLine; decide), fun pl hpl => ⟨pl, _, rfl, .inl (SqL.of upd_same), rfl, rfl, _, rfl, ?_⟩⟩
    have g3 := gi.trans (same_new hpl (.lst [.str "if", .str "while"]))
    have hi3 : (upd (upd H2 i0 (.lst [])) pl (.lst [.str "if", .str "while"])) i0 = some (.lst []) := same_new hpl _ _ _ upd_same
    generalize hH3 : (upd (upd H2 i0 (.lst [])) pl (.lst [.str "if", .str "while"])) = H3 at g3 hi3
    have ha3 := g3 _ _ ha
    have endT : ∀ (il : Addr) (iv : List V) (H6 : Hp) (m6 : Option V), Same H2 H6 → H6 il = some (.lst iv) → DTs K H6 iv (S.ds s1.bods.flatten) →
        ∃ x, (some (V.ref wl) = some x) ∧ ((x = .ref wl ∧ ∃ xs, SqL K H6 wl xs)) ∧ (SqL K H6 il iv) ∧ ∀ l, H6 l = none → (upd H6 l (.lst iv.reverse)) wl = some (.lst zs) ∧ zs.length + iv.reverse.length ≤ sizeLine ∧
          ∃ m', m' < m ∧ LLInv K H v b m' [some v, some (.ref tl), some (.ref wl), some (.ref a), some (.ref il), m6] (upd (upd H6 l (.lst iv.reverse)) wl (.lst (zs ++ iv.reverse))) := by
      intro il iv H6 m6 g6 hil div
      have hw6 := g6 _ _ hwl2
      refine ⟨_, rfl, ⟨rfl, _, SqL.of hw6⟩, SqL.of hil, fun l hl => ?_⟩
      have gl := same_new hl (.lst iv.reverse)
      have hw7 := gl _ _ hw6
      have li := div.len
      rw [S.ds_len] at li
      have ci := cnts_len s1.bods.flatten
      have k7 := ((tk_same g6).trans (tk_same gl)).trans (tk_lst hw7 (.lst (zs ++ iv.reverse)))
      refine ⟨hw7, by rw [List.length_reverse, sizeLine_eq]; omega, S.cnts (s1.bods.flatten ++ wr), by rw [S.cnts_app]; omega, _, _, _, tl, wl, _, _, ts ++ [s1], s1.bods.flatten ++ wr, rfl, same_upd wl0 ((G2.trans g6).trans gl), tl0, wl0, hne, by rw [upd_ne hne]; exact gl _ _ (g6 _ _ htl2), upd_same, ?_, ?_, ?_, rfl⟩
      · rw [S.ds_snoc]
        exact DTs.snoc (dy2.mono k7) ((dy.mono k2).mono k7)
      · rw [List.reverse_append, List.reverse_reverse, S.ds_app]
        exact DTs.append (div.mono ((tk_same gl).trans (tk_lst hw7 _))) ((dz.mono k2).mono k7)
      · rw [ef, flats_app]
        simp only [S.flats, flat_eq s1, List.append_assoc, List.singleton_append, List.cons_append, List.nil_append]
    rcases hv with ⟨c', b1, b2, BA, BB, rfl, rfl, hb, d1, d2⟩ | ⟨c', b1, BA, rfl, rfl, hb, d1⟩ | ⟨z1, z2, hb⟩
    · refine ite2 (fun c => ?_) (fun c => absurd (by decide +kernel) c)
      refine ⟨_, rfl, _, rfl, a, _, rfl, SqT.of ha3, fun z => absurd z.1 (show ¬ HT.sIx 4 0 (some 2) = 0 by decide), fun ps hps => ?_⟩
      have gs := g3.trans (same_new hps (.tup [b1, b2]))
      refine ⟨ps, rfl, ⟨[b1, b2], SqT.of upd_same⟩, for_tup (xs := [b1, b2]) (fun j σ H6 => ∃ m5 il iv, σ = [some v, some (.ref tl), some (.ref wl), some (.ref a), some (.ref il), m5] ∧ Same (upd H3 ps (.tup [b1, b2])) H6 ∧ H6 il = some (.lst iv) ∧ DTs K H6 iv (S.ds (s1.bods.take j).flatten))
        ⟨m5, i0, [], rfl, Same.refl _, same_new hps _ _ _ hi3, .nil⟩ (fun j σ H6 _ p => ?_) (fun j x σ H6 hx p => ?_) (fun σ H6 p => ?_)⟩
      · obtain ⟨_, _, _, rfl, g6, _⟩ := p
        exact SqT.of (g6 _ _ upd_same)
      · obtain ⟨m6, il, iv, rfl, g6, hil, div⟩ := p
        have dbv : DTs K H6 [b1, b2] (s1.bods.map bodD) := by rw [hb]; exact (.cons (d1.mono (tk_same (gs.trans g6))) (.cons (d2.mono (tk_same (gs.trans g6))) .nil))
        obtain ⟨dd, hdd, dx⟩ := dbv.get j x hx
        rw [List.getElem?_map] at hdd
        obtain ⟨BB, hBB, rfl⟩ := Option.map_eq_some_iff.mp hdd
        obtain ⟨p, xp, rfl, hp, dp⟩ := DT.open dx
        have cb := cnts_bods hBB
        have l1 := div.len
        have l2 := dp.len
        rw [S.ds_len] at l1 l2
        have c1 := cnts_len (s1.bods.take j).flatten
        have c2 := cnts_len BB
        refine ⟨_, rfl, _, rfl, p, xp, rfl, .inr (SqT.of hp), fun l hl => ?_⟩
        have gl := same_new hl (.lst xp)
        refine ⟨il, l, _, _, rfl, rfl, gl _ _ hil, upd_same, by rw [sizeLine_eq]; omega, fun p2 hp2 => ?_⟩
        have gl2 := gl.trans (same_new hp2 (.lst (iv ++ xp)))
        refine ⟨_, _, _, rfl, g6.trans gl2, upd_same, ?_⟩
        rw [List.take_add_one, hBB, List.flatten_append, S.ds_app]
        exact DTs.append (div.mono (tk_same gl2)) (by simpa using dp.mono (tk_same gl2))
      · obtain ⟨m6, il, iv, rfl, g6, hil, div⟩ := p
        have e2 : (s1.bods.take [b1, b2].length).flatten = s1.bods.flatten := by rw [hb]; rfl
        rw [e2] at div
        obtain ⟨x, ex, ⟨rfl, xw, hxw⟩, hsi, hE⟩ := endT il iv H6 m6 (gs.trans g6) hil div
        exact ⟨_, rfl, .inl ⟨rfl, xw, hxw⟩, _, rfl, il, iv, rfl, .inl hsi, fun l hl => ⟨wl, l, _, _, rfl, rfl, (hE l hl).1, upd_same, (hE l hl).2.1, (hE l hl).2.2⟩⟩
    · refine ite2 (fun c => ?_) (fun c => absurd (by decide +kernel) c)
      refine ⟨_, rfl, _, rfl, a, _, rfl, SqT.of ha3, fun z => absurd z.1 (show ¬ HT.sIx 3 0 (some 2) = 0 by decide), fun ps hps => ?_⟩
      have gs := g3.trans (same_new hps (.tup [b1]))
      refine ⟨ps, rfl, ⟨[b1], SqT.of upd_same⟩, for_tup (xs := [b1]) (fun j σ H6 => ∃ m5 il iv, σ = [some v, some (.ref tl), some (.ref wl), some (.ref a), some (.ref il), m5] ∧ Same (upd H3 ps (.tup [b1])) H6 ∧ H6 il = some (.lst iv) ∧ DTs K H6 iv (S.ds (s1.bods.take j).flatten))
        ⟨m5, i0, [], rfl, Same.refl _, same_new hps _ _ _ hi3, .nil⟩ (fun j σ H6 _ p => ?_) (fun j x σ H6 hx p => ?_) (fun σ H6 p => ?_)⟩
      · obtain ⟨_, _, _, rfl, g6, _⟩ := p
        exact SqT.of (g6 _ _ upd_same)
      · obtain ⟨m6, il, iv, rfl, g6, hil, div⟩ := p
        have dbv : DTs K H6 [b1] (s1.bods.map bodD) := by rw [hb]; exact (.cons (d1.mono (tk_same (gs.trans g6))) .nil)
        obtain ⟨dd, hdd, dx⟩ := dbv.get j x hx
        rw [List.getElem?_map] at hdd
        obtain ⟨BB, hBB, rfl⟩ := Option.map_eq_some_iff.mp hdd
        obtain ⟨p, xp, rfl, hp, dp⟩ := DT.open dx
        have cb := cnts_bods hBB
        have l1 := div.len
        have l2 := dp.len
        rw [S.ds_len] at l1 l2
        have c1 := cnts_len (s1.bods.take j).flatten
        have c2 := cnts_len BB
        refine ⟨_, rfl, _, rfl, p, xp, rfl, .inr (SqT.of hp), fun l hl => ?_⟩
        have gl := same_new hl (.lst xp)
        refine ⟨il, l, _, _, rfl, rfl, gl _ _ hil, upd_same, by rw [sizeLine_eq]; omega, fun p2 hp2 => ?_⟩
        have gl2 := gl.trans (same_new hp2 (.lst (iv ++ xp)))
        refine ⟨_, _, _, rfl, g6.trans gl2, upd_same, ?_⟩
        rw [List.take_add_one, hBB, List.flatten_append, S.ds_app]
        exact DTs.append (div.mono (tk_same gl2)) (by simpa using dp.mono (tk_same gl2))
      · obtain ⟨m6, il, iv, rfl, g6, hil, div⟩ := p
        have e2 : (s1.bods.take [b1].length).flatten = s1.bods.flatten := by rw [hb]; rfl
        rw [e2] at div
        obtain ⟨x, ex, ⟨rfl, xw, hxw⟩, hsi, hE⟩ := endT il iv H6 m6 (gs.trans g6) hil div
        exact ⟨_, rfl, .inl ⟨rfl, xw, hxw⟩, _, rfl, il, iv, rfl, .inl hsi, fun l hl => ⟨wl, l, _, _, rfl, rfl, (hE l hl).1, upd_same, (hE l hl).2.1, (hE l hl).2.2⟩⟩
    · refine ite2 (fun c => ?_) (fun c => ?_)
      · have c' : ((Str.ofString "if" == z) || (Str.ofString "while" == z)) = true := by simpa [inV, eqV] using c
        rcases Bool.or_eq_true_iff.mp c' with h | h
        · exact absurd (eq_of_beq h).symm z1
        · exact absurd (eq_of_beq h).symm z2
      · obtain ⟨x, ex, ⟨rfl, xw, hxw⟩, hsi, hE⟩ := endT i0 [] H3 m5 g3 hi3 (by rw [hb]; exact .nil)
        exact ⟨_, rfl, .inl ⟨rfl, xw, hxw⟩, _, rfl, i0, [], rfl, .inl hsi, fun l hl => ⟨wl, l, _, _, rfl, rfl, (hE l hl).1, upd_same, (hE l hl).2.1, (hE l hl).2.2⟩⟩
  · have hv : vs = [] := by
      cases vs with
      | nil => rfl
      | cons a r => exact absurd rfl cc
    subst hv
    have hw' : ws = [] := by
      cases ws with
      | nil => rfl
      | cons a r => simp only [S.ds] at dv; cases dv
    subst hw'
    refine ⟨_, rfl, ?_⟩
    refine q tl ys H' GH tl0 htl ?_
    rw [ef]
    simpa [S.flats] using dy
end
end K6

set_option Elab.async false
set_option linter.all false
set_option maxRecDepth 100000
set_option maxHeartbeats 4000000
namespace K6
open PySem L2
def spl (f : Str) : Nat → List S → List (List V)
  | _, [] => []
  | k, s :: r => SPV f (k : Int) s ++ spl f (k + 1) r
theorem spl_app (f : Str) : ∀ (k : Nat) (a b : List S), spl f k (a ++ b) = spl f k a ++ spl f (k + a.length) b
  | k, [], b => by simp [spl]
  | k, s :: r, b => by simp only [List.cons_append, spl, spl_app f (k + 1) r b, List.append_assoc, List.length_cons]; rw [Nat.add_assoc, Nat.add_comm 1]
theorem spv_len (f : Str) (k : Int) (s : S) : (SPV f k s).length ≤ 3 := by
  cases s <;> simp only [SPV] <;> first | (split <;> simp) | simp
theorem spl_len (f : Str) : ∀ (k : Nat) (a : List S), (spl f k a).length ≤ 3 * a.length
  | k, [] => by simp [spl]
  | k, s :: r => by
    have h1 := spv_len f k s
    have h2 := spl_len f (k + 1) r
    simp only [spl, List.length_append, List.length_cons]
    omega
def spF (F : Func) : List (List V) := spl F.1.1 0 (S.flats F.2)
def Sml (F : Func) : Prop := S.cnts F.2 ≤ 8 ∧ ∀ s ∈ S.flats F.2, zD s.d ≤ 1000000
theorem spF_len {F : Func} (h : Sml F) : (spF F).length ≤ 24 := by
  have h1 := spl_len F.1.1 0 (S.flats F.2)
  rw [flats_len] at h1
  have := h.1
  unfold spF
  omega
theorem spFS_len : ∀ {FS : List Func}, (∀ F ∈ FS, Sml F) → (FS.flatMap spF).length ≤ 24 * FS.length
  | [], _ => by simp
  | F :: r, h => by
    have h1 := spF_len (h F List.mem_cons_self)
    have h2 := spFS_len (FS := r) fun x hx => h x (List.mem_cons_of_mem _ hx)
    simp only [List.flatMap_cons, List.length_append, List.length_cons]
    omega
theorem Paired.app7 {α β : Type} {F : α → β → Prop} : ∀ {l l2 : List α} {m m2 : List β}, Paired F l m → Paired F l2 m2 → Paired F (l ++ l2) (m ++ m2)
  | _, _, _, _, .nil, q => q
  | _, _, _, _, .cons h r, q => .cons h (Paired.app7 r q)
section
variable {P : Program} {w : World} {K : PySem.W.Frag} {mg : Str → Option Value} {base : Heap} {f g : Addr} {fd gd : FuncData}
def spSpots (K : PySem.W.Frag) : Sp := fun vs H Q _ => ∃ u R FS, vs = [u] ∧ PgAt K H u R FS ∧ (∀ F ∈ FS, Sml F) ∧ FS.length ≤ 10 ∧ ∀ r ys H', Same H H' → H r = none → H' r = some (.lst ys) → Paired (TupAt H') ys (FS.flatMap spF) → Q (.ref r) H'
abbrev n_spots_of : List Str := ["program", "told", "function", "k", "statement"]
theorem sc_spots_of : FnScope n_spots_of ["program"] (defScope s_spots_of) := ⟨rfl, rfl, rfl, by decide +kernel, rfl, by decide +kernel, by decide +kernel⟩
theorem ok_spots (T : G0 mg) (TE : mg "enumerate" = none) (F : Fun K "spots_of" "spots_of" s_spots_of f fd) (D_lines_of : Cal P w K mg base 3 "lines_of" ["function"] (spOf K)) (D_spots_of_line : Cal P w K mg base 3 "spots_of_line" ["f", "k", "statement"] (spSL K)) : FnOk P w K mg base CX0 4 f fd ["program"] (spSpots K) := by
  obtain ⟨g_lines_of, gd_lines_of, G_lines_of, b_lines_of, k_lines_of, m_lines_of⟩ := D_lines_of.ex
  obtain ⟨g_spots_of_line, gd_spots_of_line, G_spots_of_line, b_spots_of_line, k_spots_of_line, m_spots_of_line⟩ := D_spots_of_line.ex
  refine F.ok sc_spots_of (fun vs H Q EX h => ?_) (fun cdv A outer s H vs Q EX hr h => ?_)
  · obtain ⟨u, R, FS, rfl, _⟩ := h
    rfl
  obtain ⟨u, R, FS, rfl, ⟨a, y, z, fx, rfl, ha, _, hz, pF⟩, hsm, hfl, q⟩ := h
  refine ⟨_, (@pss_cons _ _ _ _ _ (@ps_set _ _ 1 _ _ _ _ sc_spots_of.nd rfl (Or.inl rfl) (@pe_lst _ _ _ _ pa_nil) (swaps_of rfl) (.inr rfl)) (@pss_cons _ _ _ _ _ (@ps_for _ _ _ _ _ _ _ _ PassesOwn.never rfl (pi_tup (@pe_ix _ _ _ _ _ _ _ ix_tup (pv 0) pe_int (fun _ _ => rfl))) (pg_name (i := 2) sc_spots_of.nd rfl (Or.inl rfl)) (@pss_one _ _ _ (@ps_for _ _ _ _ _ _ _ _ PassesOwn.never rfl (pi_enum rfl TE (@pe_call _ _ _ _ _ _ _ _ _ _ _ _ _ _ _ _ G_lines_of (hr.mono (by omega)) rfl m_lines_of k_lines_of b_lines_of .nil pass0 (@pa_cons _ _ _ _ _ (pv 2) pa_nil (star_of rfl)) (by decide) (star_of rfl) (plain_of rfl))) (pg_tup rfl (pgs_cons (pg_name (i := 3) sc_spots_of.nd rfl (Or.inl rfl)) (pgs_cons (pg_name (i := 4) sc_spots_of.nd rfl (Or.inl rfl)) pgs_nil))) (@pss_one _ _ _ (@ps_expr _ _ _ _ (@pe_bm _ _ _ _ _ _ _ _ _ _ _ _ PySem.F.plainAttrs_list PySem.F.slot_list_extend PySem.F.type_list_extend mt_extend (pv 1) (@pa_cons _ _ _ _ _ (@pe_call _ _ _ _ _ _ _ _ _ _ _ _ _ _ _ _ G_spots_of_line (hr.mono (by omega)) rfl m_spots_of_line k_spots_of_line b_spots_of_line .nil pass0 (@pa_cons _ _ _ _ _ (@pe_ix _ _ _ _ _ _ _ ix_tup (pv 2) pe_int (fun _ _ => rfl)) (@pa_cons _ _ _ _ _ (pv 3) (@pa_cons _ _ _ _ _ (pv 4) pa_nil (star_of rfl)) (star_of rfl)) (star_of rfl)) (by decide) (star_of rfl) (plain_of rfl)) pa_nil (star_of rfl)) rfl (few_of rfl rfl) rfl (star_of rfl) (plain_of rfl)) (swaps_of rfl))) (fun _ => rfl))) (fun _ => rfl)) (@pss_one _ _ _ (@ps_ret _ _ _ _ (pv 1))))), ?_⟩
  refine ⟨(by show 0 ≤ sizeLine; decide), fun t0 ht0 => ?_⟩
  have g0 := same_new ht0 (.lst [])
  have lF := Paired.length pF
  refine ⟨_, rfl, a, _, _, _, rfl, rfl, SqT.of (g0 _ _ ha), rfl, z, rfl, ⟨fx, SqT.of (g0 _ _ hz)⟩, for_tup (xs := fx) (fun i σ H' => ∃ m2 m3 m4 ys, σ = [some (.ref a), some (.ref t0), m2, m3, m4] ∧ Same H H' ∧ H' t0 = some (.lst ys) ∧ Paired (TupAt H') ys ((FS.take i).flatMap spF))
    ⟨none, none, none, [], rfl, g0, upd_same, .nil⟩ (fun i σ H' _ p => ?_) (fun i x σ H' hx p => ?_) (fun σ H' p => ?_)⟩
  · obtain ⟨_, _, _, _, rfl, g, _⟩ := p
    exact SqT.of (g _ _ hz)
  · obtain ⟨m2, m3, m4, ys, rfl, GH, ht, pY⟩ := p
    obtain ⟨FF, hFF, hfa⟩ := paired_at pF i x hx
    have sF := hsm FF (List.mem_of_getElem? hFF)
    have hfa' := hfa.mono (tk_same GH)
    obtain ⟨af, pf, qf, bf, xf, rfl, haf, _⟩ := id hfa
    refine ⟨_, rfl, .ref af, FF, rfl, hfa', by have := sF.1; omega, fun r ls H3 g3 hr0 hr3 dls => ?_⟩
    have G3 := GH.trans g3
    have ht3 := g3 _ _ ht
    have hrt : r ≠ t0 := fun z => by rw [z, ht] at hr0; cases hr0
    have lls := dls.len
    rw [S.ds_len, flats_len] at lls
    have c8 := sF.1
    have tk8 := spFS_len (FS := FS.take i) fun x hx => hsm x (List.mem_of_mem_take hx)
    have ti : (FS.take i).length ≤ FS.length := by rw [List.length_take]; omega
    refine ⟨r, rfl, ⟨ls, SqL.of hr3⟩, for_enum (xs := ls) (fun j σ H5 => ∃ m3 m4 y2, σ = [some (.ref a), some (.ref t0), some (.ref af), m3, m4] ∧ Same H H5 ∧ Tk H3 H5 ∧ H5 r = some (.lst ls) ∧ H5 t0 = some (.lst y2) ∧ Paired (TupAt H5) y2 ((FS.take i).flatMap spF ++ spl FF.1.1 0 ((S.flats FF.2).take j)))
      ⟨m3, m4, ys, rfl, G3, fun _ _ z => z, hr3, ht3, by simpa [spl] using Paired.mapP pY fun _ _ z => z.mono (tk_same g3)⟩ (fun j σ H5 _ p => ?_) (fun j x2 σ H5 pp hx2 p hpp => ?_) (fun σ H5 p => ?_)⟩
    · obtain ⟨_, _, _, rfl, _, _, h, _⟩ := p
      exact SqL.of h
    · obtain ⟨m3', m4', y2, rfl, G5, k5, hr5, ht5, pY5⟩ := p
      have gp := same_new hpp (.tup [.int (j : Int), x2])
      rw [S.ds_eq] at dls
      obtain ⟨dd, hdd, dx⟩ := (dls.mono k5).get j x2 hx2
      rw [List.getElem?_map] at hdd
      obtain ⟨s1, hs1, rfl⟩ := Option.map_eq_some_iff.mp hdd
      refine ⟨pp, _, rfl, SqT.of upd_same, rfl, _, _, rfl, _, _, rfl, rfl, ?_⟩
      refine ⟨_, rfl, .inl ⟨rfl, _, SqL.of (gp _ _ ht5)⟩, _, rfl, af, _, _, _, rfl, rfl, SqT.of (gp _ _ (G5 _ _ haf)), rfl, _, rfl, _, rfl, FF.1.1, (j : Int), x2, s1, rfl, dx.mono (tk_same gp), sF.2 s1 (List.mem_of_getElem? hs1), fun r2 y3 H6 g6 hr20 h26 p6 => ?_⟩
      have ht6 := g6 _ _ (gp _ _ ht5)
      have l5 := Paired.length pY5
      rw [List.length_append] at l5
      have l6 := Paired.length p6
      have l7 := spv_len FF.1.1 j s1
      have l8 := spl_len FF.1.1 0 ((S.flats FF.2).take j)
      rw [List.length_take, flats_len] at l8
      refine ⟨t0, r2, _, _, rfl, rfl, ht6, h26, by rw [sizeLine_eq]; omega, ?_⟩
      have k7 := ((tk_same gp).trans (tk_same g6)).trans (tk_lst ht6 (.lst (y2 ++ y3)))
      refine ⟨_, _, _, rfl, same_upd ht0 ((G5.trans gp).trans g6), k5.trans k7, by rw [upd_ne hrt]; exact g6 _ _ (gp _ _ hr5), upd_same, ?_⟩
      rw [List.take_add_one, hs1, Option.toList_some, spl_app, ← List.append_assoc]
      refine Paired.app7 (Paired.mapP pY5 fun _ _ z => z.mono k7) ?_
      have e1 : 0 + ((S.flats FF.2).take j).length = j := by
        rw [List.length_take]
        have := (List.getElem?_eq_some_iff.mp hs1).1
        omega
      rw [e1]
      simpa [spl] using Paired.mapP p6 fun _ _ z => z.mono (tk_lst ht6 (.lst (y2 ++ y3)))
    · obtain ⟨m3', m4', y2, rfl, G5, k5, hr5, ht5, pY5⟩ := p
      refine ⟨_, _, _, _, rfl, G5, ht5, ?_⟩
      rw [lls, ← flats_len, List.take_length] at pY5
      rw [List.take_add_one, hFF, Option.toList_some, List.flatMap_append]
      simpa [spF] using pY5
  · obtain ⟨m2, m3, m4, ys, rfl, GH, ht, pY⟩ := p
    rw [lF, List.take_length] at pY
    exact ⟨_, rfl, q t0 ys H' GH ht0 ht pY⟩
end
end K6

set_option Elab.async false
set_option linter.all false
set_option maxRecDepth 100000
set_option maxHeartbeats 4000000
namespace K6
open PySem L2
theorem sh_all : ∀ {ds : List PyData} {d : PyData}, PyData.showableAll ds = true → d ∈ ds → d.showable = true
  | [], d, _, h => nomatch h
  | x :: r, d, h, m => by
    have h' : x.showable = true ∧ PyData.showableAll r = true := by simpa [PyData.showableAll] using h
    rcases List.mem_cons.mp m with rfl | m
    · exact h'.1
    · exact sh_all h'.2 m
theorem nd_all : ∀ {ds : List PyData} {d : PyData}, PyData.hasDictAll ds = false → d ∈ ds → d.hasDict = false
  | [], d, _, h => nomatch h
  | x :: r, d, h, m => by
    have h' : x.hasDict = false ∧ PyData.hasDictAll r = false := by simpa [PyData.hasDictAll] using h
    rcases List.mem_cons.mp m with rfl | m
    · exact h'.1
    · exact nd_all h'.2 m
theorem dp_all : ∀ {ds : List PyData} {d : PyData}, d ∈ ds → d.depth ≤ PyData.depthAll ds
  | [], d, h => nomatch h
  | x :: r, d, m => by
    simp only [PyData.depthAll]
    rcases List.mem_cons.mp m with rfl | m
    · omega
    · have := dp_all m
      omega
theorem sz_all : ∀ {ds : List PyData} {d : PyData}, d ∈ ds → W d ≤ WS ds
  | [], d, h => nomatch h
  | x :: r, d, m => by
    simp only [WS]
    rcases List.mem_cons.mp m with rfl | m
    · omega
    · have := sz_all m
      omega
theorem Nices.mem {m b : Nat} {ds : List PyData} {d : PyData} (h : Nices m b ds) (hm : d ∈ ds) : Nice m b d := ⟨sh_all h.sh hm, nd_all h.nd hm, Nat.le_trans (dp_all hm) h.dp, Nat.le_trans (sz_all hm) h.sz⟩
theorem Nice.inv {m b : Nat} {ds : List PyData} (h : Nice m b (.tuple ds)) : Nices m b ds := by
  refine ⟨by simpa [PyData.showable] using h.sh, by simpa [PyData.hasDict] using h.nd, ?_, ?_⟩
  · have := h.dp
    simp only [PyData.depth] at this
    omega
  · have := h.sz
    simp only [W] at this
    omega
mutual
theorem flat_nice {m b : Nat} : ∀ s : S, Nice m b s.d → ∀ t ∈ s.flat, Nice m b t.d
  | .if_ c A B, h, t, ht => by
    simp only [S.flat, List.mem_cons, List.mem_append] at ht
    have h' := h
    simp only [S.d] at h'
    rcases ht with rfl | ht | ht
    · exact h
    · exact flats_nice A (h'.inv.mem (d := .tuple (S.ds A)) (by simp)).inv t ht
    · exact flats_nice B (h'.inv.mem (d := .tuple (S.ds B)) (by simp)).inv t ht
  | .while_ c A, h, t, ht => by
    simp only [S.flat, List.mem_cons] at ht
    have h' := h
    simp only [S.d] at h'
    rcases ht with rfl | ht
    · exact h
    · exact flats_nice A (h'.inv.mem (d := .tuple (S.ds A)) (by simp)).inv t ht
  | .let_ x e, h, t, ht => by simp only [S.flat, List.mem_singleton] at ht; subst ht; exact h
  | .say y c, h, t, ht => by simp only [S.flat, List.mem_singleton] at ht; subst ht; exact h
  | .call x y es, h, t, ht => by simp only [S.flat, List.mem_singleton] at ht; subst ht; exact h
  | .give e, h, t, ht => by simp only [S.flat, List.mem_singleton] at ht; subst ht; exact h
theorem flats_nice {m b : Nat} : ∀ ss : List S, Nices m b (S.ds ss) → ∀ t ∈ S.flats ss, Nice m b t.d
  | [], _, t, ht => by simp [S.flats] at ht
  | s :: r, h, t, ht => by
    simp only [S.flats, List.mem_append] at ht
    simp only [S.ds] at h
    rcases ht with ht | ht
    · exact flat_nice s (h.mem (by simp)) t ht
    · refine flats_nice r ⟨?_, ?_, ?_, ?_⟩ t ht
      · have := h.sh; simp [PyData.showableAll] at this; exact this.2
      · have := h.nd; simp [PyData.hasDictAll] at this; exact this.2
      · have := h.dp; simp only [PyData.depthAll] at this; omega
      · have := h.sz; simp only [WS] at this; omega
end
mutual
theorem zD_W : ∀ d : PyData, zD d ≤ W d + 2
  | .tuple xs => by
    have := zDs_W xs
    simp only [zD, W]
    omega
  | .list xs => by simp only [zD]; omega
  | .none => by simp only [zD]; omega
  | .bool b => by simp only [zD]; omega
  | .int i => by simp only [zD]; omega
  | .str x => by simp only [zD]; omega
  | .dict _ => by simp only [zD]; omega
theorem zDs_W : ∀ ds : List PyData, zDs ds ≤ WS ds
  | [] => by simp [zDs, WS]
  | d :: r => by
    have := zD_W d
    have := zDs_W r
    simp only [zDs, WS]
    omega
end
theorem n_map7 {α : Type} {f : α → PyData} {m b : Nat} : ∀ {l : List α}, (∀ a ∈ l, Nice m b (f a)) → Nices m (l.length * (b + 2)) (l.map f)
  | [], _ => nz.mono (Nat.le_refl _) (Nat.zero_le _)
  | a :: r, h => by
    have := Nices.cons (h a List.mem_cons_self) (n_map7 (l := r) fun x hx => h x (List.mem_cons_of_mem _ hx))
    refine this.mono (Nat.le_refl _) ?_
    rw [List.length_cons, Nat.add_mul]
    omega
theorem bs8 : 8 * BS ≤ 999998 := by decide +kernel
theorem b64 : 8 * (8 * BS + 2) + 3 ≤ sizeLine := by rw [sizeLine_eq]; decide +kernel
theorem FOk.body {R : List Rec} {HS : List Head} {F : Func} (o : FOk R HS F) : Nices 23 (8 * BS) (S.ds F.2) := (nices_ss o.ns).mono (Nat.le_refl _) (Nat.mul_le_mul_right _ o.c8)
theorem FOk.sml {R : List Rec} {HS : List Head} {F : Func} (o : FOk R HS F) : Sml F := ⟨o.c8, fun s hs => by
  have h1 := (flats_nice F.2 o.body s hs).sz
  have h2 := zD_W s.d
  have h3 := bs8
  omega⟩
/-- a list of lines may be shown -/
theorem lines_nice {R : List Rec} {HS : List Head} {F : Func} (o : FOk R HS F) {l : List S} (hl : l.length ≤ 8) (hm : ∀ s ∈ l, s ∈ S.flats F.2) : Nice 24 (8 * (8 * BS + 2) + 3) (.list (S.ds l)) := by
  rw [S.ds_eq]
  have h := n_map7 (f := S.d) (l := l) (m := 23) (b := 8 * BS) fun s hs => flats_nice F.2 o.body s (hm s hs)
  exact h.lst.mono (Nat.le_refl _) (Nat.add_le_add_right (Nat.mul_le_mul_right _ hl) _)
mutual
theorem bods_flat : ∀ (s : S), ∀ t ∈ s.flat, ∀ x ∈ S.flats t.bods.flatten, x ∈ s.flat
  | .if_ c A B, t, ht, x, hx => by
    simp only [S.flat, List.mem_cons, List.mem_append] at ht ⊢
    rcases ht with rfl | ht | ht
    · right
      simp only [S.bods, List.flatten_cons, List.flatten_nil, List.append_nil, flats_app, List.mem_append] at hx
      exact hx
    · exact .inr (.inl (bods_flats A t ht x hx))
    · exact .inr (.inr (bods_flats B t ht x hx))
  | .while_ c A, t, ht, x, hx => by
    simp only [S.flat, List.mem_cons] at ht ⊢
    rcases ht with rfl | ht
    · right
      simp only [S.bods, List.flatten_cons, List.flatten_nil, List.append_nil] at hx
      exact hx
    · exact .inr (bods_flats A t ht x hx)
  | .let_ x e, t, ht, y, hy => by simp only [S.flat, List.mem_singleton] at ht; subst ht; simp [S.bods, S.flats] at hy
  | .say y c, t, ht, z, hy => by simp only [S.flat, List.mem_singleton] at ht; subst ht; simp [S.bods, S.flats] at hy
  | .call x y es, t, ht, z, hy => by simp only [S.flat, List.mem_singleton] at ht; subst ht; simp [S.bods, S.flats] at hy
  | .give e, t, ht, z, hy => by simp only [S.flat, List.mem_singleton] at ht; subst ht; simp [S.bods, S.flats] at hy
theorem bods_flats : ∀ (ss : List S), ∀ t ∈ S.flats ss, ∀ x ∈ S.flats t.bods.flatten, x ∈ S.flats ss
  | [], t, ht, x, hx => by simp [S.flats] at ht
  | s :: r, t, ht, x, hx => by
    simp only [S.flats, List.mem_append] at ht ⊢
    rcases ht with ht | ht
    · exact .inl (bods_flat s t ht x hx)
    · exact .inr (bods_flats r t ht x hx)
end
mutual
theorem cnt_flat : ∀ (s : S), ∀ t ∈ s.flat, t.cnt ≤ s.cnt
  | .if_ c A B, t, ht => by
    simp only [S.flat, List.mem_cons, List.mem_append] at ht
    rcases ht with rfl | ht | ht
    · exact Nat.le_refl _
    · have := cnt_flats A t ht; simp only [S.cnt]; omega
    · have := cnt_flats B t ht; simp only [S.cnt]; omega
  | .while_ c A, t, ht => by
    simp only [S.flat, List.mem_cons] at ht
    rcases ht with rfl | ht
    · exact Nat.le_refl _
    · have := cnt_flats A t ht; simp only [S.cnt]; omega
  | .let_ x e, t, ht => by simp only [S.flat, List.mem_singleton] at ht; subst ht; exact Nat.le_refl _
  | .say y c, t, ht => by simp only [S.flat, List.mem_singleton] at ht; subst ht; exact Nat.le_refl _
  | .call x y es, t, ht => by simp only [S.flat, List.mem_singleton] at ht; subst ht; exact Nat.le_refl _
  | .give e, t, ht => by simp only [S.flat, List.mem_singleton] at ht; subst ht; exact Nat.le_refl _
theorem cnt_flats : ∀ (ss : List S), ∀ t ∈ S.flats ss, t.cnt ≤ S.cnts ss
  | [], t, ht => by simp [S.flats] at ht
  | s :: r, t, ht => by
    simp only [S.flats, List.mem_append] at ht
    simp only [S.cnts]
    rcases ht with ht | ht
    · have := cnt_flat s t ht; omega
    · have := cnt_flats r t ht; omega
end
mutual
theorem oks_flat {R : List Rec} {HS : List Head} {Vs : List Fld} {gv : Str} : ∀ (s : S), OkS R HS Vs gv s → ∀ t ∈ s.flat, OkS R HS Vs gv t
  | .if_ c A B, h, t, ht => by
    simp only [S.flat, List.mem_cons, List.mem_append] at ht
    have h' := h
    simp only [OkS] at h'
    rcases ht with rfl | ht | ht
    · exact h
    · exact oks_flats A h'.2.1 t ht
    · exact oks_flats B h'.2.2 t ht
  | .while_ c A, h, t, ht => by
    simp only [S.flat, List.mem_cons] at ht
    have h' := h
    simp only [OkS] at h'
    rcases ht with rfl | ht
    · exact h
    · exact oks_flats A h'.2 t ht
  | .let_ x e, h, t, ht => by simp only [S.flat, List.mem_singleton] at ht; subst ht; exact h
  | .say y c, h, t, ht => by simp only [S.flat, List.mem_singleton] at ht; subst ht; exact h
  | .call x y es, h, t, ht => by simp only [S.flat, List.mem_singleton] at ht; subst ht; exact h
  | .give e, h, t, ht => by simp only [S.flat, List.mem_singleton] at ht; subst ht; exact h
theorem oks_flats {R : List Rec} {HS : List Head} {Vs : List Fld} {gv : Str} : ∀ (ss : List S), OkSs R HS Vs gv ss → ∀ t ∈ S.flats ss, OkS R HS Vs gv t
  | [], _, t, ht => by simp [S.flats] at ht
  | s :: r, h, t, ht => by
    simp only [S.flats, List.mem_append] at ht
    simp only [OkSs] at h
    rcases ht with ht | ht
    · exact oks_flat s h.1 t ht
    · exact oks_flats r h.2 t ht
end
def vD : V → PyData
  | .str z => .str z
  | .int i => .int i
  | .bl b => .bool b
  | _ => .none
def spD (sp : List V) : PyData := .tuple (sp.map vD)
def FlatN (x : V) : Prop := (∃ z, x = .str z ∧ Nice 0 12 (.str z)) ∨ (∃ i, x = .int i ∧ Nice 0 12 (.int i)) ∨ ∃ b, x = .bl b
theorem nB (b : Bool) : Nice 0 12 (.bool b) := by cases b <;> exact ⟨by decide +kernel, by decide +kernel, by decide +kernel, by decide +kernel⟩
theorem FlatN.nice {x : V} (h : FlatN x) : Nice 0 12 (vD x) := by
  rcases h with ⟨z, rfl, h⟩ | ⟨i, rfl, h⟩ | ⟨b, rfl⟩
  · exact h
  · exact h
  · exact nB b
theorem rd_flat {K : PySem.W.Frag} {H : Hp} : ∀ {l : List V}, (∀ x ∈ l, FlatN x) → RdAll K H l (l.map vD)
  | [], _ => .nil
  | x :: r, h => by
    refine .cons ?_ (rd_flat fun y hy => h y (List.mem_cons_of_mem _ hy))
    rcases h x List.mem_cons_self with ⟨z, rfl, _⟩ | ⟨i, rfl, _⟩ | ⟨b, rfl⟩
    · exact .str z
    · exact .int i
    · exact .bl b
theorem k9 : ∀ k ∈ List.range 9, (PyData.int (k : Int)).showable = true ∧ (PyData.int (k : Int)).hasDict = false ∧ (PyData.int (k : Int)).depth = 0 ∧ W (.int (k : Int)) ≤ 12 := by decide +kernel
theorem kN {k : Nat} (h : k < 9) : Nice 0 12 (.int (k : Int)) := by
  obtain ⟨a, b, c, d⟩ := k9 k (List.mem_range.mpr h)
  exact ⟨a, b, by omega, d⟩
def WL : List Str := ["line", "way", "breaks", "range"]
theorem wl_nice : ∀ z ∈ WL, (PyData.str z).showable = true ∧ (PyData.str z).hasDict = false ∧ (PyData.str z).depth = 0 ∧ W (.str z) ≤ 12 := by decide +kernel
theorem nL {z : Str} (h : z ∈ WL) : FlatN (.str z) := .inl ⟨z, rfl, let ⟨a, b, c, d⟩ := wl_nice z h; ⟨a, b, by omega, d⟩⟩
theorem spv_ok {f : Str} {k : Nat} {s : S} (hf : f ∈ WD) (hk : k < 9) (hy : ∀ y c, s = .say y c → y ∈ WD) : ∀ sp ∈ SPV f (k : Int) s, sp.length ≤ 4 ∧ ∀ x ∈ sp, FlatN x := by
  have w1 : FlatN (.str "line") := nL (by decide +kernel)
  have w2 : FlatN (.str "way") := nL (by decide +kernel)
  have w3 : FlatN (.str "breaks") := nL (by decide +kernel)
  have w4 : FlatN (.str "range") := nL (by decide +kernel)
  have wf : FlatN (.str f) := .inl ⟨f, rfl, nW hf⟩
  have wk : FlatN (.int (k : Int)) := .inr (.inl ⟨_, rfl, kN hk⟩)
  have a1 : ([V.str "line", .str f, .int (k : Int)] : List V).length ≤ 4 ∧ ∀ x ∈ [V.str "line", .str f, .int (k : Int)], FlatN x := ⟨by simp, by simp only [List.mem_cons, List.not_mem_nil, or_false, forall_eq_or_imp, forall_eq]; exact ⟨w1, wf, wk⟩⟩
  have a2 : ∀ b, ([V.str "way", .str f, .int (k : Int), .bl b] : List V).length ≤ 4 ∧ ∀ x ∈ [V.str "way", .str f, .int (k : Int), .bl b], FlatN x := fun b => ⟨by simp, by simp only [List.mem_cons, List.not_mem_nil, or_false, forall_eq_or_imp, forall_eq]; exact ⟨w2, wf, wk, .inr (.inr ⟨b, rfl⟩)⟩⟩
  have a3 : ∀ y, FlatN (.str y) → ([V.str "breaks", .str f, .int (k : Int), .str y] : List V).length ≤ 4 ∧ ∀ x ∈ [V.str "breaks", .str f, .int (k : Int), .str y], FlatN x := fun y h => ⟨by simp, by simp only [List.mem_cons, List.not_mem_nil, or_false, forall_eq_or_imp, forall_eq]; exact ⟨w3, wf, wk, h⟩⟩
  have a4 := a3 _ w4
  have els : ∀ {c : Prop} [Decidable c], ∀ sp ∈ (if c then [[V.str "line", .str f, .int (k : Int)], [.str "breaks", .str f, .int (k : Int), .str "range"]] else [[V.str "line", .str f, .int (k : Int)]]), sp.length ≤ 4 ∧ ∀ x ∈ sp, FlatN x := by
    intro c _ sp hsp
    split at hsp
    · rcases List.mem_cons.mp hsp with rfl | hsp
      · exact a1
      · rw [List.mem_singleton.mp hsp]; exact a4
    · rw [List.mem_singleton.mp hsp]; exact a1
  have wys : ∀ sp ∈ [[V.str "line", .str f, .int (k : Int)], [.str "way", .str f, .int (k : Int), .bl true], [.str "way", .str f, .int (k : Int), .bl false]], sp.length ≤ 4 ∧ ∀ x ∈ sp, FlatN x := by
    intro sp hsp
    rcases List.mem_cons.mp hsp with rfl | hsp
    · exact a1
    · rcases List.mem_cons.mp hsp with rfl | hsp
      · exact a2 true
      · rw [List.mem_singleton.mp hsp]; exact a2 false
  cases s with
  | if_ c A B => exact wys
  | while_ c A => exact wys
  | say y c =>
    intro sp hsp
    rcases List.mem_cons.mp hsp with rfl | hsp
    · exact a1
    · rw [List.mem_singleton.mp hsp]; exact a3 y (.inl ⟨y, rfl, nW (hy y c rfl)⟩)
  | let_ x e => exact els
  | call x y es => exact els
  | give e => exact els
theorem spl_ok {f : Str} (hf : f ∈ WD) : ∀ {l : List S} {k : Nat}, k + l.length ≤ 9 → (∀ s ∈ l, ∀ y c, s = .say y c → y ∈ WD) → ∀ sp ∈ spl f k l, sp.length ≤ 4 ∧ ∀ x ∈ sp, FlatN x
  | [], k, _, _, sp, h => by simp [spl] at h
  | s :: r, k, hl, hy, sp, h => by
    simp only [List.length_cons] at hl
    simp only [spl, List.mem_append] at h
    rcases h with h | h
    · exact spv_ok hf (by omega) (hy s List.mem_cons_self) sp h
    · exact spl_ok hf (by omega) (fun t ht => hy t (List.mem_cons_of_mem _ ht)) sp h
theorem PgOk.spots {R : List Rec} {HS : List Head} {FS : List Func} (o : PgOk R HS FS) : ∀ sp ∈ FS.flatMap spF, sp.length ≤ 4 ∧ ∀ x ∈ sp, FlatN x := by
  intro sp h
  obtain ⟨F, hF, h⟩ := List.mem_flatMap.mp h
  have hm : F.1 ∈ HS := by rw [← o.eh]; exact List.mem_map.mpr ⟨F, hF, rfl⟩
  have fo := o.ok F hF
  refine spl_ok (pool_wd (o.hs.ok F.1 hm).nm) (by rw [flats_len]; have := fo.c8; omega) (fun s hs y c e => ?_) sp h
  have := oks_flats F.2 fo.ok s hs
  rw [e] at this
  simp only [OkS] at this
  exact pool_wd this.1
theorem spots_rd {K : PySem.W.Frag} {H : Hp} : ∀ {ys : List V} {sps : List (List V)}, Paired (TupAt H) ys sps → (∀ sp ∈ sps, ∀ x ∈ sp, FlatN x) → RdAll K H ys (sps.map spD)
  | _, _, .nil, _ => .nil
  | _, _, .cons ⟨p, e, h⟩ r, q => by
    subst e
    exact .cons (.tup (SqT.of h) (rd_flat (q _ List.mem_cons_self))) (spots_rd r fun sp hs => q sp (List.mem_cons_of_mem _ hs))
theorem spots_nice {sps : List (List V)} (hl : sps.length ≤ 72) (h : ∀ sp ∈ sps, sp.length ≤ 4 ∧ ∀ x ∈ sp, FlatN x) : Nice 2 (72 * 61 + 3) (.list (sps.map spD)) := by
  have h1 := n_map7 (f := spD) (l := sps) (m := 1) (b := 59) fun sp hs => by
    obtain ⟨a, b⟩ := h sp hs
    have := (n_map7 (f := vD) (l := sp) (m := 0) (b := 12) fun x hx => (b x hx).nice).tup
    exact this.mono (Nat.le_refl _) (by omega)
  exact h1.lst.mono (Nat.le_refl _) (by omega)
end K6

set_option Elab.async false
set_option linter.all false
set_option maxRecDepth 100000
set_option maxHeartbeats 4000000
namespace K6
open PySem L2
theorem inW {z : Str} (h : inV (.str z) [.str "if", .str "while"] = true) : z = "if" ∨ z = "while" := by
  have c' : ((Str.ofString "if" == z) || (Str.ofString "while" == z)) = true := by simpa [inV, eqV] using h
  rcases Bool.or_eq_true_iff.mp c' with h | h
  · exact .inl (eq_of_beq h).symm
  · exact .inr (eq_of_beq h).symm
section
variable {P : Program} {w : World} {K : PySem.W.Frag} {mg : Str → Option Value} {base : Heap} {f g : Addr} {fd gd : FuncData}
def spLaw (K : PySem.W.Frag) : Sp := fun vs H Q _ => ∃ (a : Addr) (ns : List Int), vs = [.ref a] ∧ SqL K H a (ns.map V.int) ∧ ∀ H', Q (.bl true) H'
abbrev n_law : List Str := ["_law_script", "_law_tape_here", "_law_turn", "_law_program_here", "_law_due", "_law_function", "_law_lines_here", "_law_again", "_law_found", "_law_k", "_law_bodies", "_law_some", "_law_inner"]
theorem sc_law : FnScope n_law ["_law_script"] (defScope s_law) := ⟨rfl, rfl, rfl, by decide +kernel, rfl, by decide +kernel, by decide +kernel⟩
theorem ok_law (T : G0 mg) (F : Fun K "law" "law" s_law f fd) (D_spots_of : Cal P w K mg base 4 "spots_of" ["program"] (spSpots K)) (D_l_lines : Cal P w K mg base 1 "_law_lines" ["_law_body_here"] (spLL K)) (D_within : Cal P w K mg base 3 "within" ["statement"] (spWithin K)) (D_l_line_spots : Cal P w K mg base 3 "_law_line_spots" ["_law_name", "_law_k", "_law_line"] (spSL K))
    (D_lines_of : Cal P w K mg base 3 "lines_of" ["function"] (spOf K)) (D_l_program : Cal P w K mg base 23 "_law_program" ["_law_tape_here"] (spProgram K)) (D_l_tape : Cal P w K mg base 1 "_law_tape" ["_law_script"] (spTape K)) : FnOk P w K mg base CX0 30 f fd ["_law_script"] (spLaw K) := by
  obtain ⟨g_spots_of, gd_spots_of, G_spots_of, b_spots_of, k_spots_of, m_spots_of⟩ := D_spots_of.ex
  obtain ⟨g_l_lines, gd_l_lines, G_l_lines, b_l_lines, k_l_lines, m_l_lines⟩ := D_l_lines.ex
  obtain ⟨g_within, gd_within, G_within, b_within, k_within, m_within⟩ := D_within.ex
  obtain ⟨g_l_line_spots, gd_l_line_spots, G_l_line_spots, b_l_line_spots, k_l_line_spots, m_l_line_spots⟩ := D_l_line_spots.ex
  obtain ⟨g_lines_of, gd_lines_of, G_lines_of, b_lines_of, k_lines_of, m_lines_of⟩ := D_lines_of.ex
  obtain ⟨g_l_program, gd_l_program, G_l_program, b_l_program, k_l_program, m_l_program⟩ := D_l_program.ex
  obtain ⟨g_l_tape, gd_l_tape, G_l_tape, b_l_tape, k_l_tape, m_l_tape⟩ := D_l_tape.ex
  refine F.ok sc_law (fun vs H Q EX h => ?_) (fun cdv A outer s H vs Q EX hr h => ?_)
  · obtain ⟨a, ns, rfl, _⟩ := h
    rfl
  obtain ⟨a, ns, rfl, hS, q⟩ := h
  refine ⟨_, (@pss_cons _ _ _ _ _ (@ps_set _ _ 1 _ _ _ _ sc_law.nd rfl (Or.inl rfl) (@pe_call _ _ _ _ _ _ _ _ _ _ _ _ _ _ _ _ G_l_tape (hr.mono (by omega)) rfl m_l_tape k_l_tape b_l_tape .nil pass0 (@pa_cons _ _ _ _ _ (pv 0) pa_nil (star_of rfl)) (by decide) (star_of rfl) (plain_of rfl)) (swaps_of rfl) (.inr rfl)) (@pss_cons _ _ _ _ _ (@ps_for _ _ _ _ _ _ _ _ PassesOwn.never rfl (pi_range1 rfl T.range (@pa_cons _ _ _ _ _ pe_int pa_nil (star_of rfl))) (pg_name (i := 2) sc_law.nd rfl (Or.inl rfl)) (@pss_cons _ _ _ _ _ (@ps_set _ _ 3 _ _ _ _ sc_law.nd rfl (Or.inl rfl) (@pe_call _ _ _ _ _ _ _ _ _ _ _ _ _ _ _ _ G_l_program (hr.mono (by omega)) rfl m_l_program k_l_program b_l_program .nil pass0 (@pa_cons _ _ _ _ _ (pv 1) pa_nil (star_of rfl)) (by decide) (star_of rfl) (plain_of rfl)) (swaps_of rfl) (.inr rfl)) (@pss_cons _ _ _ _ _ (@ps_set _ _ 4 _ _ _ _ sc_law.nd rfl (Or.inl rfl) (@pe_lst _ _ _ _ pa_nil) (swaps_of rfl) (.inr rfl)) (@pss_cons _ _ _ _ _ (@ps_for _ _ _ _ _ _ _ _ PassesOwn.never rfl (pi_tup (@pe_ix _ _ _ _ _ _ _ ix_tup (pv 3) pe_int (fun _ _ => rfl))) (pg_name (i := 5) sc_law.nd rfl (Or.inl rfl)) (@pss_cons _ _ _ _ _ (@ps_set _ _ 6 _ _ _ _ sc_law.nd rfl (Or.inl rfl) (@pe_call _ _ _ _ _ _ _ _ _ _ _ _ _ _ _ _ G_l_lines (hr.mono (by omega)) rfl m_l_lines k_l_lines b_l_lines .nil pass0 (@pa_cons _ _ _ _ _ (@pe_ix _ _ _ _ _ _ _ ix_tup (pv 5) pe_int (fun _ _ => rfl)) pa_nil (star_of rfl)) (by decide) (star_of rfl) (plain_of rfl)) (swaps_of rfl) (.inr rfl)) (@pss_cons _ _ _ _ _ (@ps_for _ _ _ _ _ _ _ _ PassesOwn.never rfl (pi_range1 rfl T.range (@pa_cons _ _ _ _ _ pe_int pa_nil (star_of rfl))) (pg_name (i := 7) sc_law.nd rfl (Or.inl rfl)) (@pss_cons _ _ _ _ _ (@ps_set _ _ 8 _ _ _ _ sc_law.nd rfl (Or.inl rfl) (@pe_call _ _ _ _ _ _ _ _ _ _ _ _ _ _ _ _ G_lines_of (hr.mono (by omega)) rfl m_lines_of k_lines_of b_lines_of .nil pass0 (@pa_cons _ _ _ _ _ (pv 5) pa_nil (star_of rfl)) (by decide) (star_of rfl) (plain_of rfl)) (swaps_of rfl) (.inr rfl)) (@pss_cons _ _ _ _ _ (@ps_if _ _ _ _ _ _ _ _ (PW.pt (pw_or (pt_not (pt_val (@pe_callB _ _ _ _ _ _ _ _ _ call_isi rfl T.isi b_isi (@pa_cons _ _ _ _ _ (pv 8) (@pa_cons _ _ _ _ _ (pe_bltn (v := .ty "list") rfl T.list b_list rfl) pa_nil (star_of rfl)) (star_of rfl)) (by decide) (by decide) (star_of rfl) (plain_of rfl)))) (pw_or1 (@pt_cmpR _ _ _ _ _ _ _ _ op_ne (@pe_callB _ _ _ _ _ _ _ _ _ (call_repr hr.units hr.gd) rfl T.repr b_repr (@pa_cons _ _ _ _ _ (pv 8) pa_nil (star_of rfl)) (by decide) (by decide) (star_of rfl) (plain_of rfl)) (@pe_callB _ _ _ _ _ _ _ _ _ (call_repr hr.units hr.gd) rfl T.repr b_repr (@pa_cons _ _ _ _ _ (pv 6) pa_nil (star_of rfl)) (by decide) (by decide) (star_of rfl) (plain_of rfl)) (nomark _))))) (@pss_one _ _ _ (@ps_ret _ _ _ _ pe_bl)) pss_nil) (@pss_one _ _ _ (@ps_expr _ _ _ _ (pe_bm0 PySem.F.plainAttrs_list PySem.F.slot_list_clear PySem.F.type_list_clear mt_clear (pv 8)) (swaps_of rfl))))) (fun _ => rfl)) (@pss_one _ _ _ (@ps_for _ _ _ _ _ _ _ _ PassesOwn.never rfl (pi_range1 rfl T.range (@pa_cons _ _ _ _ _ (@pe_callB _ _ _ _ _ _ _ _ _ call_len_seq rfl T.len b_len (@pa_cons _ _ _ _ _ (pv 6) pa_nil (star_of rfl)) (by decide) (by decide) (star_of rfl) (plain_of rfl)) pa_nil (star_of rfl))) (pg_name (i := 9) sc_law.nd rfl (Or.inl rfl)) (@pss_cons _ _ _ _ _ (@ps_set _ _ 4 _ _ _ _ sc_law.nd rfl (Or.inl rfl) (@pe_op _ _ _ _ _ _ _ _ op_cat (pv 4) (@pe_call _ _ _ _ _ _ _ _ _ _ _ _ _ _ _ _ G_l_line_spots (hr.mono (by omega)) rfl m_l_line_spots k_l_line_spots b_l_line_spots .nil pass0 (@pa_cons _ _ _ _ _ (@pe_ix _ _ _ _ _ _ _ ix_tup (pv 5) pe_int (fun _ _ => rfl)) (@pa_cons _ _ _ _ _ (pv 9) (@pa_cons _ _ _ _ _ (@pe_ix _ _ _ _ _ _ _ ix_list (pv 6) (pv 9) (fun _ _ => rfl)) pa_nil (star_of rfl)) (star_of rfl)) (star_of rfl)) (by decide) (star_of rfl) (plain_of rfl))) (swaps_of rfl) (.inr rfl)) (@pss_cons _ _ _ _ _ (@ps_set _ _ 10 _ _ _ _ sc_law.nd rfl (Or.inl rfl) (@pe_lst _ _ _ _ pa_nil) (swaps_of rfl) (.inr rfl)) (@pss_cons _ _ _ _ _ (@ps_if _ _ _ _ _ _ _ _ (@pt_cmpR _ _ _ _ _ _ _ _ op_in_seq (@pe_ix _ _ _ _ _ _ _ ix_tup (@pe_ix _ _ _ _ _ _ _ ix_list (pv 6) (pv 9) (fun _ _ => rfl)) pe_int (fun _ _ => rfl)) (@pe_lst _ _ _ _ (@pa_cons _ _ _ _ _ pe_str (@pa_cons _ _ _ _ _ pe_str pa_nil (star_of rfl)) (star_of rfl))) rfl) (@pss_one _ _ _ (@ps_for _ _ _ _ _ _ _ _ PassesOwn.never rfl (pi_tup (@pe_slice _ _ _ _ _ _ _ _ _ _ sl_tup (@pe_ix _ _ _ _ _ _ _ ix_list (pv 6) (pv 9) (fun _ _ => rfl)) (po_some pe_int) po_none)) (pg_name (i := 11) sc_law.nd rfl (Or.inl rfl)) (@pss_one _ _ _ (@ps_set _ _ 10 _ _ _ _ sc_law.nd rfl (Or.inl rfl) (@pe_op _ _ _ _ _ _ _ _ op_cat (pv 10) (@pe_callTy _ _ _ _ _ _ _ _ _ call_list_of rfl T.list b_list (@pa_cons _ _ _ _ _ (pv 11) pa_nil (star_of rfl)) (by decide) (by decide) (star_of rfl) (plain_of rfl))) (swaps_of rfl) (.inr rfl))) (fun _ => rfl))) pss_nil) (@pss_cons _ _ _ _ _ (@ps_set _ _ 12 _ _ _ _ sc_law.nd rfl (Or.inl rfl) (@pe_call _ _ _ _ _ _ _ _ _ _ _ _ _ _ _ _ G_within (hr.mono (by omega)) rfl m_within k_within b_within .nil pass0 (@pa_cons _ _ _ _ _ (@pe_ix _ _ _ _ _ _ _ ix_list (pv 6) (pv 9) (fun _ _ => rfl)) pa_nil (star_of rfl)) (by decide) (star_of rfl) (plain_of rfl)) (swaps_of rfl) (.inr rfl)) (@pss_one _ _ _ (@ps_if _ _ _ _ _ _ _ _ (PW.pt (pw_or (pt_not (pt_val (@pe_callB _ _ _ _ _ _ _ _ _ call_isi rfl T.isi b_isi (@pa_cons _ _ _ _ _ (pv 12) (@pa_cons _ _ _ _ _ (pe_bltn (v := .ty "list") rfl T.list b_list rfl) pa_nil (star_of rfl)) (star_of rfl)) (by decide) (by decide) (star_of rfl) (plain_of rfl)))) (pw_or1 (@pt_cmpR _ _ _ _ _ _ _ _ op_ne (@pe_callB _ _ _ _ _ _ _ _ _ (call_repr hr.units hr.gd) rfl T.repr b_repr (@pa_cons _ _ _ _ _ (pv 12) pa_nil (star_of rfl)) (by decide) (by decide) (star_of rfl) (plain_of rfl)) (@pe_callB _ _ _ _ _ _ _ _ _ (call_repr hr.units hr.gd) rfl T.repr b_repr (@pa_cons _ _ _ _ _ (@pe_call _ _ _ _ _ _ _ _ _ _ _ _ _ _ _ _ G_l_lines (hr.mono (by omega)) rfl m_l_lines k_l_lines b_l_lines .nil pass0 (@pa_cons _ _ _ _ _ (pv 10) pa_nil (star_of rfl)) (by decide) (star_of rfl) (plain_of rfl)) pa_nil (star_of rfl)) (by decide) (by decide) (star_of rfl) (plain_of rfl)) (nomark _))))) (@pss_one _ _ _ (@ps_ret _ _ _ _ pe_bl)) pss_nil)))))) (fun _ => rfl))))) (fun _ => rfl)) (@pss_one _ _ _ (@ps_for _ _ _ _ _ _ _ _ PassesOwn.never rfl (pi_range1 rfl T.range (@pa_cons _ _ _ _ _ pe_int pa_nil (star_of rfl))) (pg_name (i := 7) sc_law.nd rfl (Or.inl rfl)) (@pss_cons _ _ _ _ _ (@ps_set _ _ 8 _ _ _ _ sc_law.nd rfl (Or.inl rfl) (@pe_call _ _ _ _ _ _ _ _ _ _ _ _ _ _ _ _ G_spots_of (hr.mono (by omega)) rfl m_spots_of k_spots_of b_spots_of .nil pass0 (@pa_cons _ _ _ _ _ (pv 3) pa_nil (star_of rfl)) (by decide) (star_of rfl) (plain_of rfl)) (swaps_of rfl) (.inr rfl)) (@pss_cons _ _ _ _ _ (@ps_if _ _ _ _ _ _ _ _ (PW.pt (pw_or (pt_not (pt_val (@pe_callB _ _ _ _ _ _ _ _ _ call_isi rfl T.isi b_isi (@pa_cons _ _ _ _ _ (pv 8) (@pa_cons _ _ _ _ _ (pe_bltn (v := .ty "list") rfl T.list b_list rfl) pa_nil (star_of rfl)) (star_of rfl)) (by decide) (by decide) (star_of rfl) (plain_of rfl)))) (pw_or1 (@pt_cmpR _ _ _ _ _ _ _ _ op_ne (@pe_callB _ _ _ _ _ _ _ _ _ (call_repr hr.units hr.gd) rfl T.repr b_repr (@pa_cons _ _ _ _ _ (pv 8) pa_nil (star_of rfl)) (by decide) (by decide) (star_of rfl) (plain_of rfl)) (@pe_callB _ _ _ _ _ _ _ _ _ (call_repr hr.units hr.gd) rfl T.repr b_repr (@pa_cons _ _ _ _ _ (pv 4) pa_nil (star_of rfl)) (by decide) (by decide) (star_of rfl) (plain_of rfl)) (nomark _))))) (@pss_one _ _ _ (@ps_ret _ _ _ _ pe_bl)) pss_nil) (@pss_one _ _ _ (@ps_expr _ _ _ _ (@pe_bm _ _ _ _ _ _ _ _ _ _ _ _ PySem.F.plainAttrs_list PySem.F.slot_list_append PySem.F.type_list_append mt_append (pv 8) (@pa_cons _ _ _ _ _ (@pe_tup _ _ _ _ _ (@pa_cons _ _ _ _ _ pe_str (@pa_cons _ _ _ _ _ pe_str (@pa_cons _ _ _ _ _ pe_int pa_nil (star_of rfl)) (star_of rfl)) (star_of rfl))) pa_nil (star_of rfl)) rfl (few_of rfl rfl) rfl (star_of rfl) (plain_of rfl)) (swaps_of rfl))))) (fun _ => rfl)))))) (fun _ => rfl)) (@pss_one _ _ _ (@ps_ret _ _ _ _ pe_bl)))), ?_⟩
  refine ⟨_, rfl, a, ns, rfl, hS, fun tp H1 g1 t1 => ?_⟩
  refine ⟨4, rfl, by decide, by decide, for_range (n := 4) (fun i σ H' => ∃ m2 m3 m4 m5 m6 m7 m8 m9 m10 m11 m12, σ = [some (.ref a), some (.ref tp), m2, m3, m4, m5, m6, m7, m8, m9, m10, m11, m12] ∧ Tp H' tp) ⟨none, none, none, none, none, none, none, none, none, none, none, rfl, t1⟩ (fun i0 σ H' hi pv => ?_) (fun σ H' pv => ?_)⟩
  · obtain ⟨m2, m3, m4, m5, m6, m7, m8, m9, m10, m11, m12, rfl, t0⟩ := pv
    refine ⟨_, rfl, tp, rfl, t0, fun v R HS FS B G2 hP oP => ?_⟩
    have tB := G2.t
    have spo := oP.spots
    obtain ⟨pa, py, pz, fx, rfl, hpa, hRs, hpz, pf⟩ := id hP
    have lfx := Paired.length pf
    have lF : FS.length ≤ 3 := by
      have := oP.hs.l3
      rw [← oP.eh, List.length_map] at this
      exact this
    have hsm : ∀ F ∈ FS, Sml F := fun F hF => (oP.ok F hF).sml
    refine ⟨(by show 0 ≤ sizeLine; decide), fun d0 hd0 => ?_⟩
    have gd := same_new hd0 (.lst [])
    refine ⟨_, rfl, pa, _, _, _, rfl, rfl, SqT.of (gd _ _ hpa), rfl, pz, rfl, ⟨fx, SqT.of (gd _ _ hpz)⟩, for_tup (xs := fx) (fun i σ H' => ∃ dl ys m5 m6 m7 m8 m9 m10 m11 m12, σ = [some (.ref a), some (.ref tp), some (.int (0 + (i0 : Int))), some (.ref pa), some (.ref dl), m5, m6, m7, m8, m9, m10, m11, m12] ∧ Same B H' ∧ H' dl = some (.lst ys) ∧ Paired (TupAt H') ys ((FS.take i).flatMap spF))
      ⟨d0, [], m5, m6, m7, m8, m9, m10, m11, m12, rfl, gd, upd_same, .nil⟩ (fun i σ H' _ p => ?_) (fun i x σ H' hx p => ?_) (fun σ H' p => ?_)⟩
    · obtain ⟨_, _, _, _, _, _, _, _, _, _, rfl, g, _⟩ := p
      exact SqT.of (g _ _ hpz)
    · obtain ⟨dl, ys, m5, m6, m7, m8, m9, m10, m11, m12, rfl, GH, hdl, pY⟩ := p
      obtain ⟨FF, hFF, hfa⟩ := paired_at pf i x hx
      have fo := oP.ok FF (List.mem_of_getElem? hFF)
      have sF := fo.sml
      have c8 := sF.1
      obtain ⟨af, pf', qf, bf, xf, rfl, haf, _, _, hbf, dxf⟩ := id hfa
      have hbf' := GH _ _ hbf
      refine ⟨_, rfl, af, _, _, _, rfl, rfl, SqT.of (GH _ _ haf), rfl, bf, xf, FF.2, rfl, .inr (SqT.of hbf'), (fun H'' g => .inr (SqT.of (g _ _ hbf'))), dxf.mono (tk_same GH), by omega, fun ll ls HL gL hl0 hll dls => ?_⟩
      have GL := GH.trans gL
      have nL := lines_nice fo (l := S.flats FF.2) (by rw [flats_len]; exact c8) (fun s hs => hs)
      have dpL : (PyData.list (S.ds (S.flats FF.2))).depth ≤ 60 := Nat.le_trans nL.dp (by decide)
      have szL : (PyData.list (S.ds (S.flats FF.2))).shown.length ≤ sizeLine := Nat.le_trans (shown_le _ nL.nd) (Nat.le_trans nL.sz b64)
      have lls := dls.len
      rw [S.ds_len, flats_len] at lls
      have tk8 := spFS_len (FS := FS.take i) fun x hx => hsm x (List.mem_of_mem_take hx)
      have ti : (FS.take i).length ≤ FS.length := by rw [List.length_take]; omega
      refine ⟨2, rfl, by decide, by decide, for_range (n := 2) (fun j σ H5 => ∃ m7 m8, σ = [some (.ref a), some (.ref tp), some (.int (0 + (i0 : Int))), some (.ref pa), some (.ref dl), some (.ref af), some (.ref ll), m7, m8, m9, m10, m11, m12] ∧ Same HL H5) ⟨m7, m8, rfl, Same.refl _⟩ (fun j σ H5 hj p => ?_) (fun σ H5 p => ?_)⟩
      · obtain ⟨m7', m8', rfl, g5⟩ := p
        have hll5 := g5 _ _ hll
        refine ⟨_, rfl, .ref af, FF, rfl, hfa.mono (tk_same (GL.trans g5)), by omega, fun r fs H6 g6 hr0 hr6 dfs => ?_⟩
        refine ⟨_, rfl, _, _, _, true, rfl, .lst hr6, rfl, _, rfl, iteF ?_⟩
        refine ⟨_, rfl, r, .list (S.ds (S.flats FF.2)), rfl, .lst (SqL.of hr6) dfs.rd, nL.sh, nL.nd, dpL, szL, _, rfl, ll, .list (S.ds (S.flats FF.2)), rfl, .lst (SqL.of (g6 _ _ hll5)) (dls.mono (tk_same (g5.trans g6))).rd, nL.sh, nL.nd, dpL, szL, rfl, _, rfl, ?_⟩
        refine ite2 (fun c => absurd c (by simp)) (fun c => ?_)
        refine ⟨_, rfl, .inl ⟨rfl, _, SqL.of hr6⟩, r, _, rfl, rfl, hr6, ?_⟩
        exact ⟨_, _, rfl, same_upd (g5.free hr0) (g5.trans g6)⟩
      · obtain ⟨m7', m8', rfl, g5⟩ := p
        have hll5 := g5 _ _ hll
        refine ⟨_, rfl, ll, ls, rfl, .inl (SqL.of hll5), _, rfl, by omega, by omega, for_range (lo := 0) (n := ((ls.length : Nat) : Int).toNat) (fun j σ H6 => ∃ dl2 y2 m7 m8 m9 m10 m11 m12, σ = [some (.ref a), some (.ref tp), some (.int (0 + (i0 : Int))), some (.ref pa), some (.ref dl2), some (.ref af), some (.ref ll), m7, m8, m9, m10, m11, m12] ∧ Same HL H6 ∧ H6 dl2 = some (.lst y2) ∧ Paired (TupAt H6) y2 ((FS.take i).flatMap spF ++ spl FF.1.1 0 ((S.flats FF.2).take j)))
          ⟨dl, ys, m7', m8', m9, m10, m11, m12, rfl, g5, g5 _ _ (gL _ _ hdl), by simpa [spl] using Paired.mapP pY fun _ _ z => z.mono (tk_same (gL.trans g5))⟩ (fun j σ H6 hj p => ?_) (fun σ H6 p => ?_)⟩
        · obtain ⟨dl2, y2, m7, m8, m9, m10, m11, m12, rfl, g6, hdl2, pY2⟩ := p
          have hj' : j < ls.length := by simpa using hj
          have hx2 : ls[j]? = some ls[j] := List.getElem?_eq_getElem hj'
          generalize ls[j] = x2 at hx2
          have hll6 := g6 _ _ hll
          have dls6 := dls.mono (tk_same g6)
          rw [S.ds_eq] at dls6
          obtain ⟨dd, hdd, dx⟩ := dls6.get j x2 hx2
          rw [List.getElem?_map] at hdd
          obtain ⟨s1, hs1, rfl⟩ := Option.map_eq_some_iff.mp hdd
          have ms1 := List.mem_of_getElem? hs1
          have cs1 := cnt_flats FF.2 s1 ms1
          have ce := cnt_eq s1
          refine ⟨_, rfl, _, rfl, af, _, _, _, rfl, rfl, SqT.of (g6 _ _ (GL _ _ haf)), rfl, _, rfl, _, rfl, _, rfl, ll, _, _, _, rfl, rfl, SqL.of hll6, atI0 hx2, FF.1.1, 0 + (j : Int), x2, s1, rfl, dx, sF.2 s1 ms1, fun r2 y3 H7 g7 hr20 h27 p7 => ?_⟩
          have l5 := Paired.length pY2
          rw [List.length_append] at l5
          have l6 := Paired.length p7
          have l7 := spv_len FF.1.1 (0 + (j : Int)) s1
          have l8 := spl_len FF.1.1 0 ((S.flats FF.2).take j)
          rw [List.length_take, flats_len] at l8
          refine ⟨dl2, r2, _, _, rfl, rfl, g7 _ _ hdl2, h27, by rw [sizeLine_eq]; omega, fun dn hdn => ⟨(by show 0 ≤ sizeLine; decide), fun b0 hb0 => ?_⟩⟩
          have gn := same_new hdn (.lst (y2 ++ y3))
          have gb := same_new hb0 (.lst [])
          have hdn8 : (upd (upd H7 dn (.lst (y2 ++ y3))) b0 (.lst [])) dn = some (.lst (y2 ++ y3)) := gb _ _ upd_same
          have hb8 : (upd (upd H7 dn (.lst (y2 ++ y3))) b0 (.lst [])) b0 = some (.lst []) := upd_same
          have g8 := (g7.trans gn).trans gb
          have p78 := Paired.mapP p7 fun _ _ z => TupAt.mono (tk_same (gn.trans gb)) z
          generalize hH8 : (upd (upd H7 dn (.lst (y2 ++ y3))) b0 (.lst [])) = H8 at hdn8 hb8 g8 p78
          have dx8 := dx.mono (tk_same g8)
          obtain ⟨as, z, rs, rfl, has, hv⟩ := st_view dx8
          have pD : Paired (TupAt H8) (y2 ++ y3) ((FS.take i).flatMap spF ++ spl FF.1.1 0 ((S.flats FF.2).take (j + 1))) := by
            rw [List.take_add_one, hs1, Option.toList_some, spl_app, ← List.append_assoc]
            refine Paired.app7 (Paired.mapP pY2 fun _ _ z => z.mono (tk_same g8)) ?_
            have e1 : 0 + ((S.flats FF.2).take j).length = j := by
              rw [List.length_take]
              have := (List.getElem?_eq_some_iff.mp hs1).1
              omega
            rw [e1]
            simpa [spl] using p78
          dsimp only [gName]
          refine seq_join (fun σ HA => ∃ bl bw m11, σ = [some (.ref a), some (.ref tp), some (.int (0 + (i0 : Int))), some (.ref pa), some (.ref dn), some (.ref af), some (.ref ll), m7, m8, some (.int (0 + (j : Int))), some (.ref bl), m11, m12] ∧ Same H8 HA ∧ HA bl = some (.lst bw) ∧ DTs K HA bw (S.ds s1.bods.flatten)) (fun NX hNX => ?_) (fun σ HA jj => ?_)
          · have hll8 := g8 _ _ hll6
            refine ⟨_, rfl, _, rfl, ll, _, _, _, rfl, rfl, SqL.of hll8, atI0 hx2, as, _, _, _, rfl, rfl, SqT.of has, at0 _ _, (by show 2 ≤ sizeLine; decide), fun pl hpl => ⟨pl, _, rfl, .inl (SqL.of upd_same), rfl, rfl, _, rfl, ?_⟩⟩
            have g9 := same_new hpl (.lst [.str "if", .str "while"])
            have hb9 := g9 _ _ hb8
            have hll9 := hll8
            have has9 := has
            generalize hH9 : (upd H8 pl (.lst [.str "if", .str "while"])) = H9 at g9 hb9
            rcases hv with ⟨c', b1, b2, BA, BB, rfl, rfl, hb, d1, d2⟩ | ⟨c', b1, BA, rfl, rfl, hb, d1⟩ | ⟨z1, z2, hb⟩
            · refine ite2 (fun c => ?_) (fun c => absurd (by decide +kernel) c)
              refine ⟨_, rfl, _, rfl, ll, _, _, _, rfl, rfl, SqL.of (g9 _ _ hll9), atI0 hx2, _, rfl, as, _, rfl, SqT.of (g9 _ _ has9), fun z => absurd z.1 (show ¬ HT.sIx 4 0 (some 2) = 0 by decide), fun ps hps => ?_⟩
              have gs := g9.trans (same_new hps (.tup [b1, b2]))
              refine ⟨ps, rfl, ⟨[b1, b2], SqT.of upd_same⟩, for_tup (xs := [b1, b2]) (fun t σ HA => ∃ bl bw m11, σ = [some (.ref a), some (.ref tp), some (.int (0 + (i0 : Int))), some (.ref pa), some (.ref dn), some (.ref af), some (.ref ll), m7, m8, some (.int (0 + (j : Int))), some (.ref bl), m11, m12] ∧ Same (upd H9 ps (.tup [b1, b2])) HA ∧ HA bl = some (.lst bw) ∧ DTs K HA bw (S.ds (s1.bods.take t).flatten))
                ⟨b0, [], m11, rfl, Same.refl _, same_new hps _ _ _ hb9, .nil⟩ (fun t σ HA _ p => ?_) (fun t x3 σ HA hx3 p => ?_) (fun σ HA p => ?_)⟩
              · obtain ⟨_, _, _, rfl, gA, _⟩ := p
                exact SqT.of (gA _ _ upd_same)
              · obtain ⟨bl, bw, m11', rfl, gA, hbl, dbw⟩ := p
                have dbv : DTs K HA [b1, b2] (s1.bods.map bodD) := by rw [hb]; exact (.cons (d1.mono (tk_same (gs.trans gA))) (.cons (d2.mono (tk_same (gs.trans gA))) .nil))
                obtain ⟨dd, hdd, dx3⟩ := dbv.get t x3 hx3
                rw [List.getElem?_map] at hdd
                obtain ⟨BB, hBB, rfl⟩ := Option.map_eq_some_iff.mp hdd
                obtain ⟨p, xp, rfl, hp, dp⟩ := DT.open dx3
                have cb := cnts_bods hBB
                have l1 := dbw.len
                have l2 := dp.len
                rw [S.ds_len] at l1 l2
                have c1 := cnts_len (s1.bods.take t).flatten
                have c2 := cnts_len BB
                refine ⟨_, rfl, _, rfl, p, xp, rfl, .inr (SqT.of hp), fun l hl => ?_⟩
                have gl := same_new hl (.lst xp)
                refine ⟨bl, l, _, _, rfl, rfl, gl _ _ hbl, upd_same, by rw [sizeLine_eq]; omega, fun p2 hp2 => ?_⟩
                have gl2 := gl.trans (same_new hp2 (.lst (bw ++ xp)))
                refine ⟨_, _, _, rfl, gA.trans gl2, upd_same, ?_⟩
                rw [List.take_add_one, hBB, List.flatten_append, S.ds_app]
                exact DTs.append (dbw.mono (tk_same gl2)) (by simpa using dp.mono (tk_same gl2))
              · obtain ⟨bl, bw, m11', rfl, gA, hbl, dbw⟩ := p
                have e2 : (s1.bods.take [b1, b2].length).flatten = s1.bods.flatten := by rw [hb]; rfl
                rw [e2] at dbw
                exact hNX _ _ ⟨bl, bw, _, rfl, gs.trans gA, hbl, dbw⟩
            · refine ite2 (fun c => ?_) (fun c => absurd (by decide +kernel) c)
              refine ⟨_, rfl, _, rfl, ll, _, _, _, rfl, rfl, SqL.of (g9 _ _ hll9), atI0 hx2, _, rfl, as, _, rfl, SqT.of (g9 _ _ has9), fun z => absurd z.1 (show ¬ HT.sIx 3 0 (some 2) = 0 by decide), fun ps hps => ?_⟩
              have gs := g9.trans (same_new hps (.tup [b1]))
              refine ⟨ps, rfl, ⟨[b1], SqT.of upd_same⟩, for_tup (xs := [b1]) (fun t σ HA => ∃ bl bw m11, σ = [some (.ref a), some (.ref tp), some (.int (0 + (i0 : Int))), some (.ref pa), some (.ref dn), some (.ref af), some (.ref ll), m7, m8, some (.int (0 + (j : Int))), some (.ref bl), m11, m12] ∧ Same (upd H9 ps (.tup [b1])) HA ∧ HA bl = some (.lst bw) ∧ DTs K HA bw (S.ds (s1.bods.take t).flatten))
                ⟨b0, [], m11, rfl, Same.refl _, same_new hps _ _ _ hb9, .nil⟩ (fun t σ HA _ p => ?_) (fun t x3 σ HA hx3 p => ?_) (fun σ HA p => ?_)⟩
              · obtain ⟨_, _, _, rfl, gA, _⟩ := p
                exact SqT.of (gA _ _ upd_same)
              · obtain ⟨bl, bw, m11', rfl, gA, hbl, dbw⟩ := p
                have dbv : DTs K HA [b1] (s1.bods.map bodD) := by rw [hb]; exact (.cons (d1.mono (tk_same (gs.trans gA))) .nil)
                obtain ⟨dd, hdd, dx3⟩ := dbv.get t x3 hx3
                rw [List.getElem?_map] at hdd
                obtain ⟨BB, hBB, rfl⟩ := Option.map_eq_some_iff.mp hdd
                obtain ⟨p, xp, rfl, hp, dp⟩ := DT.open dx3
                have cb := cnts_bods hBB
                have l1 := dbw.len
                have l2 := dp.len
                rw [S.ds_len] at l1 l2
                have c1 := cnts_len (s1.bods.take t).flatten
                have c2 := cnts_len BB
                refine ⟨_, rfl, _, rfl, p, xp, rfl, .inr (SqT.of hp), fun l hl => ?_⟩
                have gl := same_new hl (.lst xp)
                refine ⟨bl, l, _, _, rfl, rfl, gl _ _ hbl, upd_same, by rw [sizeLine_eq]; omega, fun p2 hp2 => ?_⟩
                have gl2 := gl.trans (same_new hp2 (.lst (bw ++ xp)))
                refine ⟨_, _, _, rfl, gA.trans gl2, upd_same, ?_⟩
                rw [List.take_add_one, hBB, List.flatten_append, S.ds_app]
                exact DTs.append (dbw.mono (tk_same gl2)) (by simpa using dp.mono (tk_same gl2))
              · obtain ⟨bl, bw, m11', rfl, gA, hbl, dbw⟩ := p
                have e2 : (s1.bods.take [b1].length).flatten = s1.bods.flatten := by rw [hb]; rfl
                rw [e2] at dbw
                exact hNX _ _ ⟨bl, bw, _, rfl, gs.trans gA, hbl, dbw⟩
            · refine ite2 (fun c => ((inW c).elim (fun h => absurd h z1) fun h => absurd h z2)) (fun c => ?_)
              exact hNX _ _ ⟨b0, [], m11, rfl, g9, hb9, by rw [hb]; exact .nil⟩
          · obtain ⟨bl, bw, m11', rfl, gA, hbl, dbw⟩ := jj
            have gA6 := g8.trans gA
            have hllA := gA6 _ _ hll6
            refine ⟨_, rfl, _, rfl, ll, _, _, _, rfl, rfl, SqL.of hllA, atI0 hx2, .ref as, s1, rfl, dx8.mono (tk_same gA), by omega, fun r3 i3 HC gC hr30 h3C d3C => ?_⟩
            have nI := lines_nice fo (l := S.flats s1.bods.flatten) (by rw [flats_len]; omega) (fun x hx => bods_flats FF.2 s1 ms1 x hx)
            have dpI : (PyData.list (S.ds (S.flats s1.bods.flatten))).depth ≤ 60 := Nat.le_trans nI.dp (by decide)
            have szI : (PyData.list (S.ds (S.flats s1.bods.flatten))).shown.length ≤ sizeLine := Nat.le_trans (shown_le _ nI.nd) (Nat.le_trans nI.sz b64)
            refine ⟨_, rfl, _, _, _, true, rfl, .lst h3C, rfl, _, rfl, iteF ?_⟩
            refine ⟨_, rfl, r3, .list (S.ds (S.flats s1.bods.flatten)), rfl, .lst (SqL.of h3C) d3C.rd, nI.sh, nI.nd, dpI, szI, _, rfl, bl, bw, s1.bods.flatten, rfl, .inl (SqL.of (gC _ _ hbl)), (fun H'' g => .inl (SqL.of (g _ _ (gC _ _ hbl)))), dbw.mono (tk_same gC), by omega, fun r4 i4 HD gD hr40 h4D d4D => ?_⟩
            refine ⟨r4, .list (S.ds (S.flats s1.bods.flatten)), rfl, .lst (SqL.of h4D) d4D.rd, nI.sh, nI.nd, dpI, szI, rfl, _, rfl, ?_⟩
            refine ite2 (fun c => absurd c (by simp)) (fun c => ?_)
            have gE := (gA.trans gC).trans gD
            exact ⟨dn, _, _, _, _, _, _, _, rfl, (g6.trans g8).trans gE, gE _ _ hdn8, Paired.mapP pD fun _ _ z => z.mono (tk_same gE)⟩
        · obtain ⟨dl2, y2, m7, m8, m9, m10, m11, m12, rfl, g6, hdl2, pY2⟩ := p
          refine ⟨dl2, y2, _, _, _, _, _, _, _, _, rfl, GL.trans g6, hdl2, ?_⟩
          have e1 : ((ls.length : Nat) : Int).toNat = (S.flats FF.2).length := by rw [flats_len]; omega
          rw [e1, List.take_length] at pY2
          rw [List.take_add_one, hFF, Option.toList_some, List.flatMap_append]
          simpa [spF] using pY2
    · obtain ⟨dl, ys, m5, m6, m7, m8, m9, m10, m11, m12, rfl, GH, hdl, pY⟩ := p
      rw [lfx, List.take_length] at pY
      have ll := spFS_len hsm
      have nS := spots_nice (sps := FS.flatMap spF) (by omega) spo
      have dpS : (PyData.list ((FS.flatMap spF).map spD)).depth ≤ 60 := Nat.le_trans nS.dp (by decide)
      have szS : (PyData.list ((FS.flatMap spF).map spD)).shown.length ≤ sizeLine := Nat.le_trans (shown_le _ nS.nd) (Nat.le_trans nS.sz (by rw [sizeLine_eq]; decide))
      have fl : ∀ sp ∈ FS.flatMap spF, ∀ x ∈ sp, FlatN x := fun sp h => (spo sp h).2
      refine ⟨2, rfl, by decide, by decide, for_range (n := 2) (fun j σ H5 => ∃ m7 m8, σ = [some (.ref a), some (.ref tp), some (.int (0 + (i0 : Int))), some (.ref pa), some (.ref dl), m5, m6, m7, m8, m9, m10, m11, m12] ∧ Same H' H5) ⟨m7, m8, rfl, Same.refl _⟩ (fun j σ H5 hj p => ?_) (fun σ H5 p => ?_)⟩
      · obtain ⟨m7', m8', rfl, g5⟩ := p
        have hdl5 := g5 _ _ hdl
        refine ⟨_, rfl, .ref pa, R, FS, rfl, hP.mono (tk_same (GH.trans g5)), hsm, by omega, fun r fs H6 g6 hr0 hr6 pfs => ?_⟩
        refine ⟨_, rfl, _, _, _, true, rfl, .lst hr6, rfl, _, rfl, iteF ?_⟩
        refine ⟨_, rfl, r, .list ((FS.flatMap spF).map spD), rfl, .lst (SqL.of hr6) (spots_rd pfs fl), nS.sh, nS.nd, dpS, szS, _, rfl, dl, .list ((FS.flatMap spF).map spD), rfl, .lst (SqL.of (g6 _ _ hdl5)) (spots_rd (Paired.mapP pY fun _ _ z => z.mono (tk_same (g5.trans g6))) fl), nS.sh, nS.nd, dpS, szS, rfl, _, rfl, ?_⟩
        refine ite2 (fun c => absurd c (by simp)) (fun c => ?_)
        have lfs := Paired.length pfs
        refine ⟨_, rfl, .inl ⟨rfl, _, SqL.of hr6⟩, (by show 3 ≤ sizeLine; decide), fun pn hpn => ?_⟩
        have gn := same_new hpn (.tup [.str "line", .str "nobody", .int 0])
        refine ⟨r, _, _, rfl, rfl, gn _ _ hr6, by rw [sizeLine_eq]; omega, ?_⟩
        exact ⟨_, _, rfl, same_upd (g5.free hr0) ((g5.trans g6).trans gn)⟩
      · obtain ⟨m7', m8', rfl, g5⟩ := p
        exact ⟨_, _, _, _, _, _, _, _, _, _, _, rfl, tB.same (GH.trans g5)⟩
  · obtain ⟨m2, m3, m4, m5, m6, m7, m8, m9, m10, m11, m12, rfl, t0⟩ := pv
    exact q _
end
end K6

set_option Elab.async false
set_option linter.all false
set_option maxRecDepth 100000
set_option maxHeartbeats 4000000
namespace HD
open PySem PySem.W
abbrev pE : Program := PySem.Challenge.pw_everyfork_k07_lines_and_spots
abbrev top : Nat → Stmt := K6.top
abbrev sx : String → Str := Str.ofString
abbrev de (P : Params) (x : Str) (t : Nat) (v : Value) : DictEntry := ⟨PyData.keyHash P x, .str x t, v⟩
abbrev fd (i : Nat) (x qual : Str) (dV kV doc pm : Value) (an : Option Addr) (cdv ct : Value) : FuncData := fnOf x qual (L2.defArgs (top i)) (L2.defBody (top i)) (L2.defScope (top i)) dV kV doc pm an cdv ct
abbrev fd0 (i : Nat) (x qual : Str) (dV kV doc pm : Value) (an : Option Addr) (cdv ct : Value) : FuncData := { fd i x qual dV kV doc pm an cdv ct with globals := 0 }
noncomputable section
def m0 : Nat := 11
def ann : Option Value := some (.ref 6)
def env : Env := { scope := pE.main.scope, locals := mainNs, globals := mainNs, cells := [], code := .ref 13, frame := some 14 }
abbrev cE : Code := .body (behindTheImports pE) env
abbrev B : List Frame := [topFrame ⟨0, 0, 0, 0⟩]
def s0 (w : World) (os : OsState) : Shared := ⟨boot_heap w.params, Array.mk [], boot_drawn, boot_toks, os⟩
def o11a (P : Params) : Obj := ⟨.type "tuple", none, .seq #[] 0, #[]⟩
def o12a (P : Params) : Obj := ⟨.none, none, .fields #[], #[]⟩
def o13a (P : Params) : Obj := ⟨.type "code", none, .fields #[.str (sx "<module>") 182, .str (sx "<module>") 183, .str (sx "/claim/cut.py") 184, .int 1 0, .int 0 0, .int 0 0, .int 0 0, .int 0 0, .ref 11, .bool false, .int 181 0, .ref 12, .none, .none, .none, .none, .int 185 0, .int 1 0, .str (sx "/claim/cut.py") 186], #[]⟩
def o14a (P : Params) : Obj := ⟨.type "frame", none, .plain, #[some (.ref 13), some (.ref 3), some (.ref 3), none, some (.str (sx "__main__") 164), none, some (.ref 0)]⟩
def ha (P : Params) : Heap := ⟨⟨[(boot_o_0 P), (boot_o_1 P), (boot_o_2 P), (boot_o_3 P), (boot_o_4 P), (boot_o_5 P), (boot_o_6 P), (boot_o_7 P), (boot_o_8 P), (boot_o_9 P), (boot_o_10 P), (o11a P), (o12a P), (o13a P), (o14a P)]⟩, {  : Life }⟩
def sa (w : World) (os : OsState) : Shared := ⟨ha w.params, #[], ⟨0, 0, 0, 0⟩, 187, os⟩
theorem l_pre : ∀ (w : World) (os : OsState), topGo treeTable pE w m0 ann 12 (s0 w os) (topStub pE) = some (sa w os, Thread.mk (denote treeTable cE) cE ⟨0, 0, 0, 0⟩ B) := fun w os => by kernel_rfl

def tb (P : Params) : BT := (.node (boot_o_0 P) (.node (boot_o_1 P) (.node (boot_o_3 P) (.node (boot_o_7 P) .nil .nil) (.node (o11a P) .nil .nil)) (.node (boot_o_5 P) (.node (boot_o_9 P) .nil .nil) (.node (o13a P) .nil .nil))) (.node (boot_o_2 P) (.node (boot_o_4 P) (.node (boot_o_8 P) .nil .nil) (.node (o12a P) .nil .nil)) (.node (boot_o_6 P) (.node (boot_o_10 P) .nil .nil) (.node (o14a P) .nil .nil))))
def sb (w : World) (os : OsState) : SharedT := ⟨tb w.params, 15, {  : Life }, #[], ⟨0, 0, 0, 0⟩, 187, os⟩
theorem l_block : ∀ (w : World) (os : OsState), segRun treeTable pE w m0 ann 1 1 (sa w os) (blockOf (behindTheImports pE) env cE ⟨0, 0, 0, 0⟩ B) = some (.next, (sb w os).abs, cE, ⟨0, 0, 0, 0⟩) := fun w os => by kernel_rfl
def o3_0 (P : Params) : Obj := ⟨.type "dict", none, .dict #[de P (sx "__name__") 165 (.str (sx "everyfork.shapes") 187), de P (sx "__doc__") 166 .none, de P (sx "__package__") 167 .none, de P (sx "__loader__") 168 (.builtin "__main__.__loader__#opaque"), de P (sx "__spec__") 169 .none, de P (sx "__annotations__") 170 (.ref 6), de P (sx "__builtins__") 171 (.ref 4), de P (sx "__file__") 173 (.str (sx "/claim/cut.py") 172), de P (sx "__cached__") 174 .none] 9, #[]⟩
def t_0 (P : Params) : BT := (.node (boot_o_0 P) (.node (boot_o_1 P) (.node (o3_0 P) (.node (boot_o_7 P) .nil .nil) (.node (o11a P) .nil .nil)) (.node (boot_o_5 P) (.node (boot_o_9 P) .nil .nil) (.node (o13a P) .nil .nil))) (.node (boot_o_2 P) (.node (boot_o_4 P) (.node (boot_o_8 P) .nil .nil) (.node (o12a P) .nil .nil)) (.node (boot_o_6 P) (.node (boot_o_10 P) .nil .nil) (.node (o14a P) .nil .nil))))
def s_0 (w : World) (os : OsState) : SharedT := ⟨t_0 w.params, 15, {  : Life }, #[], ⟨0, 0, 0, 0⟩, 189, os⟩
def q0 : List Stmt := (pE.main.body.drop 0).take 1
theorem l_0 : ∀ (w : World) (os : OsState), segRunT treeTable pE w m0 ann 1 10 (sb w os) (piecesOf q0 env cE ⟨0, 0, 0, 0⟩ B) = some (.next, s_0 w os, cE, ⟨1, 0, 1, 8⟩) := fun w os => by kernel_rfl
def o3_1 (P : Params) : Obj := ⟨.type "dict", none, .dict #[de P (sx "__name__") 165 (.str (sx "everyfork.shapes") 187), de P (sx "__doc__") 166 .none, de P (sx "__package__") 167 .none, de P (sx "__loader__") 168 (.builtin "__main__.__loader__#opaque"), de P (sx "__spec__") 169 .none, de P (sx "__annotations__") 170 (.ref 6), de P (sx "__builtins__") 171 (.ref 4), de P (sx "__file__") 173 (.str (sx "/claim/cut.py") 172), de P (sx "__cached__") 174 .none, de P (sx "SHAPES") 334 (.ref 15), de P (sx "LISTED") 344 (.ref 73)] 11, #[]⟩
def o15_1 (P : Params) : Obj := ⟨.type "dict", none, .dict #[de P (sx "let") 189 (.ref 17), de P (sx "say") 194 (.ref 19), de P (sx "if") 199 (.ref 21), de P (sx "while") 204 (.ref 23), de P (sx "call") 209 (.ref 25), de P (sx "give") 213 (.ref 27), de P (sx "num") 218 (.ref 29), de P (sx "text") 222 (.ref 31), de P (sx "var") 226 (.ref 33), de P (sx "of") 230 (.ref 35), de P (sx "with") 235 (.ref 37), de P (sx "new") 241 (.ref 39), de P (sx "add") 245 (.ref 41), de P (sx "sub") 251 (.ref 43), de P (sx "times") 257 (.ref 45), de P (sx "div") 262 (.ref 47), de P (sx "rest") 267 (.ref 49), de P (sx "len") 272 (.ref 52), de P (sx "at") 276 (.ref 54), de P (sx "rows") 281 (.ref 56), de P (sx "put") 284 (.ref 58), de P (sx "more") 290 (.ref 60), de P (sx "signs") 295 (.ref 62), de P (sx "less") 299 (.ref 64), de P (sx "same") 304 (.ref 66), de P (sx "and") 309 (.ref 68), de P (sx "or") 314 (.ref 70), de P (sx "not") 319 (.ref 72)] 28, #[]⟩
def o16_1 (P : Params) : Obj := ⟨.type "tuple", none, .seq #[.int 2 192] 0, #[]⟩
def o17_1 (P : Params) : Obj := ⟨.type "tuple", none, .seq #[.str (sx "statement") 190, .int 3 191, .ref 16] 0, #[]⟩
def o18_1 (P : Params) : Obj := ⟨.type "tuple", none, .seq #[.int 2 197] 0, #[]⟩
def o19_1 (P : Params) : Obj := ⟨.type "tuple", none, .seq #[.str (sx "statement") 195, .int 3 196, .ref 18] 0, #[]⟩
def o20_1 (P : Params) : Obj := ⟨.type "tuple", none, .seq #[.int 1 202] 0, #[]⟩
def o21_1 (P : Params) : Obj := ⟨.type "tuple", none, .seq #[.str (sx "statement") 200, .int 4 201, .ref 20] 0, #[]⟩
def o22_1 (P : Params) : Obj := ⟨.type "tuple", none, .seq #[.int 1 207] 0, #[]⟩
def o23_1 (P : Params) : Obj := ⟨.type "tuple", none, .seq #[.str (sx "statement") 205, .int 3 206, .ref 22] 0, #[]⟩
def o24_1 (P : Params) : Obj := ⟨.type "tuple", none, .seq #[] 0, #[]⟩
def o25_1 (P : Params) : Obj := ⟨.type "tuple", none, .seq #[.str (sx "statement") 210, .int 4 211, .ref 24] 0, #[]⟩
def o26_1 (P : Params) : Obj := ⟨.type "tuple", none, .seq #[.int 1 216] 0, #[]⟩
def o27_1 (P : Params) : Obj := ⟨.type "tuple", none, .seq #[.str (sx "statement") 214, .int 2 215, .ref 26] 0, #[]⟩
def o28_1 (P : Params) : Obj := ⟨.type "tuple", none, .seq #[] 0, #[]⟩
def o29_1 (P : Params) : Obj := ⟨.type "tuple", none, .seq #[.str (sx "expression") 219, .int 2 220, .ref 28] 0, #[]⟩
def o30_1 (P : Params) : Obj := ⟨.type "tuple", none, .seq #[] 0, #[]⟩
def o31_1 (P : Params) : Obj := ⟨.type "tuple", none, .seq #[.str (sx "expression") 223, .int 2 224, .ref 30] 0, #[]⟩
def o32_1 (P : Params) : Obj := ⟨.type "tuple", none, .seq #[] 0, #[]⟩
def o33_1 (P : Params) : Obj := ⟨.type "tuple", none, .seq #[.str (sx "expression") 227, .int 2 228, .ref 32] 0, #[]⟩
def o34_1 (P : Params) : Obj := ⟨.type "tuple", none, .seq #[.int 1 233] 0, #[]⟩
def o35_1 (P : Params) : Obj := ⟨.type "tuple", none, .seq #[.str (sx "expression") 231, .int 3 232, .ref 34] 0, #[]⟩
def o36_1 (P : Params) : Obj := ⟨.type "tuple", none, .seq #[.int 1 238, .int 3 239] 0, #[]⟩
def o37_1 (P : Params) : Obj := ⟨.type "tuple", none, .seq #[.str (sx "expression") 236, .int 4 237, .ref 36] 0, #[]⟩
def o38_1 (P : Params) : Obj := ⟨.type "tuple", none, .seq #[] 0, #[]⟩
def o39_1 (P : Params) : Obj := ⟨.type "tuple", none, .seq #[.str (sx "expression") 242, .int 3 243, .ref 38] 0, #[]⟩
def o40_1 (P : Params) : Obj := ⟨.type "tuple", none, .seq #[.int 1 248, .int 2 249] 0, #[]⟩
def o41_1 (P : Params) : Obj := ⟨.type "tuple", none, .seq #[.str (sx "expression") 246, .int 3 247, .ref 40] 0, #[]⟩
def o42_1 (P : Params) : Obj := ⟨.type "tuple", none, .seq #[.int 1 254, .int 2 255] 0, #[]⟩
def o43_1 (P : Params) : Obj := ⟨.type "tuple", none, .seq #[.str (sx "expression") 252, .int 3 253, .ref 42] 0, #[]⟩
def o44_1 (P : Params) : Obj := ⟨.type "tuple", none, .seq #[.int 2 260] 0, #[]⟩
def o45_1 (P : Params) : Obj := ⟨.type "tuple", none, .seq #[.str (sx "expression") 258, .int 3 259, .ref 44] 0, #[]⟩
def o46_1 (P : Params) : Obj := ⟨.type "tuple", none, .seq #[.int 1 265] 0, #[]⟩
def o47_1 (P : Params) : Obj := ⟨.type "tuple", none, .seq #[.str (sx "expression") 263, .int 3 264, .ref 46] 0, #[]⟩
def o48_1 (P : Params) : Obj := ⟨.type "tuple", none, .seq #[.int 1 270] 0, #[]⟩
def o49_1 (P : Params) : Obj := ⟨.type "tuple", none, .seq #[.str (sx "expression") 268, .int 3 269, .ref 48] 0, #[]⟩
def o50_1 (P : Params) : Obj := ⟨.type "dict", none, .dict #[de P (sx "len") 272 (.ref 52), de P (sx "at") 276 (.ref 54), de P (sx "rows") 281 (.ref 56), de P (sx "put") 284 (.ref 58), de P (sx "more") 290 (.ref 60), de P (sx "signs") 295 (.ref 62), de P (sx "less") 299 (.ref 64), de P (sx "same") 304 (.ref 66), de P (sx "and") 309 (.ref 68), de P (sx "or") 314 (.ref 70), de P (sx "not") 319 (.ref 72)] 11, #[]⟩
def o51_1 (P : Params) : Obj := ⟨.type "tuple", none, .seq #[.int 1 275] 0, #[]⟩
def o52_1 (P : Params) : Obj := ⟨.type "tuple", none, .seq #[.str (sx "expression") 273, .int 2 274, .ref 51] 0, #[]⟩
def o53_1 (P : Params) : Obj := ⟨.type "tuple", none, .seq #[.int 1 279, .int 2 280] 0, #[]⟩
def o54_1 (P : Params) : Obj := ⟨.type "tuple", none, .seq #[.str (sx "expression") 277, .int 3 278, .ref 53] 0, #[]⟩
def o55_1 (P : Params) : Obj := ⟨.type "tuple", none, .seq #[] 0, #[]⟩
def o56_1 (P : Params) : Obj := ⟨.type "tuple", none, .seq #[.str (sx "expression") 282, .int 2 283, .ref 55] 0, #[]⟩
def o57_1 (P : Params) : Obj := ⟨.type "tuple", none, .seq #[.int 1 287, .int 2 288, .int 3 289] 0, #[]⟩
def o58_1 (P : Params) : Obj := ⟨.type "tuple", none, .seq #[.str (sx "expression") 285, .int 4 286, .ref 57] 0, #[]⟩
def o59_1 (P : Params) : Obj := ⟨.type "tuple", none, .seq #[.int 1 293, .int 2 294] 0, #[]⟩
def o60_1 (P : Params) : Obj := ⟨.type "tuple", none, .seq #[.str (sx "expression") 291, .int 3 292, .ref 59] 0, #[]⟩
def o61_1 (P : Params) : Obj := ⟨.type "tuple", none, .seq #[.int 1 298] 0, #[]⟩
def o62_1 (P : Params) : Obj := ⟨.type "tuple", none, .seq #[.str (sx "expression") 296, .int 2 297, .ref 61] 0, #[]⟩
def o63_1 (P : Params) : Obj := ⟨.type "tuple", none, .seq #[.int 1 302, .int 2 303] 0, #[]⟩
def o64_1 (P : Params) : Obj := ⟨.type "tuple", none, .seq #[.str (sx "condition") 300, .int 3 301, .ref 63] 0, #[]⟩
def o65_1 (P : Params) : Obj := ⟨.type "tuple", none, .seq #[.int 1 307, .int 2 308] 0, #[]⟩
def o66_1 (P : Params) : Obj := ⟨.type "tuple", none, .seq #[.str (sx "condition") 305, .int 3 306, .ref 65] 0, #[]⟩
def o67_1 (P : Params) : Obj := ⟨.type "tuple", none, .seq #[.int 1 312, .int 2 313] 0, #[]⟩
def o68_1 (P : Params) : Obj := ⟨.type "tuple", none, .seq #[.str (sx "condition") 310, .int 3 311, .ref 67] 0, #[]⟩
def o69_1 (P : Params) : Obj := ⟨.type "tuple", none, .seq #[.int 1 317, .int 2 318] 0, #[]⟩
def o70_1 (P : Params) : Obj := ⟨.type "tuple", none, .seq #[.str (sx "condition") 315, .int 3 316, .ref 69] 0, #[]⟩
def o71_1 (P : Params) : Obj := ⟨.type "tuple", none, .seq #[.int 1 322] 0, #[]⟩
def o72_1 (P : Params) : Obj := ⟨.type "tuple", none, .seq #[.str (sx "condition") 320, .int 2 321, .ref 71] 0, #[]⟩
def o73_1 (P : Params) : Obj := ⟨.type "dict", none, .dict #[de P (sx "call") 335 (.int 3 336), de P (sx "new") 337 (.int 2 338), de P (sx "rows") 339 (.int 1 340)] 3, #[]⟩
def t_1 (P : Params) : BT := (.node (boot_o_0 P) (.node (boot_o_1 P) (.node (o3_1 P) (.node (boot_o_7 P) (.node (o15_1 P) (.node (o31_1 P) (.node (o63_1 P) .nil .nil) .nil) (.node (o47_1 P) .nil .nil)) (.node (o23_1 P) (.node (o39_1 P) (.node (o71_1 P) .nil .nil) .nil) (.node (o55_1 P) .nil .nil))) (.node (o11a P) (.node (o19_1 P) (.node (o35_1 P) (.node (o67_1 P) .nil .nil) .nil) (.node (o51_1 P) .nil .nil)) (.node (o27_1 P) (.node (o43_1 P) .nil .nil) (.node (o59_1 P) .nil .nil)))) (.node (boot_o_5 P) (.node (boot_o_9 P) (.node (o17_1 P) (.node (o33_1 P) (.node (o65_1 P) .nil .nil) .nil) (.node (o49_1 P) .nil .nil)) (.node (o25_1 P) (.node (o41_1 P) (.node (o73_1 P) .nil .nil) .nil) (.node (o57_1 P) .nil .nil))) (.node (o13a P) (.node (o21_1 P) (.node (o37_1 P) (.node (o69_1 P) .nil .nil) .nil) (.node (o53_1 P) .nil .nil)) (.node (o29_1 P) (.node (o45_1 P) .nil .nil) (.node (o61_1 P) .nil .nil))))) (.node (boot_o_2 P) (.node (boot_o_4 P) (.node (boot_o_8 P) (.node (o16_1 P) (.node (o32_1 P) (.node (o64_1 P) .nil .nil) .nil) (.node (o48_1 P) .nil .nil)) (.node (o24_1 P) (.node (o40_1 P) (.node (o72_1 P) .nil .nil) .nil) (.node (o56_1 P) .nil .nil))) (.node (o12a P) (.node (o20_1 P) (.node (o36_1 P) (.node (o68_1 P) .nil .nil) .nil) (.node (o52_1 P) .nil .nil)) (.node (o28_1 P) (.node (o44_1 P) .nil .nil) (.node (o60_1 P) .nil .nil)))) (.node (boot_o_6 P) (.node (boot_o_10 P) (.node (o18_1 P) (.node (o34_1 P) (.node (o66_1 P) .nil .nil) .nil) (.node (o50_1 P) .nil .nil)) (.node (o26_1 P) (.node (o42_1 P) .nil .nil) (.node (o58_1 P) .nil .nil))) (.node (o14a P) (.node (o22_1 P) (.node (o38_1 P) (.node (o70_1 P) .nil .nil) .nil) (.node (o54_1 P) .nil .nil)) (.node (o30_1 P) (.node (o46_1 P) .nil .nil) (.node (o62_1 P) .nil .nil))))))
def s_1 (w : World) (os : OsState) : SharedT := ⟨t_1 w.params, 74, {  : Life }, #[], ⟨0, 0, 0, 0⟩, 345, os⟩
def q1 : List Stmt := (pE.main.body.drop 1).take 2
theorem l_1_f : ∀ (v : World) (os : OsState), (fun w => segRunT treeTable pE w m0 ann 1 732 (s_0 w os) (piecesOf q1 env cE ⟨1, 0, 1, 8⟩ B) = some (.next, s_1 w os, cE, ⟨3, 0, 3, 6⟩)) (v.withFollow "special-get-raises" false) := fun v os => by kernel_rfl
theorem l_1_t : ∀ (v : World) (os : OsState), (fun w => segRunT treeTable pE w m0 ann 1 732 (s_0 w os) (piecesOf q1 env cE ⟨1, 0, 1, 8⟩ B) = some (.next, s_1 w os, cE, ⟨3, 0, 3, 6⟩)) (v.withFollow "special-get-raises" true) := fun v os => by kernel_rfl
theorem l_1 : ∀ (w : World) (os : OsState), segRunT treeTable pE w m0 ann 1 732 (s_0 w os) (piecesOf q1 env cE ⟨1, 0, 1, 8⟩ B) = some (.next, s_1 w os, cE, ⟨3, 0, 3, 6⟩) := fun w os => byRow2 "special-get-raises" (P := fun w => segRunT treeTable pE w m0 ann 1 732 (s_0 w os) (piecesOf q1 env cE ⟨1, 0, 1, 8⟩ B) = some (.next, s_1 w os, cE, ⟨3, 0, 3, 6⟩)) (fun v => l_1_f v os) (fun v => l_1_t v os) w
def o3_2 (P : Params) : Obj := ⟨.type "dict", none, .dict #[de P (sx "__name__") 165 (.str (sx "law_everyfork_k07_lines_and_spots") 418), de P (sx "__doc__") 166 .none, de P (sx "__package__") 167 .none, de P (sx "__loader__") 168 (.builtin "__main__.__loader__#opaque"), de P (sx "__spec__") 169 .none, de P (sx "__annotations__") 170 (.ref 6), de P (sx "__builtins__") 171 (.ref 4), de P (sx "__file__") 173 (.str (sx "/claim/cut.py") 172), de P (sx "__cached__") 174 .none, de P (sx "SHAPES") 334 (.ref 15), de P (sx "LISTED") 344 (.ref 73), de P (sx "inner_of") 350 (.ref 78), de P (sx "may_break") 359 (.ref 85), de P (sx "bodies_of") 368 (.ref 92), de P (sx "lines_in") 379 (.ref 99), de P (sx "lines_of") 386 (.ref 106), de P (sx "within") 395 (.ref 113), de P (sx "spots_of_line") 406 (.ref 120), de P (sx "spots_of") 417 (.ref 127), de P (sx "_law_tape") 426 (.ref 134), de P (sx "_law_draw") 437 (.ref 141), de P (sx "_law_names") 443 (.ref 146), de P (sx "_law_records") 449 (.ref 151), de P (sx "_law_kind") 455 (.ref 156), de P (sx "_law_heads") 461 (.ref 161), de P (sx "_law_count") 467 (.ref 166), de P (sx "_law_leaf") 473 (.ref 171), de P (sx "_law_num") 486 (.ref 178), de P (sx "_law_row") 492 (.ref 183), de P (sx "_law_e") 498 (.ref 188), de P (sx "_law_bounded") 509 (.ref 195), de P (sx "_law_condition") 521 (.ref 202), de P (sx "_law_body") 532 (.ref 209), de P (sx "_law_statement") 538 (.ref 214), de P (sx "_law_kit") 548 (.ref 221), de P (sx "_law_program") 560 (.ref 228), de P (sx "_law_lines") 572 (.ref 235), de P (sx "_law_looks_up") 581 (.ref 242), de P (sx "_law_line_spots") 591 (.ref 249), de P (sx "law") 610 (.ref 256)] 40, #[]⟩
def o12_2 (P : Params) : Obj := ⟨.none, none, .fields #[.int 4 0, .int 0 0, .ref 77, .int 9 0, .int 0 0, .ref 84, .int 18 0, .int 0 0, .ref 91, .int 24 0, .int 0 0, .ref 98, .int 33 0, .int 0 0, .ref 105, .int 35 0, .int 0 0, .ref 112, .int 40 0, .int 0 0, .ref 119, .int 50 0, .int 0 0, .ref 126, .int 57 0, .int 0 0, .ref 133, .int 59 0, .int 0 0, .ref 140, .int 73 0, .int 0 0, .ref 145, .int 78 0, .int 0 0, .ref 150, .int 87 0, .int 0 0, .ref 155, .int 90 0, .int 0 0, .ref 160, .int 98 0, .int 0 0, .ref 165, .int 108 0, .int 0 0, .ref 170, .int 120 0, .int 0 0, .ref 177, .int 132 0, .int 0 0, .ref 182, .int 143 0, .int 0 0, .ref 187, .int 161 0, .int 0 0, .ref 194, .int 167 0, .int 0 0, .ref 201, .int 177 0, .int 0 0, .ref 208, .int 184 0, .int 0 0, .ref 213, .int 205 0, .int 0 0, .ref 220, .int 208 0, .int 0 0, .ref 227, .int 216 0, .int 0 0, .ref 234, .int 228 0, .int 0 0, .ref 241, .int 237 0, .int 0 0, .ref 248, .int 246 0, .int 0 0, .ref 255], #[]⟩
def o74_2 (P : Params) : Obj := ⟨.type "tuple", none, .seq #[] 0, #[]⟩
def o75_2 (P : Params) : Obj := ⟨.none, none, .fields #[], #[]⟩
def o76_2 (P : Params) : Obj := ⟨.none, none, .func (fd0 3 (sx "inner_of") (sx "inner_of") .none .none .none .none none .none .none), #[]⟩
def o77_2 (P : Params) : Obj := ⟨.type "code", none, .fields #[.str (sx "inner_of") 345, .str (sx "inner_of") 346, .str (sx "/claim/cut.py") 347, .int 4 0, .int 1 0, .int 0 0, .int 0 0, .int 3 0, .ref 74, .bool true, .int 181 0, .ref 75, .none, .none, .none, .ref 76, .int 348 0, .int 4 0, .str (sx "/claim/cut.py") 349], #[]⟩
def o78_2 (P : Params) : Obj := ⟨.type "function", none, .func (fd 3 (sx "inner_of") (sx "inner_of") .none .none .none (.str (sx "everyfork.shapes") 187) none (.ref 77) .none), #[]⟩
def o79_2 (P : Params) : Obj := ⟨.type "tuple", none, .seq #[] 0, #[]⟩
def o80_2 (P : Params) : Obj := ⟨.none, none, .fields #[], #[]⟩
def o81_2 (P : Params) : Obj := ⟨.type "tuple", none, .seq #[.str (sx "shaped") 354, .str (sx "waiting") 355, .str (sx "one") 356] 0, #[]⟩
def o82_2 (P : Params) : Obj := ⟨.type "tuple", none, .seq #[] 0, #[]⟩
def o83_2 (P : Params) : Obj := ⟨.none, none, .func (fd0 4 (sx "may_break") (sx "may_break") .none .none .none .none none .none .none), #[]⟩
def o84_2 (P : Params) : Obj := ⟨.type "code", none, .fields #[.str (sx "may_break") 351, .str (sx "may_break") 352, .str (sx "/claim/cut.py") 353, .int 9 0, .int 1 0, .int 0 0, .int 0 0, .int 3 0, .ref 79, .bool true, .int 181 0, .ref 80, .none, .ref 81, .ref 82, .ref 83, .int 357 0, .int 9 0, .str (sx "/claim/cut.py") 358], #[]⟩
def o85_2 (P : Params) : Obj := ⟨.type "function", none, .func (fd 4 (sx "may_break") (sx "may_break") .none .none .none (.str (sx "everyfork.shapes") 187) none (.ref 84) .none), #[]⟩
def o86_2 (P : Params) : Obj := ⟨.type "tuple", none, .seq #[] 0, #[]⟩
def o87_2 (P : Params) : Obj := ⟨.none, none, .fields #[], #[]⟩
def o88_2 (P : Params) : Obj := ⟨.type "tuple", none, .seq #[.str (sx "statement") 365] 0, #[]⟩
def o89_2 (P : Params) : Obj := ⟨.type "tuple", none, .seq #[] 0, #[]⟩
def o90_2 (P : Params) : Obj := ⟨.none, none, .func (fd0 6 (sx "bodies_of") (sx "bodies_of") .none .none .none .none none .none .none), #[]⟩
def o91_2 (P : Params) : Obj := ⟨.type "code", none, .fields #[.str (sx "bodies_of") 362, .str (sx "bodies_of") 363, .str (sx "/claim/cut.py") 364, .int 18 0, .int 1 0, .int 0 0, .int 0 0, .int 3 0, .ref 86, .bool true, .int 181 0, .ref 87, .none, .ref 88, .ref 89, .ref 90, .int 366 0, .int 18 0, .str (sx "/claim/cut.py") 367], #[]⟩
def o92_2 (P : Params) : Obj := ⟨.type "function", none, .func (fd 6 (sx "bodies_of") (sx "bodies_of") .none .none .none (.str (sx "everyfork.programs") 360) none (.ref 91) .none), #[]⟩
def o93_2 (P : Params) : Obj := ⟨.type "tuple", none, .seq #[] 0, #[]⟩
def o94_2 (P : Params) : Obj := ⟨.none, none, .fields #[], #[]⟩
def o95_2 (P : Params) : Obj := ⟨.type "tuple", none, .seq #[.str (sx "body") 372, .str (sx "told") 373, .str (sx "waiting") 374, .str (sx "statement") 375, .str (sx "inner") 376] 0, #[]⟩
def o96_2 (P : Params) : Obj := ⟨.type "tuple", none, .seq #[] 0, #[]⟩
def o97_2 (P : Params) : Obj := ⟨.none, none, .func (fd0 7 (sx "lines_in") (sx "lines_in") .none .none .none .none none .none .none), #[]⟩
def o98_2 (P : Params) : Obj := ⟨.type "code", none, .fields #[.str (sx "lines_in") 369, .str (sx "lines_in") 370, .str (sx "/claim/cut.py") 371, .int 24 0, .int 1 0, .int 0 0, .int 0 0, .int 3 0, .ref 93, .bool true, .int 181 0, .ref 94, .none, .ref 95, .ref 96, .ref 97, .int 377 0, .int 24 0, .str (sx "/claim/cut.py") 378], #[]⟩
def o99_2 (P : Params) : Obj := ⟨.type "function", none, .func (fd 7 (sx "lines_in") (sx "lines_in") .none .none .none (.str (sx "everyfork.programs") 360) none (.ref 98) .none), #[]⟩
def o100_2 (P : Params) : Obj := ⟨.type "tuple", none, .seq #[] 0, #[]⟩
def o101_2 (P : Params) : Obj := ⟨.none, none, .fields #[], #[]⟩
def o102_2 (P : Params) : Obj := ⟨.type "tuple", none, .seq #[.str (sx "function") 383] 0, #[]⟩
def o103_2 (P : Params) : Obj := ⟨.type "tuple", none, .seq #[] 0, #[]⟩
def o104_2 (P : Params) : Obj := ⟨.none, none, .func (fd0 8 (sx "lines_of") (sx "lines_of") .none .none .none .none none .none .none), #[]⟩
def o105_2 (P : Params) : Obj := ⟨.type "code", none, .fields #[.str (sx "lines_of") 380, .str (sx "lines_of") 381, .str (sx "/claim/cut.py") 382, .int 33 0, .int 1 0, .int 0 0, .int 0 0, .int 3 0, .ref 100, .bool true, .int 181 0, .ref 101, .none, .ref 102, .ref 103, .ref 104, .int 384 0, .int 33 0, .str (sx "/claim/cut.py") 385], #[]⟩
def o106_2 (P : Params) : Obj := ⟨.type "function", none, .func (fd 8 (sx "lines_of") (sx "lines_of") .none .none .none (.str (sx "everyfork.programs") 360) none (.ref 105) .none), #[]⟩
def o107_2 (P : Params) : Obj := ⟨.type "tuple", none, .seq #[] 0, #[]⟩
def o108_2 (P : Params) : Obj := ⟨.none, none, .fields #[], #[]⟩
def o109_2 (P : Params) : Obj := ⟨.type "tuple", none, .seq #[.str (sx "statement") 390, .str (sx "told") 391, .str (sx "body") 392] 0, #[]⟩
def o110_2 (P : Params) : Obj := ⟨.type "tuple", none, .seq #[] 0, #[]⟩
def o111_2 (P : Params) : Obj := ⟨.none, none, .func (fd0 9 (sx "within") (sx "within") .none .none .none .none none .none .none), #[]⟩
def o112_2 (P : Params) : Obj := ⟨.type "code", none, .fields #[.str (sx "within") 387, .str (sx "within") 388, .str (sx "/claim/cut.py") 389, .int 35 0, .int 1 0, .int 0 0, .int 0 0, .int 3 0, .ref 107, .bool true, .int 181 0, .ref 108, .none, .ref 109, .ref 110, .ref 111, .int 393 0, .int 35 0, .str (sx "/claim/cut.py") 394], #[]⟩
def o113_2 (P : Params) : Obj := ⟨.type "function", none, .func (fd 9 (sx "within") (sx "within") .none .none .none (.str (sx "everyfork.programs") 360) none (.ref 112) .none), #[]⟩
def o114_2 (P : Params) : Obj := ⟨.type "tuple", none, .seq #[] 0, #[]⟩
def o115_2 (P : Params) : Obj := ⟨.none, none, .fields #[], #[]⟩
def o116_2 (P : Params) : Obj := ⟨.type "tuple", none, .seq #[.str (sx "f") 399, .str (sx "k") 400, .str (sx "statement") 401, .str (sx "word") 402, .str (sx "told") 403] 0, #[]⟩
def o117_2 (P : Params) : Obj := ⟨.type "tuple", none, .seq #[] 0, #[]⟩
def o118_2 (P : Params) : Obj := ⟨.none, none, .func (fd0 10 (sx "spots_of_line") (sx "spots_of_line") .none .none .none .none none .none .none), #[]⟩
def o119_2 (P : Params) : Obj := ⟨.type "code", none, .fields #[.str (sx "spots_of_line") 396, .str (sx "spots_of_line") 397, .str (sx "/claim/cut.py") 398, .int 40 0, .int 3 0, .int 0 0, .int 0 0, .int 3 0, .ref 114, .bool true, .int 181 0, .ref 115, .none, .ref 116, .ref 117, .ref 118, .int 404 0, .int 40 0, .str (sx "/claim/cut.py") 405], #[]⟩
def o120_2 (P : Params) : Obj := ⟨.type "function", none, .func (fd 10 (sx "spots_of_line") (sx "spots_of_line") .none .none .none (.str (sx "everyfork.programs") 360) none (.ref 119) .none), #[]⟩
def o121_2 (P : Params) : Obj := ⟨.type "tuple", none, .seq #[] 0, #[]⟩
def o122_2 (P : Params) : Obj := ⟨.none, none, .fields #[], #[]⟩
def o123_2 (P : Params) : Obj := ⟨.type "tuple", none, .seq #[.str (sx "program") 410, .str (sx "told") 411, .str (sx "function") 412, .str (sx "k") 413, .str (sx "statement") 414] 0, #[]⟩
def o124_2 (P : Params) : Obj := ⟨.type "tuple", none, .seq #[] 0, #[]⟩
def o125_2 (P : Params) : Obj := ⟨.none, none, .func (fd0 11 (sx "spots_of") (sx "spots_of") .none .none .none .none none .none .none), #[]⟩
def o126_2 (P : Params) : Obj := ⟨.type "code", none, .fields #[.str (sx "spots_of") 407, .str (sx "spots_of") 408, .str (sx "/claim/cut.py") 409, .int 50 0, .int 1 0, .int 0 0, .int 0 0, .int 3 0, .ref 121, .bool true, .int 181 0, .ref 122, .none, .ref 123, .ref 124, .ref 125, .int 415 0, .int 50 0, .str (sx "/claim/cut.py") 416], #[]⟩
def o127_2 (P : Params) : Obj := ⟨.type "function", none, .func (fd 11 (sx "spots_of") (sx "spots_of") .none .none .none (.str (sx "everyfork.programs") 360) none (.ref 126) .none), #[]⟩
def o128_2 (P : Params) : Obj := ⟨.type "tuple", none, .seq #[] 0, #[]⟩
def o129_2 (P : Params) : Obj := ⟨.none, none, .fields #[], #[]⟩
def o130_2 (P : Params) : Obj := ⟨.type "tuple", none, .seq #[.str (sx "_law_script") 423] 0, #[]⟩
def o131_2 (P : Params) : Obj := ⟨.type "tuple", none, .seq #[] 0, #[]⟩
def o132_2 (P : Params) : Obj := ⟨.none, none, .func (fd0 13 (sx "_law_tape") (sx "_law_tape") .none .none .none .none none .none .none), #[]⟩
def o133_2 (P : Params) : Obj := ⟨.type "code", none, .fields #[.str (sx "_law_tape") 420, .str (sx "_law_tape") 421, .str (sx "/claim/cut.py") 422, .int 57 0, .int 1 0, .int 0 0, .int 0 0, .int 3 0, .ref 128, .bool true, .int 181 0, .ref 129, .none, .ref 130, .ref 131, .ref 132, .int 424 0, .int 57 0, .str (sx "/claim/cut.py") 425], #[]⟩
def o134_2 (P : Params) : Obj := ⟨.type "function", none, .func (fd 13 (sx "_law_tape") (sx "_law_tape") .none .none .none (.str (sx "law_everyfork_k07_lines_and_spots") 418) none (.ref 133) .none), #[]⟩
def o135_2 (P : Params) : Obj := ⟨.type "tuple", none, .seq #[] 0, #[]⟩
def o136_2 (P : Params) : Obj := ⟨.none, none, .fields #[], #[]⟩
def o137_2 (P : Params) : Obj := ⟨.type "tuple", none, .seq #[.str (sx "_law_tape_here") 430, .str (sx "_law_many") 431, .str (sx "_law_cell") 432, .str (sx "_law_mixed") 433, .str (sx "_law_found") 434] 0, #[]⟩
def o138_2 (P : Params) : Obj := ⟨.type "tuple", none, .seq #[] 0, #[]⟩
def o139_2 (P : Params) : Obj := ⟨.none, none, .func (fd0 14 (sx "_law_draw") (sx "_law_draw") .none .none .none .none none .none .none), #[]⟩
def o140_2 (P : Params) : Obj := ⟨.type "code", none, .fields #[.str (sx "_law_draw") 427, .str (sx "_law_draw") 428, .str (sx "/claim/cut.py") 429, .int 59 0, .int 2 0, .int 0 0, .int 0 0, .int 3 0, .ref 135, .bool true, .int 181 0, .ref 136, .none, .ref 137, .ref 138, .ref 139, .int 435 0, .int 59 0, .str (sx "/claim/cut.py") 436], #[]⟩
def o141_2 (P : Params) : Obj := ⟨.type "function", none, .func (fd 14 (sx "_law_draw") (sx "_law_draw") .none .none .none (.str (sx "law_everyfork_k07_lines_and_spots") 418) none (.ref 140) .none), #[]⟩
def o142_2 (P : Params) : Obj := ⟨.type "tuple", none, .seq #[] 0, #[]⟩
def o143_2 (P : Params) : Obj := ⟨.none, none, .fields #[], #[]⟩
def o144_2 (P : Params) : Obj := ⟨.none, none, .func (fd0 15 (sx "_law_names") (sx "_law_names") .none .none .none .none none .none .none), #[]⟩
def o145_2 (P : Params) : Obj := ⟨.type "code", none, .fields #[.str (sx "_law_names") 438, .str (sx "_law_names") 439, .str (sx "/claim/cut.py") 440, .int 73 0, .int 2 0, .int 0 0, .int 0 0, .int 3 0, .ref 142, .bool true, .int 181 0, .ref 143, .none, .none, .none, .ref 144, .int 441 0, .int 73 0, .str (sx "/claim/cut.py") 442], #[]⟩
def o146_2 (P : Params) : Obj := ⟨.type "function", none, .func (fd 15 (sx "_law_names") (sx "_law_names") .none .none .none (.str (sx "law_everyfork_k07_lines_and_spots") 418) none (.ref 145) .none), #[]⟩
def o147_2 (P : Params) : Obj := ⟨.type "tuple", none, .seq #[] 0, #[]⟩
def o148_2 (P : Params) : Obj := ⟨.none, none, .fields #[], #[]⟩
def o149_2 (P : Params) : Obj := ⟨.none, none, .func (fd0 16 (sx "_law_records") (sx "_law_records") .none .none .none .none none .none .none), #[]⟩
def o150_2 (P : Params) : Obj := ⟨.type "code", none, .fields #[.str (sx "_law_records") 444, .str (sx "_law_records") 445, .str (sx "/claim/cut.py") 446, .int 78 0, .int 1 0, .int 0 0, .int 0 0, .int 3 0, .ref 147, .bool true, .int 181 0, .ref 148, .none, .none, .none, .ref 149, .int 447 0, .int 78 0, .str (sx "/claim/cut.py") 448], #[]⟩
def o151_2 (P : Params) : Obj := ⟨.type "function", none, .func (fd 16 (sx "_law_records") (sx "_law_records") .none .none .none (.str (sx "law_everyfork_k07_lines_and_spots") 418) none (.ref 150) .none), #[]⟩
def o152_2 (P : Params) : Obj := ⟨.type "tuple", none, .seq #[] 0, #[]⟩
def o153_2 (P : Params) : Obj := ⟨.none, none, .fields #[], #[]⟩
def o154_2 (P : Params) : Obj := ⟨.none, none, .func (fd0 17 (sx "_law_kind") (sx "_law_kind") .none .none .none .none none .none .none), #[]⟩
def o155_2 (P : Params) : Obj := ⟨.type "code", none, .fields #[.str (sx "_law_kind") 450, .str (sx "_law_kind") 451, .str (sx "/claim/cut.py") 452, .int 87 0, .int 2 0, .int 0 0, .int 0 0, .int 3 0, .ref 152, .bool true, .int 181 0, .ref 153, .none, .none, .none, .ref 154, .int 453 0, .int 87 0, .str (sx "/claim/cut.py") 454], #[]⟩
def o156_2 (P : Params) : Obj := ⟨.type "function", none, .func (fd 17 (sx "_law_kind") (sx "_law_kind") .none .none .none (.str (sx "law_everyfork_k07_lines_and_spots") 418) none (.ref 155) .none), #[]⟩
def o157_2 (P : Params) : Obj := ⟨.type "tuple", none, .seq #[] 0, #[]⟩
def o158_2 (P : Params) : Obj := ⟨.none, none, .fields #[], #[]⟩
def o159_2 (P : Params) : Obj := ⟨.none, none, .func (fd0 18 (sx "_law_heads") (sx "_law_heads") .none .none .none .none none .none .none), #[]⟩
def o160_2 (P : Params) : Obj := ⟨.type "code", none, .fields #[.str (sx "_law_heads") 456, .str (sx "_law_heads") 457, .str (sx "/claim/cut.py") 458, .int 90 0, .int 2 0, .int 0 0, .int 0 0, .int 3 0, .ref 157, .bool true, .int 181 0, .ref 158, .none, .none, .none, .ref 159, .int 459 0, .int 90 0, .str (sx "/claim/cut.py") 460], #[]⟩
def o161_2 (P : Params) : Obj := ⟨.type "function", none, .func (fd 18 (sx "_law_heads") (sx "_law_heads") .none .none .none (.str (sx "law_everyfork_k07_lines_and_spots") 418) none (.ref 160) .none), #[]⟩
def o162_2 (P : Params) : Obj := ⟨.type "tuple", none, .seq #[] 0, #[]⟩
def o163_2 (P : Params) : Obj := ⟨.none, none, .fields #[], #[]⟩
def o164_2 (P : Params) : Obj := ⟨.none, none, .func (fd0 19 (sx "_law_count") (sx "_law_count") .none .none .none .none none .none .none), #[]⟩
def o165_2 (P : Params) : Obj := ⟨.type "code", none, .fields #[.str (sx "_law_count") 462, .str (sx "_law_count") 463, .str (sx "/claim/cut.py") 464, .int 98 0, .int 1 0, .int 0 0, .int 0 0, .int 3 0, .ref 162, .bool true, .int 181 0, .ref 163, .none, .none, .none, .ref 164, .int 465 0, .int 98 0, .str (sx "/claim/cut.py") 466], #[]⟩
def o166_2 (P : Params) : Obj := ⟨.type "function", none, .func (fd 19 (sx "_law_count") (sx "_law_count") .none .none .none (.str (sx "law_everyfork_k07_lines_and_spots") 418) none (.ref 165) .none), #[]⟩
def o167_2 (P : Params) : Obj := ⟨.type "tuple", none, .seq #[] 0, #[]⟩
def o168_2 (P : Params) : Obj := ⟨.none, none, .fields #[], #[]⟩
def o169_2 (P : Params) : Obj := ⟨.none, none, .func (fd0 20 (sx "_law_leaf") (sx "_law_leaf") .none .none .none .none none .none .none), #[]⟩
def o170_2 (P : Params) : Obj := ⟨.type "code", none, .fields #[.str (sx "_law_leaf") 468, .str (sx "_law_leaf") 469, .str (sx "/claim/cut.py") 470, .int 108 0, .int 3 0, .int 0 0, .int 0 0, .int 3 0, .ref 167, .bool true, .int 181 0, .ref 168, .none, .none, .none, .ref 169, .int 471 0, .int 108 0, .str (sx "/claim/cut.py") 472], #[]⟩
def o171_2 (P : Params) : Obj := ⟨.type "function", none, .func (fd 20 (sx "_law_leaf") (sx "_law_leaf") .none .none .none (.str (sx "law_everyfork_k07_lines_and_spots") 418) none (.ref 170) .none), #[]⟩
def o172_2 (P : Params) : Obj := ⟨.type "tuple", none, .seq #[] 0, #[]⟩
def o173_2 (P : Params) : Obj := ⟨.none, none, .fields #[], #[]⟩
def o174_2 (P : Params) : Obj := ⟨.type "tuple", none, .seq #[.str (sx "_law_tape_here") 477, .str (sx "_law_kit_here") 478, .str (sx "_law_deep") 479, .str (sx "_law_way") 480, .str (sx "_law_word") 481, .str (sx "_law_first") 482, .str (sx "_law_row_here") 483] 0, #[]⟩
def o175_2 (P : Params) : Obj := ⟨.type "tuple", none, .seq #[] 0, #[]⟩
def o176_2 (P : Params) : Obj := ⟨.none, none, .func (fd0 21 (sx "_law_num") (sx "_law_num") .none .none .none .none none .none .none), #[]⟩
def o177_2 (P : Params) : Obj := ⟨.type "code", none, .fields #[.str (sx "_law_num") 474, .str (sx "_law_num") 475, .str (sx "/claim/cut.py") 476, .int 120 0, .int 3 0, .int 0 0, .int 0 0, .int 3 0, .ref 172, .bool true, .int 181 0, .ref 173, .none, .ref 174, .ref 175, .ref 176, .int 484 0, .int 120 0, .str (sx "/claim/cut.py") 485], #[]⟩
def o178_2 (P : Params) : Obj := ⟨.type "function", none, .func (fd 21 (sx "_law_num") (sx "_law_num") .none .none .none (.str (sx "law_everyfork_k07_lines_and_spots") 418) none (.ref 177) .none), #[]⟩
def o179_2 (P : Params) : Obj := ⟨.type "tuple", none, .seq #[] 0, #[]⟩
def o180_2 (P : Params) : Obj := ⟨.none, none, .fields #[], #[]⟩
def o181_2 (P : Params) : Obj := ⟨.none, none, .func (fd0 22 (sx "_law_row") (sx "_law_row") .none .none .none .none none .none .none), #[]⟩
def o182_2 (P : Params) : Obj := ⟨.type "code", none, .fields #[.str (sx "_law_row") 487, .str (sx "_law_row") 488, .str (sx "/claim/cut.py") 489, .int 132 0, .int 3 0, .int 0 0, .int 0 0, .int 3 0, .ref 179, .bool true, .int 181 0, .ref 180, .none, .none, .none, .ref 181, .int 490 0, .int 132 0, .str (sx "/claim/cut.py") 491], #[]⟩
def o183_2 (P : Params) : Obj := ⟨.type "function", none, .func (fd 22 (sx "_law_row") (sx "_law_row") .none .none .none (.str (sx "law_everyfork_k07_lines_and_spots") 418) none (.ref 182) .none), #[]⟩
def o184_2 (P : Params) : Obj := ⟨.type "tuple", none, .seq #[] 0, #[]⟩
def o185_2 (P : Params) : Obj := ⟨.none, none, .fields #[], #[]⟩
def o186_2 (P : Params) : Obj := ⟨.none, none, .func (fd0 23 (sx "_law_e") (sx "_law_e") .none .none .none .none none .none .none), #[]⟩
def o187_2 (P : Params) : Obj := ⟨.type "code", none, .fields #[.str (sx "_law_e") 493, .str (sx "_law_e") 494, .str (sx "/claim/cut.py") 495, .int 143 0, .int 4 0, .int 0 0, .int 0 0, .int 3 0, .ref 184, .bool true, .int 181 0, .ref 185, .none, .none, .none, .ref 186, .int 496 0, .int 143 0, .str (sx "/claim/cut.py") 497], #[]⟩
def o188_2 (P : Params) : Obj := ⟨.type "function", none, .func (fd 23 (sx "_law_e") (sx "_law_e") .none .none .none (.str (sx "law_everyfork_k07_lines_and_spots") 418) none (.ref 187) .none), #[]⟩
def o189_2 (P : Params) : Obj := ⟨.type "tuple", none, .seq #[] 0, #[]⟩
def o190_2 (P : Params) : Obj := ⟨.none, none, .fields #[], #[]⟩
def o191_2 (P : Params) : Obj := ⟨.type "tuple", none, .seq #[.str (sx "_law_tape_here") 502, .str (sx "_law_kit_here") 503, .str (sx "_law_kind_here") 504, .str (sx "_law_reach") 505, .str (sx "_law_e_here") 506] 0, #[]⟩
def o192_2 (P : Params) : Obj := ⟨.type "tuple", none, .seq #[] 0, #[]⟩
def o193_2 (P : Params) : Obj := ⟨.none, none, .func (fd0 24 (sx "_law_bounded") (sx "_law_bounded") .none .none .none .none none .none .none), #[]⟩
def o194_2 (P : Params) : Obj := ⟨.type "code", none, .fields #[.str (sx "_law_bounded") 499, .str (sx "_law_bounded") 500, .str (sx "/claim/cut.py") 501, .int 161 0, .int 4 0, .int 0 0, .int 0 0, .int 3 0, .ref 189, .bool true, .int 181 0, .ref 190, .none, .ref 191, .ref 192, .ref 193, .int 507 0, .int 161 0, .str (sx "/claim/cut.py") 508], #[]⟩
def o195_2 (P : Params) : Obj := ⟨.type "function", none, .func (fd 24 (sx "_law_bounded") (sx "_law_bounded") .none .none .none (.str (sx "law_everyfork_k07_lines_and_spots") 418) none (.ref 194) .none), #[]⟩
def o196_2 (P : Params) : Obj := ⟨.type "tuple", none, .seq #[] 0, #[]⟩
def o197_2 (P : Params) : Obj := ⟨.none, none, .fields #[], #[]⟩
def o198_2 (P : Params) : Obj := ⟨.type "tuple", none, .seq #[.str (sx "_law_tape_here") 513, .str (sx "_law_kit_here") 514, .str (sx "_law_deep") 515, .str (sx "_law_way") 516, .str (sx "_law_word") 517, .str (sx "_law_first") 518] 0, #[]⟩
def o199_2 (P : Params) : Obj := ⟨.type "tuple", none, .seq #[] 0, #[]⟩
def o200_2 (P : Params) : Obj := ⟨.none, none, .func (fd0 25 (sx "_law_condition") (sx "_law_condition") .none .none .none .none none .none .none), #[]⟩
def o201_2 (P : Params) : Obj := ⟨.type "code", none, .fields #[.str (sx "_law_condition") 510, .str (sx "_law_condition") 511, .str (sx "/claim/cut.py") 512, .int 167 0, .int 3 0, .int 0 0, .int 0 0, .int 3 0, .ref 196, .bool true, .int 181 0, .ref 197, .none, .ref 198, .ref 199, .ref 200, .int 519 0, .int 167 0, .str (sx "/claim/cut.py") 520], #[]⟩
def o202_2 (P : Params) : Obj := ⟨.type "function", none, .func (fd 25 (sx "_law_condition") (sx "_law_condition") .none .none .none (.str (sx "law_everyfork_k07_lines_and_spots") 418) none (.ref 201) .none), #[]⟩
def o203_2 (P : Params) : Obj := ⟨.type "tuple", none, .seq #[] 0, #[]⟩
def o204_2 (P : Params) : Obj := ⟨.none, none, .fields #[], #[]⟩
def o205_2 (P : Params) : Obj := ⟨.type "tuple", none, .seq #[.str (sx "_law_tape_here") 525, .str (sx "_law_kit_here") 526, .str (sx "_law_deep") 527, .str (sx "_law_body_here") 528, .str (sx "_law_k") 529] 0, #[]⟩
def o206_2 (P : Params) : Obj := ⟨.type "tuple", none, .seq #[] 0, #[]⟩
def o207_2 (P : Params) : Obj := ⟨.none, none, .func (fd0 26 (sx "_law_body") (sx "_law_body") .none .none .none .none none .none .none), #[]⟩
def o208_2 (P : Params) : Obj := ⟨.type "code", none, .fields #[.str (sx "_law_body") 522, .str (sx "_law_body") 523, .str (sx "/claim/cut.py") 524, .int 177 0, .int 3 0, .int 0 0, .int 0 0, .int 3 0, .ref 203, .bool true, .int 181 0, .ref 204, .none, .ref 205, .ref 206, .ref 207, .int 530 0, .int 177 0, .str (sx "/claim/cut.py") 531], #[]⟩
def o209_2 (P : Params) : Obj := ⟨.type "function", none, .func (fd 26 (sx "_law_body") (sx "_law_body") .none .none .none (.str (sx "law_everyfork_k07_lines_and_spots") 418) none (.ref 208) .none), #[]⟩
def o210_2 (P : Params) : Obj := ⟨.type "tuple", none, .seq #[] 0, #[]⟩
def o211_2 (P : Params) : Obj := ⟨.none, none, .fields #[], #[]⟩
def o212_2 (P : Params) : Obj := ⟨.none, none, .func (fd0 27 (sx "_law_statement") (sx "_law_statement") .none .none .none .none none .none .none), #[]⟩
def o213_2 (P : Params) : Obj := ⟨.type "code", none, .fields #[.str (sx "_law_statement") 533, .str (sx "_law_statement") 534, .str (sx "/claim/cut.py") 535, .int 184 0, .int 3 0, .int 0 0, .int 0 0, .int 3 0, .ref 210, .bool true, .int 181 0, .ref 211, .none, .none, .none, .ref 212, .int 536 0, .int 184 0, .str (sx "/claim/cut.py") 537], #[]⟩
def o214_2 (P : Params) : Obj := ⟨.type "function", none, .func (fd 27 (sx "_law_statement") (sx "_law_statement") .none .none .none (.str (sx "law_everyfork_k07_lines_and_spots") 418) none (.ref 213) .none), #[]⟩
def o215_2 (P : Params) : Obj := ⟨.type "tuple", none, .seq #[] 0, #[]⟩
def o216_2 (P : Params) : Obj := ⟨.none, none, .fields #[], #[]⟩
def o217_2 (P : Params) : Obj := ⟨.type "tuple", none, .seq #[.str (sx "_law_records_here") 542, .str (sx "_law_heads_here") 543, .str (sx "_law_f") 544, .str (sx "_law_head") 545] 0, #[]⟩
def o218_2 (P : Params) : Obj := ⟨.type "tuple", none, .seq #[] 0, #[]⟩
def o219_2 (P : Params) : Obj := ⟨.none, none, .func (fd0 28 (sx "_law_kit") (sx "_law_kit") .none .none .none .none none .none .none), #[]⟩
def o220_2 (P : Params) : Obj := ⟨.type "code", none, .fields #[.str (sx "_law_kit") 539, .str (sx "_law_kit") 540, .str (sx "/claim/cut.py") 541, .int 205 0, .int 3 0, .int 0 0, .int 0 0, .int 3 0, .ref 215, .bool true, .int 181 0, .ref 216, .none, .ref 217, .ref 218, .ref 219, .int 546 0, .int 205 0, .str (sx "/claim/cut.py") 547], #[]⟩
def o221_2 (P : Params) : Obj := ⟨.type "function", none, .func (fd 28 (sx "_law_kit") (sx "_law_kit") .none .none .none (.str (sx "law_everyfork_k07_lines_and_spots") 418) none (.ref 220) .none), #[]⟩
def o222_2 (P : Params) : Obj := ⟨.type "tuple", none, .seq #[] 0, #[]⟩
def o223_2 (P : Params) : Obj := ⟨.none, none, .fields #[], #[]⟩
def o224_2 (P : Params) : Obj := ⟨.type "tuple", none, .seq #[.str (sx "_law_tape_here") 552, .str (sx "_law_records_here") 553, .str (sx "_law_heads_here") 554, .str (sx "_law_functions") 555, .str (sx "_law_f") 556, .str (sx "_law_kit_here") 557] 0, #[]⟩
def o225_2 (P : Params) : Obj := ⟨.type "tuple", none, .seq #[] 0, #[]⟩
def o226_2 (P : Params) : Obj := ⟨.none, none, .func (fd0 29 (sx "_law_program") (sx "_law_program") .none .none .none .none none .none .none), #[]⟩
def o227_2 (P : Params) : Obj := ⟨.type "code", none, .fields #[.str (sx "_law_program") 549, .str (sx "_law_program") 550, .str (sx "/claim/cut.py") 551, .int 208 0, .int 1 0, .int 0 0, .int 0 0, .int 3 0, .ref 222, .bool true, .int 181 0, .ref 223, .none, .ref 224, .ref 225, .ref 226, .int 558 0, .int 208 0, .str (sx "/claim/cut.py") 559], #[]⟩
def o228_2 (P : Params) : Obj := ⟨.type "function", none, .func (fd 29 (sx "_law_program") (sx "_law_program") .none .none .none (.str (sx "law_everyfork_k07_lines_and_spots") 418) none (.ref 227) .none), #[]⟩
def o229_2 (P : Params) : Obj := ⟨.type "tuple", none, .seq #[] 0, #[]⟩
def o230_2 (P : Params) : Obj := ⟨.none, none, .fields #[], #[]⟩
def o231_2 (P : Params) : Obj := ⟨.type "tuple", none, .seq #[.str (sx "_law_body_here") 564, .str (sx "_law_found") 565, .str (sx "_law_left") 566, .str (sx "_law_line") 567, .str (sx "_law_inner") 568, .str (sx "_law_some") 569] 0, #[]⟩
def o232_2 (P : Params) : Obj := ⟨.type "tuple", none, .seq #[] 0, #[]⟩
def o233_2 (P : Params) : Obj := ⟨.none, none, .func (fd0 30 (sx "_law_lines") (sx "_law_lines") .none .none .none .none none .none .none), #[]⟩
def o234_2 (P : Params) : Obj := ⟨.type "code", none, .fields #[.str (sx "_law_lines") 561, .str (sx "_law_lines") 562, .str (sx "/claim/cut.py") 563, .int 216 0, .int 1 0, .int 0 0, .int 0 0, .int 3 0, .ref 229, .bool true, .int 181 0, .ref 230, .none, .ref 231, .ref 232, .ref 233, .int 570 0, .int 216 0, .str (sx "/claim/cut.py") 571], #[]⟩
def o235_2 (P : Params) : Obj := ⟨.type "function", none, .func (fd 30 (sx "_law_lines") (sx "_law_lines") .none .none .none (.str (sx "law_everyfork_k07_lines_and_spots") 418) none (.ref 234) .none), #[]⟩
def o236_2 (P : Params) : Obj := ⟨.type "tuple", none, .seq #[] 0, #[]⟩
def o237_2 (P : Params) : Obj := ⟨.none, none, .fields #[], #[]⟩
def o238_2 (P : Params) : Obj := ⟨.type "tuple", none, .seq #[.str (sx "_law_thing") 576, .str (sx "_law_left") 577, .str (sx "_law_one") 578] 0, #[]⟩
def o239_2 (P : Params) : Obj := ⟨.type "tuple", none, .seq #[] 0, #[]⟩
def o240_2 (P : Params) : Obj := ⟨.none, none, .func (fd0 31 (sx "_law_looks_up") (sx "_law_looks_up") .none .none .none .none none .none .none), #[]⟩
def o241_2 (P : Params) : Obj := ⟨.type "code", none, .fields #[.str (sx "_law_looks_up") 573, .str (sx "_law_looks_up") 574, .str (sx "/claim/cut.py") 575, .int 228 0, .int 1 0, .int 0 0, .int 0 0, .int 3 0, .ref 236, .bool true, .int 181 0, .ref 237, .none, .ref 238, .ref 239, .ref 240, .int 579 0, .int 228 0, .str (sx "/claim/cut.py") 580], #[]⟩
def o242_2 (P : Params) : Obj := ⟨.type "function", none, .func (fd 31 (sx "_law_looks_up") (sx "_law_looks_up") .none .none .none (.str (sx "law_everyfork_k07_lines_and_spots") 418) none (.ref 241) .none), #[]⟩
def o243_2 (P : Params) : Obj := ⟨.type "tuple", none, .seq #[] 0, #[]⟩
def o244_2 (P : Params) : Obj := ⟨.none, none, .fields #[], #[]⟩
def o245_2 (P : Params) : Obj := ⟨.type "tuple", none, .seq #[.str (sx "_law_name") 585, .str (sx "_law_k") 586, .str (sx "_law_line") 587, .str (sx "_law_found") 588] 0, #[]⟩
def o246_2 (P : Params) : Obj := ⟨.type "tuple", none, .seq #[] 0, #[]⟩
def o247_2 (P : Params) : Obj := ⟨.none, none, .func (fd0 32 (sx "_law_line_spots") (sx "_law_line_spots") .none .none .none .none none .none .none), #[]⟩
def o248_2 (P : Params) : Obj := ⟨.type "code", none, .fields #[.str (sx "_law_line_spots") 582, .str (sx "_law_line_spots") 583, .str (sx "/claim/cut.py") 584, .int 237 0, .int 3 0, .int 0 0, .int 0 0, .int 3 0, .ref 243, .bool true, .int 181 0, .ref 244, .none, .ref 245, .ref 246, .ref 247, .int 589 0, .int 237 0, .str (sx "/claim/cut.py") 590], #[]⟩
def o249_2 (P : Params) : Obj := ⟨.type "function", none, .func (fd 32 (sx "_law_line_spots") (sx "_law_line_spots") .none .none .none (.str (sx "law_everyfork_k07_lines_and_spots") 418) none (.ref 248) .none), #[]⟩
def o250_2 (P : Params) : Obj := ⟨.type "tuple", none, .seq #[] 0, #[]⟩
def o251_2 (P : Params) : Obj := ⟨.none, none, .fields #[], #[]⟩
def o252_2 (P : Params) : Obj := ⟨.type "tuple", none, .seq #[.str (sx "_law_script") 595, .str (sx "_law_tape_here") 596, .str (sx "_law_turn") 597, .str (sx "_law_program_here") 598, .str (sx "_law_due") 599, .str (sx "_law_function") 600, .str (sx "_law_lines_here") 601, .str (sx "_law_again") 602, .str (sx "_law_found") 603, .str (sx "_law_k") 604, .str (sx "_law_bodies") 605, .str (sx "_law_some") 606, .str (sx "_law_inner") 607] 0, #[]⟩
def o253_2 (P : Params) : Obj := ⟨.type "tuple", none, .seq #[] 0, #[]⟩
def o254_2 (P : Params) : Obj := ⟨.none, none, .func (fd0 33 (sx "law") (sx "law") .none .none .none .none none .none .none), #[]⟩
def o255_2 (P : Params) : Obj := ⟨.type "code", none, .fields #[.str (sx "law") 592, .str (sx "law") 593, .str (sx "/claim/cut.py") 594, .int 246 0, .int 1 0, .int 0 0, .int 0 0, .int 3 0, .ref 250, .bool true, .int 181 0, .ref 251, .none, .ref 252, .ref 253, .ref 254, .int 608 0, .int 246 0, .str (sx "/claim/cut.py") 609], #[]⟩
def o256_2 (P : Params) : Obj := ⟨.type "function", none, .func (fd 33 (sx "law") (sx "law") .none .none .none (.str (sx "law_everyfork_k07_lines_and_spots") 418) none (.ref 255) .none), #[]⟩
def t_2 (P : Params) : BT := (.node (boot_o_0 P) (.node (boot_o_1 P) (.node (o3_2 P) (.node (boot_o_7 P) (.node (o15_1 P) (.node (o31_1 P) (.node (o63_1 P) (.node (o127_2 P) (.node (o255_2 P) .nil .nil) .nil) (.node (o191_2 P) .nil .nil)) (.node (o95_2 P) (.node (o159_2 P) .nil .nil) (.node (o223_2 P) .nil .nil))) (.node (o47_1 P) (.node (o79_2 P) (.node (o143_2 P) .nil .nil) (.node (o207_2 P) .nil .nil)) (.node (o111_2 P) (.node (o175_2 P) .nil .nil) (.node (o239_2 P) .nil .nil)))) (.node (o23_1 P) (.node (o39_1 P) (.node (o71_1 P) (.node (o135_2 P) .nil .nil) (.node (o199_2 P) .nil .nil)) (.node (o103_2 P) (.node (o167_2 P) .nil .nil) (.node (o231_2 P) .nil .nil))) (.node (o55_1 P) (.node (o87_2 P) (.node (o151_2 P) .nil .nil) (.node (o215_2 P) .nil .nil)) (.node (o119_2 P) (.node (o183_2 P) .nil .nil) (.node (o247_2 P) .nil .nil))))) (.node (o11a P) (.node (o19_1 P) (.node (o35_1 P) (.node (o67_1 P) (.node (o131_2 P) .nil .nil) (.node (o195_2 P) .nil .nil)) (.node (o99_2 P) (.node (o163_2 P) .nil .nil) (.node (o227_2 P) .nil .nil))) (.node (o51_1 P) (.node (o83_2 P) (.node (o147_2 P) .nil .nil) (.node (o211_2 P) .nil .nil)) (.node (o115_2 P) (.node (o179_2 P) .nil .nil) (.node (o243_2 P) .nil .nil)))) (.node (o27_1 P) (.node (o43_1 P) (.node (o75_2 P) (.node (o139_2 P) .nil .nil) (.node (o203_2 P) .nil .nil)) (.node (o107_2 P) (.node (o171_2 P) .nil .nil) (.node (o235_2 P) .nil .nil))) (.node (o59_1 P) (.node (o91_2 P) (.node (o155_2 P) .nil .nil) (.node (o219_2 P) .nil .nil)) (.node (o123_2 P) (.node (o187_2 P) .nil .nil) (.node (o251_2 P) .nil .nil)))))) (.node (boot_o_5 P) (.node (boot_o_9 P) (.node (o17_1 P) (.node (o33_1 P) (.node (o65_1 P) (.node (o129_2 P) .nil .nil) (.node (o193_2 P) .nil .nil)) (.node (o97_2 P) (.node (o161_2 P) .nil .nil) (.node (o225_2 P) .nil .nil))) (.node (o49_1 P) (.node (o81_2 P) (.node (o145_2 P) .nil .nil) (.node (o209_2 P) .nil .nil)) (.node (o113_2 P) (.node (o177_2 P) .nil .nil) (.node (o241_2 P) .nil .nil)))) (.node (o25_1 P) (.node (o41_1 P) (.node (o73_1 P) (.node (o137_2 P) .nil .nil) (.node (o201_2 P) .nil .nil)) (.node (o105_2 P) (.node (o169_2 P) .nil .nil) (.node (o233_2 P) .nil .nil))) (.node (o57_1 P) (.node (o89_2 P) (.node (o153_2 P) .nil .nil) (.node (o217_2 P) .nil .nil)) (.node (o121_2 P) (.node (o185_2 P) .nil .nil) (.node (o249_2 P) .nil .nil))))) (.node (o13a P) (.node (o21_1 P) (.node (o37_1 P) (.node (o69_1 P) (.node (o133_2 P) .nil .nil) (.node (o197_2 P) .nil .nil)) (.node (o101_2 P) (.node (o165_2 P) .nil .nil) (.node (o229_2 P) .nil .nil))) (.node (o53_1 P) (.node (o85_2 P) (.node (o149_2 P) .nil .nil) (.node (o213_2 P) .nil .nil)) (.node (o117_2 P) (.node (o181_2 P) .nil .nil) (.node (o245_2 P) .nil .nil)))) (.node (o29_1 P) (.node (o45_1 P) (.node (o77_2 P) (.node (o141_2 P) .nil .nil) (.node (o205_2 P) .nil .nil)) (.node (o109_2 P) (.node (o173_2 P) .nil .nil) (.node (o237_2 P) .nil .nil))) (.node (o61_1 P) (.node (o93_2 P) (.node (o157_2 P) .nil .nil) (.node (o221_2 P) .nil .nil)) (.node (o125_2 P) (.node (o189_2 P) .nil .nil) (.node (o253_2 P) .nil .nil))))))) (.node (boot_o_2 P) (.node (boot_o_4 P) (.node (boot_o_8 P) (.node (o16_1 P) (.node (o32_1 P) (.node (o64_1 P) (.node (o128_2 P) (.node (o256_2 P) .nil .nil) .nil) (.node (o192_2 P) .nil .nil)) (.node (o96_2 P) (.node (o160_2 P) .nil .nil) (.node (o224_2 P) .nil .nil))) (.node (o48_1 P) (.node (o80_2 P) (.node (o144_2 P) .nil .nil) (.node (o208_2 P) .nil .nil)) (.node (o112_2 P) (.node (o176_2 P) .nil .nil) (.node (o240_2 P) .nil .nil)))) (.node (o24_1 P) (.node (o40_1 P) (.node (o72_1 P) (.node (o136_2 P) .nil .nil) (.node (o200_2 P) .nil .nil)) (.node (o104_2 P) (.node (o168_2 P) .nil .nil) (.node (o232_2 P) .nil .nil))) (.node (o56_1 P) (.node (o88_2 P) (.node (o152_2 P) .nil .nil) (.node (o216_2 P) .nil .nil)) (.node (o120_2 P) (.node (o184_2 P) .nil .nil) (.node (o248_2 P) .nil .nil))))) (.node (o12_2 P) (.node (o20_1 P) (.node (o36_1 P) (.node (o68_1 P) (.node (o132_2 P) .nil .nil) (.node (o196_2 P) .nil .nil)) (.node (o100_2 P) (.node (o164_2 P) .nil .nil) (.node (o228_2 P) .nil .nil))) (.node (o52_1 P) (.node (o84_2 P) (.node (o148_2 P) .nil .nil) (.node (o212_2 P) .nil .nil)) (.node (o116_2 P) (.node (o180_2 P) .nil .nil) (.node (o244_2 P) .nil .nil)))) (.node (o28_1 P) (.node (o44_1 P) (.node (o76_2 P) (.node (o140_2 P) .nil .nil) (.node (o204_2 P) .nil .nil)) (.node (o108_2 P) (.node (o172_2 P) .nil .nil) (.node (o236_2 P) .nil .nil))) (.node (o60_1 P) (.node (o92_2 P) (.node (o156_2 P) .nil .nil) (.node (o220_2 P) .nil .nil)) (.node (o124_2 P) (.node (o188_2 P) .nil .nil) (.node (o252_2 P) .nil .nil)))))) (.node (boot_o_6 P) (.node (boot_o_10 P) (.node (o18_1 P) (.node (o34_1 P) (.node (o66_1 P) (.node (o130_2 P) .nil .nil) (.node (o194_2 P) .nil .nil)) (.node (o98_2 P) (.node (o162_2 P) .nil .nil) (.node (o226_2 P) .nil .nil))) (.node (o50_1 P) (.node (o82_2 P) (.node (o146_2 P) .nil .nil) (.node (o210_2 P) .nil .nil)) (.node (o114_2 P) (.node (o178_2 P) .nil .nil) (.node (o242_2 P) .nil .nil)))) (.node (o26_1 P) (.node (o42_1 P) (.node (o74_2 P) (.node (o138_2 P) .nil .nil) (.node (o202_2 P) .nil .nil)) (.node (o106_2 P) (.node (o170_2 P) .nil .nil) (.node (o234_2 P) .nil .nil))) (.node (o58_1 P) (.node (o90_2 P) (.node (o154_2 P) .nil .nil) (.node (o218_2 P) .nil .nil)) (.node (o122_2 P) (.node (o186_2 P) .nil .nil) (.node (o250_2 P) .nil .nil))))) (.node (o14a P) (.node (o22_1 P) (.node (o38_1 P) (.node (o70_1 P) (.node (o134_2 P) .nil .nil) (.node (o198_2 P) .nil .nil)) (.node (o102_2 P) (.node (o166_2 P) .nil .nil) (.node (o230_2 P) .nil .nil))) (.node (o54_1 P) (.node (o86_2 P) (.node (o150_2 P) .nil .nil) (.node (o214_2 P) .nil .nil)) (.node (o118_2 P) (.node (o182_2 P) .nil .nil) (.node (o246_2 P) .nil .nil)))) (.node (o30_1 P) (.node (o46_1 P) (.node (o78_2 P) (.node (o142_2 P) .nil .nil) (.node (o206_2 P) .nil .nil)) (.node (o110_2 P) (.node (o174_2 P) .nil .nil) (.node (o238_2 P) .nil .nil))) (.node (o62_1 P) (.node (o94_2 P) (.node (o158_2 P) .nil .nil) (.node (o222_2 P) .nil .nil)) (.node (o126_2 P) (.node (o190_2 P) .nil .nil) (.node (o254_2 P) .nil .nil))))))))
def s_2 (w : World) (os : OsState) : SharedT := ⟨t_2 w.params, 257, {  : Life }, #[], ⟨0, 0, 0, 0⟩, 611, os⟩
def q2 : List Stmt := (pE.main.body.drop 3).take 31
theorem l_2 : ∀ (w : World) (os : OsState), segRunT treeTable pE w m0 ann 1 899 (s_1 w os) (piecesOf q2 env cE ⟨3, 0, 3, 6⟩ B) = some (.next, s_2 w os, cE, ⟨246, 0, 272, 15⟩) := fun w os => by kernel_rfl

def hz (P : Params) : Heap := ⟨⟨[(boot_o_0 P), (boot_o_1 P), (boot_o_2 P), (o3_2 P), (boot_o_4 P), (boot_o_5 P), (boot_o_6 P), (boot_o_7 P), (boot_o_8 P), (boot_o_9 P), (boot_o_10 P), (o11a P), (o12_2 P), (o13a P), (o14a P), (o15_1 P), (o16_1 P), (o17_1 P), (o18_1 P), (o19_1 P), (o20_1 P), (o21_1 P), (o22_1 P), (o23_1 P), (o24_1 P), (o25_1 P), (o26_1 P), (o27_1 P), (o28_1 P), (o29_1 P), (o30_1 P), (o31_1 P), (o32_1 P), (o33_1 P), (o34_1 P), (o35_1 P), (o36_1 P), (o37_1 P), (o38_1 P), (o39_1 P), (o40_1 P), (o41_1 P), (o42_1 P), (o43_1 P), (o44_1 P), (o45_1 P), (o46_1 P), (o47_1 P), (o48_1 P), (o49_1 P), (o50_1 P), (o51_1 P), (o52_1 P), (o53_1 P), (o54_1 P), (o55_1 P), (o56_1 P), (o57_1 P), (o58_1 P), (o59_1 P), (o60_1 P), (o61_1 P), (o62_1 P), (o63_1 P), (o64_1 P), (o65_1 P), (o66_1 P), (o67_1 P), (o68_1 P), (o69_1 P), (o70_1 P), (o71_1 P), (o72_1 P), (o73_1 P), (o74_2 P), (o75_2 P), (o76_2 P), (o77_2 P), (o78_2 P), (o79_2 P), (o80_2 P), (o81_2 P), (o82_2 P), (o83_2 P), (o84_2 P), (o85_2 P), (o86_2 P), (o87_2 P), (o88_2 P), (o89_2 P), (o90_2 P), (o91_2 P), (o92_2 P), (o93_2 P), (o94_2 P), (o95_2 P), (o96_2 P), (o97_2 P), (o98_2 P), (o99_2 P), (o100_2 P), (o101_2 P), (o102_2 P), (o103_2 P), (o104_2 P), (o105_2 P), (o106_2 P), (o107_2 P), (o108_2 P), (o109_2 P), (o110_2 P), (o111_2 P), (o112_2 P), (o113_2 P), (o114_2 P), (o115_2 P), (o116_2 P), (o117_2 P), (o118_2 P), (o119_2 P), (o120_2 P), (o121_2 P), (o122_2 P), (o123_2 P), (o124_2 P), (o125_2 P), (o126_2 P), (o127_2 P), (o128_2 P), (o129_2 P), (o130_2 P), (o131_2 P), (o132_2 P), (o133_2 P), (o134_2 P), (o135_2 P), (o136_2 P), (o137_2 P), (o138_2 P), (o139_2 P), (o140_2 P), (o141_2 P), (o142_2 P), (o143_2 P), (o144_2 P), (o145_2 P), (o146_2 P), (o147_2 P), (o148_2 P), (o149_2 P), (o150_2 P), (o151_2 P), (o152_2 P), (o153_2 P), (o154_2 P), (o155_2 P), (o156_2 P), (o157_2 P), (o158_2 P), (o159_2 P), (o160_2 P), (o161_2 P), (o162_2 P), (o163_2 P), (o164_2 P), (o165_2 P), (o166_2 P), (o167_2 P), (o168_2 P), (o169_2 P), (o170_2 P), (o171_2 P), (o172_2 P), (o173_2 P), (o174_2 P), (o175_2 P), (o176_2 P), (o177_2 P), (o178_2 P), (o179_2 P), (o180_2 P), (o181_2 P), (o182_2 P), (o183_2 P), (o184_2 P), (o185_2 P), (o186_2 P), (o187_2 P), (o188_2 P), (o189_2 P), (o190_2 P), (o191_2 P), (o192_2 P), (o193_2 P), (o194_2 P), (o195_2 P), (o196_2 P), (o197_2 P), (o198_2 P), (o199_2 P), (o200_2 P), (o201_2 P), (o202_2 P), (o203_2 P), (o204_2 P), (o205_2 P), (o206_2 P), (o207_2 P), (o208_2 P), (o209_2 P), (o210_2 P), (o211_2 P), (o212_2 P), (o213_2 P), (o214_2 P), (o215_2 P), (o216_2 P), (o217_2 P), (o218_2 P), (o219_2 P), (o220_2 P), (o221_2 P), (o222_2 P), (o223_2 P), (o224_2 P), (o225_2 P), (o226_2 P), (o227_2 P), (o228_2 P), (o229_2 P), (o230_2 P), (o231_2 P), (o232_2 P), (o233_2 P), (o234_2 P), (o235_2 P), (o236_2 P), (o237_2 P), (o238_2 P), (o239_2 P), (o240_2 P), (o241_2 P), (o242_2 P), (o243_2 P), (o244_2 P), (o245_2 P), (o246_2 P), (o247_2 P), (o248_2 P), (o249_2 P), (o250_2 P), (o251_2 P), (o252_2 P), (o253_2 P), (o254_2 P), (o255_2 P), (o256_2 P)]⟩, {  : Life }⟩
def sz (w : World) (os : OsState) : Shared := ⟨hz w.params, #[], ⟨0, 0, 0, 0⟩, 611, os⟩
theorem l_fin : ∀ (w : World) (os : OsState), topRun treeTable pE w m0 ann 2 (s_2 w os).abs (Thread.mk (doneF .next) cE ⟨246, 0, 272, 15⟩ B) = some (sz w os) := fun w os => by kernel_rfl
theorem l_run : ∀ (w : World) (os : OsState), topRun treeTable pE w m0 ann (12 + (1 + (10 + (732 + (899 + 2))))) (s0 w os) (topStub pE) = some (sz w os) := fun w os => go_top (l_pre w os) (piece_block (l_block w os) (piece_app (l := q0) (segRun_of (l_0 w os)) (piece_app (l := q1) (segRun_of (l_1 w os)) (piece_app (l := q2) (segRun_of (l_2 w os)) (piece_nil (l_fin w os))))))
def HK (P : Params) : Frag := [(2, (boot_o_2 P)), (3, (o3_2 P)), (15, (o15_1 P)), (16, (o16_1 P)), (17, (o17_1 P)), (18, (o18_1 P)), (19, (o19_1 P)), (20, (o20_1 P)), (21, (o21_1 P)), (22, (o22_1 P)), (23, (o23_1 P)), (24, (o24_1 P)), (25, (o25_1 P)), (26, (o26_1 P)), (27, (o27_1 P)), (28, (o28_1 P)), (29, (o29_1 P)), (30, (o30_1 P)), (31, (o31_1 P)), (32, (o32_1 P)), (33, (o33_1 P)), (34, (o34_1 P)), (35, (o35_1 P)), (36, (o36_1 P)), (37, (o37_1 P)), (38, (o38_1 P)), (39, (o39_1 P)), (40, (o40_1 P)), (41, (o41_1 P)), (42, (o42_1 P)), (43, (o43_1 P)), (44, (o44_1 P)), (45, (o45_1 P)), (46, (o46_1 P)), (47, (o47_1 P)), (48, (o48_1 P)), (49, (o49_1 P)), (51, (o51_1 P)), (52, (o52_1 P)), (53, (o53_1 P)), (54, (o54_1 P)), (55, (o55_1 P)), (56, (o56_1 P)), (57, (o57_1 P)), (58, (o58_1 P)), (59, (o59_1 P)), (60, (o60_1 P)), (61, (o61_1 P)), (62, (o62_1 P)), (63, (o63_1 P)), (64, (o64_1 P)), (65, (o65_1 P)), (66, (o66_1 P)), (67, (o67_1 P)), (68, (o68_1 P)), (69, (o69_1 P)), (70, (o70_1 P)), (71, (o71_1 P)), (72, (o72_1 P)), (73, (o73_1 P)), (74, (o74_2 P)), (77, (o77_2 P)), (78, (o78_2 P)), (79, (o79_2 P)), (81, (o81_2 P)), (82, (o82_2 P)), (84, (o84_2 P)), (85, (o85_2 P)), (86, (o86_2 P)), (88, (o88_2 P)), (89, (o89_2 P)), (91, (o91_2 P)), (92, (o92_2 P)), (93, (o93_2 P)), (95, (o95_2 P)), (96, (o96_2 P)), (98, (o98_2 P)), (99, (o99_2 P)), (100, (o100_2 P)), (102, (o102_2 P)), (103, (o103_2 P)), (105, (o105_2 P)), (106, (o106_2 P)), (107, (o107_2 P)), (109, (o109_2 P)), (110, (o110_2 P)), (112, (o112_2 P)), (113, (o113_2 P)), (114, (o114_2 P)), (116, (o116_2 P)), (117, (o117_2 P)), (119, (o119_2 P)), (120, (o120_2 P)), (121, (o121_2 P)), (123, (o123_2 P)), (124, (o124_2 P)), (126, (o126_2 P)), (127, (o127_2 P)), (128, (o128_2 P)), (130, (o130_2 P)), (131, (o131_2 P)), (133, (o133_2 P)), (134, (o134_2 P)), (135, (o135_2 P)), (137, (o137_2 P)), (138, (o138_2 P)), (140, (o140_2 P)), (141, (o141_2 P)), (142, (o142_2 P)), (145, (o145_2 P)), (146, (o146_2 P)), (147, (o147_2 P)), (150, (o150_2 P)), (151, (o151_2 P)), (152, (o152_2 P)), (155, (o155_2 P)), (156, (o156_2 P)), (157, (o157_2 P)), (160, (o160_2 P)), (161, (o161_2 P)), (162, (o162_2 P)), (165, (o165_2 P)), (166, (o166_2 P)), (167, (o167_2 P)), (170, (o170_2 P)), (171, (o171_2 P)), (172, (o172_2 P)), (174, (o174_2 P)), (175, (o175_2 P)), (177, (o177_2 P)), (178, (o178_2 P)), (179, (o179_2 P)), (182, (o182_2 P)), (183, (o183_2 P)), (184, (o184_2 P)), (187, (o187_2 P)), (188, (o188_2 P)), (189, (o189_2 P)), (191, (o191_2 P)), (192, (o192_2 P)), (194, (o194_2 P)), (195, (o195_2 P)), (196, (o196_2 P)), (198, (o198_2 P)), (199, (o199_2 P)), (201, (o201_2 P)), (202, (o202_2 P)), (203, (o203_2 P)), (205, (o205_2 P)), (206, (o206_2 P)), (208, (o208_2 P)), (209, (o209_2 P)), (210, (o210_2 P)), (213, (o213_2 P)), (214, (o214_2 P)), (215, (o215_2 P)), (217, (o217_2 P)), (218, (o218_2 P)), (220, (o220_2 P)), (221, (o221_2 P)), (222, (o222_2 P)), (224, (o224_2 P)), (225, (o225_2 P)), (227, (o227_2 P)), (228, (o228_2 P)), (229, (o229_2 P)), (231, (o231_2 P)), (232, (o232_2 P)), (234, (o234_2 P)), (235, (o235_2 P)), (236, (o236_2 P)), (238, (o238_2 P)), (239, (o239_2 P)), (241, (o241_2 P)), (242, (o242_2 P)), (243, (o243_2 P)), (245, (o245_2 P)), (246, (o246_2 P)), (248, (o248_2 P)), (249, (o249_2 P)), (250, (o250_2 P)), (252, (o252_2 P)), (253, (o253_2 P)), (255, (o255_2 P)), (256, (o256_2 P))]
def HA : List Addr := [2, 3, 15, 16, 17, 18, 19, 20, 21, 22, 23, 24, 25, 26, 27, 28, 29, 30, 31, 32, 33, 34, 35, 36, 37, 38, 39, 40, 41, 42, 43, 44, 45, 46, 47, 48, 49, 51, 52, 53, 54, 55, 56, 57, 58, 59, 60, 61, 62, 63, 64, 65, 66, 67, 68, 69, 70, 71, 72, 73, 74, 77, 78, 79, 81, 82, 84, 85, 86, 88, 89, 91, 92, 93, 95, 96, 98, 99, 100, 102, 103, 105, 106, 107, 109, 110, 112, 113, 114, 116, 117, 119, 120, 121, 123, 124, 126, 127, 128, 130, 131, 133, 134, 135, 137, 138, 140, 141, 142, 145, 146, 147, 150, 151, 152, 155, 156, 157, 160, 161, 162, 165, 166, 167, 170, 171, 172, 174, 175, 177, 178, 179, 182, 183, 184, 187, 188, 189, 191, 192, 194, 195, 196, 198, 199, 201, 202, 203, 205, 206, 208, 209, 210, 213, 214, 215, 217, 218, 220, 221, 222, 224, 225, 227, 228, 229, 231, 232, 234, 235, 236, 238, 239, 241, 242, 243, 245, 246, 248, 249, 250, 252, 253, 255, 256]
theorem HA_eq (P : Params) : HA = (HK P).map (·.1) := by kernel_rfl
def qV : Program := { pE with main := { pE.main with body := [top 33] } }
def lo : List Str := [(sx "SHAPES"), (sx "LISTED"), (sx "inner_of"), (sx "may_break"), (sx "bodies_of"), (sx "lines_in"), (sx "lines_of"), (sx "within"), (sx "spots_of_line"), (sx "spots_of"), (sx "_law_tape"), (sx "_law_draw"), (sx "_law_names"), (sx "_law_records"), (sx "_law_kind"), (sx "_law_heads"), (sx "_law_count"), (sx "_law_leaf"), (sx "_law_num"), (sx "_law_row"), (sx "_law_e"), (sx "_law_bounded"), (sx "_law_condition"), (sx "_law_body"), (sx "_law_statement"), (sx "_law_kit"), (sx "_law_program"), (sx "_law_lines"), (sx "_law_looks_up"), (sx "_law_line_spots")]
abbrev rW : RowW := OpenRow.toRowW (OpenLaw.row PySem.Challenge.rw_everyfork_k07_lines_and_spots)
abbrev Xt : Shared → Bool := fun s => xlAt qV [] s && recOk (RowW.records rW) s
abbrev hk : Hook := kHook HK HA HA_eq
theorem l_open : ∀ w : World, (fencedOpening treeTable pE w 5000).map (fun s => (s.heap, s.gens, s.drawn, s.toks)) = some (boot_heap w.params, Array.mk [], boot_drawn, boot_toks) :=
  boot_open (by kernel_rfl) (by kernel_rfl) fun s => by kernel_rfl
theorem l_size : ∀ w : World, ((boot_heap w.params).isNs mainGlobals && (Array.mk [] : Array GenState).size == 0, (boot_heap w.params).objs.size, (boot_heap w.params).nsMap mainGlobals "__annotations__") = (true, m0, ann) := fun w => by kernel_rfl
theorem l_looks : ∀ w : World, (fun os => ((staticsOk (importedModules pE.main.body) (boot_heap w.params) (hz w.params) && namesBound pE (hz w.params) && gensDone ⟨hz w.params, #[], ⟨0, 0, 0, 0⟩, 611, os⟩ && laidKept (boot_heap w.params) (hz w.params)), openSeen qV lo (importedModules pE.main.body) Xt true ⟨hz w.params, #[], ⟨0, 0, 0, 0⟩, 611, os⟩, hk.obs ⟨hz w.params, #[], ⟨0, 0, 0, 0⟩, 611, os⟩)) = fun _ => (true, openGood qV lo, hk.val w) := fun w => by kernel_rfl
theorem left : LeftO pE qV lo Xt hk.obs hk.val 5000 := LeftO.of_pieces (M := (12 + (1 + (10 + (732 + (899 + 2)))))) l_open l_size l_run (by kernel_rfl) l_looks
end
end HD

set_option Elab.async false
set_option linter.all false
set_option maxRecDepth 100000
set_option maxHeartbeats 4000000
namespace K6
open PySem L2
theorem x_a1 (P : Params) : PySem.W.nsIn (HD.HK P) mainGlobals "inner_of" = some (some (.ref 78)) := by kernel_rfl
theorem x_l1 (P : Params) : (HD.HK P).lookup 78 = some ⟨.type "function", none, .func (PySem.W.fnOf "inner_of" "inner_of" (defArgs s_inner_of) (defBody s_inner_of) (defScope s_inner_of) .none .none .none (.str (HD.sx "everyfork.shapes") 187) none (.ref 77) .none), #[]⟩ := by kernel_rfl
theorem x_c1 (P : Params) : PySem.W.codeIn (HD.HK P) (.ref 77) "inner_of" = true := by kernel_rfl
theorem x_k1 (P : Params) : PySem.W.keepIn (HD.HK P) (.ref 78) = true := by kernel_rfl
theorem x_a2 (P : Params) : PySem.W.nsIn (HD.HK P) mainGlobals "may_break" = some (some (.ref 85)) := by kernel_rfl
theorem x_l2 (P : Params) : (HD.HK P).lookup 85 = some ⟨.type "function", none, .func (PySem.W.fnOf "may_break" "may_break" (defArgs s_may_break) (defBody s_may_break) (defScope s_may_break) .none .none .none (.str (HD.sx "everyfork.shapes") 187) none (.ref 84) .none), #[]⟩ := by kernel_rfl
theorem x_c2 (P : Params) : PySem.W.codeIn (HD.HK P) (.ref 84) "may_break" = true := by kernel_rfl
theorem x_k2 (P : Params) : PySem.W.keepIn (HD.HK P) (.ref 85) = true := by kernel_rfl
theorem x_a3 (P : Params) : PySem.W.nsIn (HD.HK P) mainGlobals "bodies_of" = some (some (.ref 92)) := by kernel_rfl
theorem x_l3 (P : Params) : (HD.HK P).lookup 92 = some ⟨.type "function", none, .func (PySem.W.fnOf "bodies_of" "bodies_of" (defArgs s_bodies_of) (defBody s_bodies_of) (defScope s_bodies_of) .none .none .none (.str (HD.sx "everyfork.programs") 360) none (.ref 91) .none), #[]⟩ := by kernel_rfl
theorem x_c3 (P : Params) : PySem.W.codeIn (HD.HK P) (.ref 91) "bodies_of" = true := by kernel_rfl
theorem x_k3 (P : Params) : PySem.W.keepIn (HD.HK P) (.ref 92) = true := by kernel_rfl
theorem x_a4 (P : Params) : PySem.W.nsIn (HD.HK P) mainGlobals "lines_in" = some (some (.ref 99)) := by kernel_rfl
theorem x_l4 (P : Params) : (HD.HK P).lookup 99 = some ⟨.type "function", none, .func (PySem.W.fnOf "lines_in" "lines_in" (defArgs s_lines_in) (defBody s_lines_in) (defScope s_lines_in) .none .none .none (.str (HD.sx "everyfork.programs") 360) none (.ref 98) .none), #[]⟩ := by kernel_rfl
theorem x_c4 (P : Params) : PySem.W.codeIn (HD.HK P) (.ref 98) "lines_in" = true := by kernel_rfl
theorem x_k4 (P : Params) : PySem.W.keepIn (HD.HK P) (.ref 99) = true := by kernel_rfl
theorem x_a5 (P : Params) : PySem.W.nsIn (HD.HK P) mainGlobals "lines_of" = some (some (.ref 106)) := by kernel_rfl
theorem x_l5 (P : Params) : (HD.HK P).lookup 106 = some ⟨.type "function", none, .func (PySem.W.fnOf "lines_of" "lines_of" (defArgs s_lines_of) (defBody s_lines_of) (defScope s_lines_of) .none .none .none (.str (HD.sx "everyfork.programs") 360) none (.ref 105) .none), #[]⟩ := by kernel_rfl
theorem x_c5 (P : Params) : PySem.W.codeIn (HD.HK P) (.ref 105) "lines_of" = true := by kernel_rfl
theorem x_k5 (P : Params) : PySem.W.keepIn (HD.HK P) (.ref 106) = true := by kernel_rfl
theorem x_a6 (P : Params) : PySem.W.nsIn (HD.HK P) mainGlobals "within" = some (some (.ref 113)) := by kernel_rfl
theorem x_l6 (P : Params) : (HD.HK P).lookup 113 = some ⟨.type "function", none, .func (PySem.W.fnOf "within" "within" (defArgs s_within) (defBody s_within) (defScope s_within) .none .none .none (.str (HD.sx "everyfork.programs") 360) none (.ref 112) .none), #[]⟩ := by kernel_rfl
theorem x_c6 (P : Params) : PySem.W.codeIn (HD.HK P) (.ref 112) "within" = true := by kernel_rfl
theorem x_k6 (P : Params) : PySem.W.keepIn (HD.HK P) (.ref 113) = true := by kernel_rfl
theorem x_a7 (P : Params) : PySem.W.nsIn (HD.HK P) mainGlobals "spots_of_line" = some (some (.ref 120)) := by kernel_rfl
theorem x_l7 (P : Params) : (HD.HK P).lookup 120 = some ⟨.type "function", none, .func (PySem.W.fnOf "spots_of_line" "spots_of_line" (defArgs s_spots_of_line) (defBody s_spots_of_line) (defScope s_spots_of_line) .none .none .none (.str (HD.sx "everyfork.programs") 360) none (.ref 119) .none), #[]⟩ := by kernel_rfl
theorem x_c7 (P : Params) : PySem.W.codeIn (HD.HK P) (.ref 119) "spots_of_line" = true := by kernel_rfl
theorem x_k7 (P : Params) : PySem.W.keepIn (HD.HK P) (.ref 120) = true := by kernel_rfl
theorem x_a8 (P : Params) : PySem.W.nsIn (HD.HK P) mainGlobals "spots_of" = some (some (.ref 127)) := by kernel_rfl
theorem x_l8 (P : Params) : (HD.HK P).lookup 127 = some ⟨.type "function", none, .func (PySem.W.fnOf "spots_of" "spots_of" (defArgs s_spots_of) (defBody s_spots_of) (defScope s_spots_of) .none .none .none (.str (HD.sx "everyfork.programs") 360) none (.ref 126) .none), #[]⟩ := by kernel_rfl
theorem x_c8 (P : Params) : PySem.W.codeIn (HD.HK P) (.ref 126) "spots_of" = true := by kernel_rfl
theorem x_k8 (P : Params) : PySem.W.keepIn (HD.HK P) (.ref 127) = true := by kernel_rfl
theorem x_a9 (P : Params) : PySem.W.nsIn (HD.HK P) mainGlobals "_law_tape" = some (some (.ref 134)) := by kernel_rfl
theorem x_l9 (P : Params) : (HD.HK P).lookup 134 = some ⟨.type "function", none, .func (PySem.W.fnOf "_law_tape" "_law_tape" (defArgs s_l_tape) (defBody s_l_tape) (defScope s_l_tape) .none .none .none (.str (HD.sx "law_everyfork_k07_lines_and_spots") 418) none (.ref 133) .none), #[]⟩ := by kernel_rfl
theorem x_c9 (P : Params) : PySem.W.codeIn (HD.HK P) (.ref 133) "_law_tape" = true := by kernel_rfl
theorem x_k9 (P : Params) : PySem.W.keepIn (HD.HK P) (.ref 134) = true := by kernel_rfl
theorem x_a10 (P : Params) : PySem.W.nsIn (HD.HK P) mainGlobals "_law_draw" = some (some (.ref 141)) := by kernel_rfl
theorem x_l10 (P : Params) : (HD.HK P).lookup 141 = some ⟨.type "function", none, .func (PySem.W.fnOf "_law_draw" "_law_draw" (defArgs s_l_draw) (defBody s_l_draw) (defScope s_l_draw) .none .none .none (.str (HD.sx "law_everyfork_k07_lines_and_spots") 418) none (.ref 140) .none), #[]⟩ := by kernel_rfl
theorem x_c10 (P : Params) : PySem.W.codeIn (HD.HK P) (.ref 140) "_law_draw" = true := by kernel_rfl
theorem x_k10 (P : Params) : PySem.W.keepIn (HD.HK P) (.ref 141) = true := by kernel_rfl
theorem x_a11 (P : Params) : PySem.W.nsIn (HD.HK P) mainGlobals "_law_names" = some (some (.ref 146)) := by kernel_rfl
theorem x_l11 (P : Params) : (HD.HK P).lookup 146 = some ⟨.type "function", none, .func (PySem.W.fnOf "_law_names" "_law_names" (defArgs s_l_names) (defBody s_l_names) (defScope s_l_names) .none .none .none (.str (HD.sx "law_everyfork_k07_lines_and_spots") 418) none (.ref 145) .none), #[]⟩ := by kernel_rfl
theorem x_c11 (P : Params) : PySem.W.codeIn (HD.HK P) (.ref 145) "_law_names" = true := by kernel_rfl
theorem x_k11 (P : Params) : PySem.W.keepIn (HD.HK P) (.ref 146) = true := by kernel_rfl
theorem x_a12 (P : Params) : PySem.W.nsIn (HD.HK P) mainGlobals "_law_records" = some (some (.ref 151)) := by kernel_rfl
theorem x_l12 (P : Params) : (HD.HK P).lookup 151 = some ⟨.type "function", none, .func (PySem.W.fnOf "_law_records" "_law_records" (defArgs s_l_records) (defBody s_l_records) (defScope s_l_records) .none .none .none (.str (HD.sx "law_everyfork_k07_lines_and_spots") 418) none (.ref 150) .none), #[]⟩ := by kernel_rfl
theorem x_c12 (P : Params) : PySem.W.codeIn (HD.HK P) (.ref 150) "_law_records" = true := by kernel_rfl
theorem x_k12 (P : Params) : PySem.W.keepIn (HD.HK P) (.ref 151) = true := by kernel_rfl
theorem x_a13 (P : Params) : PySem.W.nsIn (HD.HK P) mainGlobals "_law_kind" = some (some (.ref 156)) := by kernel_rfl
theorem x_l13 (P : Params) : (HD.HK P).lookup 156 = some ⟨.type "function", none, .func (PySem.W.fnOf "_law_kind" "_law_kind" (defArgs s_l_kind) (defBody s_l_kind) (defScope s_l_kind) .none .none .none (.str (HD.sx "law_everyfork_k07_lines_and_spots") 418) none (.ref 155) .none), #[]⟩ := by kernel_rfl
theorem x_c13 (P : Params) : PySem.W.codeIn (HD.HK P) (.ref 155) "_law_kind" = true := by kernel_rfl
theorem x_k13 (P : Params) : PySem.W.keepIn (HD.HK P) (.ref 156) = true := by kernel_rfl
theorem x_a14 (P : Params) : PySem.W.nsIn (HD.HK P) mainGlobals "_law_heads" = some (some (.ref 161)) := by kernel_rfl
theorem x_l14 (P : Params) : (HD.HK P).lookup 161 = some ⟨.type "function", none, .func (PySem.W.fnOf "_law_heads" "_law_heads" (defArgs s_l_heads) (defBody s_l_heads) (defScope s_l_heads) .none .none .none (.str (HD.sx "law_everyfork_k07_lines_and_spots") 418) none (.ref 160) .none), #[]⟩ := by kernel_rfl
theorem x_c14 (P : Params) : PySem.W.codeIn (HD.HK P) (.ref 160) "_law_heads" = true := by kernel_rfl
theorem x_k14 (P : Params) : PySem.W.keepIn (HD.HK P) (.ref 161) = true := by kernel_rfl
theorem x_a15 (P : Params) : PySem.W.nsIn (HD.HK P) mainGlobals "_law_count" = some (some (.ref 166)) := by kernel_rfl
theorem x_l15 (P : Params) : (HD.HK P).lookup 166 = some ⟨.type "function", none, .func (PySem.W.fnOf "_law_count" "_law_count" (defArgs s_l_count) (defBody s_l_count) (defScope s_l_count) .none .none .none (.str (HD.sx "law_everyfork_k07_lines_and_spots") 418) none (.ref 165) .none), #[]⟩ := by kernel_rfl
theorem x_c15 (P : Params) : PySem.W.codeIn (HD.HK P) (.ref 165) "_law_count" = true := by kernel_rfl
theorem x_k15 (P : Params) : PySem.W.keepIn (HD.HK P) (.ref 166) = true := by kernel_rfl
theorem x_a16 (P : Params) : PySem.W.nsIn (HD.HK P) mainGlobals "_law_leaf" = some (some (.ref 171)) := by kernel_rfl
theorem x_l16 (P : Params) : (HD.HK P).lookup 171 = some ⟨.type "function", none, .func (PySem.W.fnOf "_law_leaf" "_law_leaf" (defArgs s_l_leaf) (defBody s_l_leaf) (defScope s_l_leaf) .none .none .none (.str (HD.sx "law_everyfork_k07_lines_and_spots") 418) none (.ref 170) .none), #[]⟩ := by kernel_rfl
theorem x_c16 (P : Params) : PySem.W.codeIn (HD.HK P) (.ref 170) "_law_leaf" = true := by kernel_rfl
theorem x_k16 (P : Params) : PySem.W.keepIn (HD.HK P) (.ref 171) = true := by kernel_rfl
theorem x_a17 (P : Params) : PySem.W.nsIn (HD.HK P) mainGlobals "_law_num" = some (some (.ref 178)) := by kernel_rfl
theorem x_l17 (P : Params) : (HD.HK P).lookup 178 = some ⟨.type "function", none, .func (PySem.W.fnOf "_law_num" "_law_num" (defArgs s_l_num) (defBody s_l_num) (defScope s_l_num) .none .none .none (.str (HD.sx "law_everyfork_k07_lines_and_spots") 418) none (.ref 177) .none), #[]⟩ := by kernel_rfl
theorem x_c17 (P : Params) : PySem.W.codeIn (HD.HK P) (.ref 177) "_law_num" = true := by kernel_rfl
theorem x_k17 (P : Params) : PySem.W.keepIn (HD.HK P) (.ref 178) = true := by kernel_rfl
theorem x_a18 (P : Params) : PySem.W.nsIn (HD.HK P) mainGlobals "_law_row" = some (some (.ref 183)) := by kernel_rfl
theorem x_l18 (P : Params) : (HD.HK P).lookup 183 = some ⟨.type "function", none, .func (PySem.W.fnOf "_law_row" "_law_row" (defArgs s_l_row) (defBody s_l_row) (defScope s_l_row) .none .none .none (.str (HD.sx "law_everyfork_k07_lines_and_spots") 418) none (.ref 182) .none), #[]⟩ := by kernel_rfl
theorem x_c18 (P : Params) : PySem.W.codeIn (HD.HK P) (.ref 182) "_law_row" = true := by kernel_rfl
theorem x_k18 (P : Params) : PySem.W.keepIn (HD.HK P) (.ref 183) = true := by kernel_rfl
theorem x_a19 (P : Params) : PySem.W.nsIn (HD.HK P) mainGlobals "_law_e" = some (some (.ref 188)) := by kernel_rfl
theorem x_l19 (P : Params) : (HD.HK P).lookup 188 = some ⟨.type "function", none, .func (PySem.W.fnOf "_law_e" "_law_e" (defArgs s_l_e) (defBody s_l_e) (defScope s_l_e) .none .none .none (.str (HD.sx "law_everyfork_k07_lines_and_spots") 418) none (.ref 187) .none), #[]⟩ := by kernel_rfl
theorem x_c19 (P : Params) : PySem.W.codeIn (HD.HK P) (.ref 187) "_law_e" = true := by kernel_rfl
theorem x_k19 (P : Params) : PySem.W.keepIn (HD.HK P) (.ref 188) = true := by kernel_rfl
theorem x_a20 (P : Params) : PySem.W.nsIn (HD.HK P) mainGlobals "_law_bounded" = some (some (.ref 195)) := by kernel_rfl
theorem x_l20 (P : Params) : (HD.HK P).lookup 195 = some ⟨.type "function", none, .func (PySem.W.fnOf "_law_bounded" "_law_bounded" (defArgs s_l_bounded) (defBody s_l_bounded) (defScope s_l_bounded) .none .none .none (.str (HD.sx "law_everyfork_k07_lines_and_spots") 418) none (.ref 194) .none), #[]⟩ := by kernel_rfl
theorem x_c20 (P : Params) : PySem.W.codeIn (HD.HK P) (.ref 194) "_law_bounded" = true := by kernel_rfl
theorem x_k20 (P : Params) : PySem.W.keepIn (HD.HK P) (.ref 195) = true := by kernel_rfl
theorem x_a21 (P : Params) : PySem.W.nsIn (HD.HK P) mainGlobals "_law_condition" = some (some (.ref 202)) := by kernel_rfl
theorem x_l21 (P : Params) : (HD.HK P).lookup 202 = some ⟨.type "function", none, .func (PySem.W.fnOf "_law_condition" "_law_condition" (defArgs s_l_condition) (defBody s_l_condition) (defScope s_l_condition) .none .none .none (.str (HD.sx "law_everyfork_k07_lines_and_spots") 418) none (.ref 201) .none), #[]⟩ := by kernel_rfl
theorem x_c21 (P : Params) : PySem.W.codeIn (HD.HK P) (.ref 201) "_law_condition" = true := by kernel_rfl
theorem x_k21 (P : Params) : PySem.W.keepIn (HD.HK P) (.ref 202) = true := by kernel_rfl
theorem x_a22 (P : Params) : PySem.W.nsIn (HD.HK P) mainGlobals "_law_body" = some (some (.ref 209)) := by kernel_rfl
theorem x_l22 (P : Params) : (HD.HK P).lookup 209 = some ⟨.type "function", none, .func (PySem.W.fnOf "_law_body" "_law_body" (defArgs s_l_body) (defBody s_l_body) (defScope s_l_body) .none .none .none (.str (HD.sx "law_everyfork_k07_lines_and_spots") 418) none (.ref 208) .none), #[]⟩ := by kernel_rfl
theorem x_c22 (P : Params) : PySem.W.codeIn (HD.HK P) (.ref 208) "_law_body" = true := by kernel_rfl
theorem x_k22 (P : Params) : PySem.W.keepIn (HD.HK P) (.ref 209) = true := by kernel_rfl
theorem x_a23 (P : Params) : PySem.W.nsIn (HD.HK P) mainGlobals "_law_statement" = some (some (.ref 214)) := by kernel_rfl
theorem x_l23 (P : Params) : (HD.HK P).lookup 214 = some ⟨.type "function", none, .func (PySem.W.fnOf "_law_statement" "_law_statement" (defArgs s_l_statement) (defBody s_l_statement) (defScope s_l_statement) .none .none .none (.str (HD.sx "law_everyfork_k07_lines_and_spots") 418) none (.ref 213) .none), #[]⟩ := by kernel_rfl
theorem x_c23 (P : Params) : PySem.W.codeIn (HD.HK P) (.ref 213) "_law_statement" = true := by kernel_rfl
theorem x_k23 (P : Params) : PySem.W.keepIn (HD.HK P) (.ref 214) = true := by kernel_rfl
theorem x_a24 (P : Params) : PySem.W.nsIn (HD.HK P) mainGlobals "_law_kit" = some (some (.ref 221)) := by kernel_rfl
theorem x_l24 (P : Params) : (HD.HK P).lookup 221 = some ⟨.type "function", none, .func (PySem.W.fnOf "_law_kit" "_law_kit" (defArgs s_l_kit) (defBody s_l_kit) (defScope s_l_kit) .none .none .none (.str (HD.sx "law_everyfork_k07_lines_and_spots") 418) none (.ref 220) .none), #[]⟩ := by kernel_rfl
theorem x_c24 (P : Params) : PySem.W.codeIn (HD.HK P) (.ref 220) "_law_kit" = true := by kernel_rfl
theorem x_k24 (P : Params) : PySem.W.keepIn (HD.HK P) (.ref 221) = true := by kernel_rfl
theorem x_a25 (P : Params) : PySem.W.nsIn (HD.HK P) mainGlobals "_law_program" = some (some (.ref 228)) := by kernel_rfl
theorem x_l25 (P : Params) : (HD.HK P).lookup 228 = some ⟨.type "function", none, .func (PySem.W.fnOf "_law_program" "_law_program" (defArgs s_l_program) (defBody s_l_program) (defScope s_l_program) .none .none .none (.str (HD.sx "law_everyfork_k07_lines_and_spots") 418) none (.ref 227) .none), #[]⟩ := by kernel_rfl
theorem x_c25 (P : Params) : PySem.W.codeIn (HD.HK P) (.ref 227) "_law_program" = true := by kernel_rfl
theorem x_k25 (P : Params) : PySem.W.keepIn (HD.HK P) (.ref 228) = true := by kernel_rfl
theorem x_a26 (P : Params) : PySem.W.nsIn (HD.HK P) mainGlobals "_law_lines" = some (some (.ref 235)) := by kernel_rfl
theorem x_l26 (P : Params) : (HD.HK P).lookup 235 = some ⟨.type "function", none, .func (PySem.W.fnOf "_law_lines" "_law_lines" (defArgs s_l_lines) (defBody s_l_lines) (defScope s_l_lines) .none .none .none (.str (HD.sx "law_everyfork_k07_lines_and_spots") 418) none (.ref 234) .none), #[]⟩ := by kernel_rfl
theorem x_c26 (P : Params) : PySem.W.codeIn (HD.HK P) (.ref 234) "_law_lines" = true := by kernel_rfl
theorem x_k26 (P : Params) : PySem.W.keepIn (HD.HK P) (.ref 235) = true := by kernel_rfl
theorem x_a27 (P : Params) : PySem.W.nsIn (HD.HK P) mainGlobals "_law_looks_up" = some (some (.ref 242)) := by kernel_rfl
theorem x_l27 (P : Params) : (HD.HK P).lookup 242 = some ⟨.type "function", none, .func (PySem.W.fnOf "_law_looks_up" "_law_looks_up" (defArgs s_l_looks_up) (defBody s_l_looks_up) (defScope s_l_looks_up) .none .none .none (.str (HD.sx "law_everyfork_k07_lines_and_spots") 418) none (.ref 241) .none), #[]⟩ := by kernel_rfl
theorem x_c27 (P : Params) : PySem.W.codeIn (HD.HK P) (.ref 241) "_law_looks_up" = true := by kernel_rfl
theorem x_k27 (P : Params) : PySem.W.keepIn (HD.HK P) (.ref 242) = true := by kernel_rfl
theorem x_a28 (P : Params) : PySem.W.nsIn (HD.HK P) mainGlobals "_law_line_spots" = some (some (.ref 249)) := by kernel_rfl
theorem x_l28 (P : Params) : (HD.HK P).lookup 249 = some ⟨.type "function", none, .func (PySem.W.fnOf "_law_line_spots" "_law_line_spots" (defArgs s_l_line_spots) (defBody s_l_line_spots) (defScope s_l_line_spots) .none .none .none (.str (HD.sx "law_everyfork_k07_lines_and_spots") 418) none (.ref 248) .none), #[]⟩ := by kernel_rfl
theorem x_c28 (P : Params) : PySem.W.codeIn (HD.HK P) (.ref 248) "_law_line_spots" = true := by kernel_rfl
theorem x_k28 (P : Params) : PySem.W.keepIn (HD.HK P) (.ref 249) = true := by kernel_rfl
theorem x_a29 (P : Params) : PySem.W.nsIn (HD.HK P) mainGlobals "law" = some (some (.ref 256)) := by kernel_rfl
theorem x_l29 (P : Params) : (HD.HK P).lookup 256 = some ⟨.type "function", none, .func (PySem.W.fnOf "law" "law" (defArgs s_law) (defBody s_law) (defScope s_law) .none .none .none (.str (HD.sx "law_everyfork_k07_lines_and_spots") 418) none (.ref 255) .none), #[]⟩ := by kernel_rfl
theorem x_c29 (P : Params) : PySem.W.codeIn (HD.HK P) (.ref 255) "law" = true := by kernel_rfl
theorem x_k29 (P : Params) : PySem.W.keepIn (HD.HK P) (.ref 256) = true := by kernel_rfl
theorem x_z1 (P : Params) : PySem.W.nsIn (HD.HK P) mainGlobals "isinstance" = some none := by kernel_rfl
theorem x_z2 (P : Params) : PySem.W.nsIn (HD.HK P) mainGlobals "int" = some none := by kernel_rfl
theorem x_z3 (P : Params) : PySem.W.nsIn (HD.HK P) mainGlobals "bool" = some none := by kernel_rfl
theorem x_z4 (P : Params) : PySem.W.nsIn (HD.HK P) mainGlobals "str" = some none := by kernel_rfl
theorem x_z5 (P : Params) : PySem.W.nsIn (HD.HK P) mainGlobals "tuple" = some none := by kernel_rfl
theorem x_z6 (P : Params) : PySem.W.nsIn (HD.HK P) mainGlobals "list" = some none := by kernel_rfl
theorem x_z7 (P : Params) : PySem.W.nsIn (HD.HK P) mainGlobals "dict" = some none := by kernel_rfl
theorem x_z8 (P : Params) : PySem.W.nsIn (HD.HK P) mainGlobals "all" = some none := by kernel_rfl
theorem x_z9 (P : Params) : PySem.W.nsIn (HD.HK P) mainGlobals "ord" = some none := by kernel_rfl
theorem x_z10 (P : Params) : PySem.W.nsIn (HD.HK P) mainGlobals "len" = some none := by kernel_rfl
theorem x_z11 (P : Params) : PySem.W.nsIn (HD.HK P) mainGlobals "repr" = some none := by kernel_rfl
theorem x_z12 (P : Params) : PySem.W.nsIn (HD.HK P) mainGlobals "range" = some none := by kernel_rfl
theorem x_zr (P : Params) : PySem.W.nsIn (HD.HK P) 3 "reversed" = some none := by kernel_rfl
theorem x_ze (P : Params) : PySem.W.nsIn (HD.HK P) 3 "enumerate" = some none := by kernel_rfl
theorem x_aS_ (P : Params) : PySem.W.nsIn (HD.HK P) 3 "SHAPES" = some (some (.ref 15)) := by kernel_rfl
theorem x_lS (P : Params) : (HD.HK P).lookup 15 = some ⟨.type "dict", none, .dict #[HD.de P (HD.sx "let") 189 (.ref 17), HD.de P (HD.sx "say") 194 (.ref 19), HD.de P (HD.sx "if") 199 (.ref 21), HD.de P (HD.sx "while") 204 (.ref 23), HD.de P (HD.sx "call") 209 (.ref 25), HD.de P (HD.sx "give") 213 (.ref 27), HD.de P (HD.sx "num") 218 (.ref 29), HD.de P (HD.sx "text") 222 (.ref 31), HD.de P (HD.sx "var") 226 (.ref 33), HD.de P (HD.sx "of") 230 (.ref 35), HD.de P (HD.sx "with") 235 (.ref 37), HD.de P (HD.sx "new") 241 (.ref 39), HD.de P (HD.sx "add") 245 (.ref 41), HD.de P (HD.sx "sub") 251 (.ref 43), HD.de P (HD.sx "times") 257 (.ref 45), HD.de P (HD.sx "div") 262 (.ref 47), HD.de P (HD.sx "rest") 267 (.ref 49), HD.de P (HD.sx "len") 272 (.ref 52), HD.de P (HD.sx "at") 276 (.ref 54), HD.de P (HD.sx "rows") 281 (.ref 56), HD.de P (HD.sx "put") 284 (.ref 58), HD.de P (HD.sx "more") 290 (.ref 60), HD.de P (HD.sx "signs") 295 (.ref 62), HD.de P (HD.sx "less") 299 (.ref 64), HD.de P (HD.sx "same") 304 (.ref 66), HD.de P (HD.sx "and") 309 (.ref 68), HD.de P (HD.sx "or") 314 (.ref 70), HD.de P (HD.sx "not") 319 (.ref 72)] 28, #[]⟩ := by kernel_rfl
theorem x_kS (P : Params) : PySem.W.KeysLit P (#[HD.de P (HD.sx "let") 189 (.ref 17), HD.de P (HD.sx "say") 194 (.ref 19), HD.de P (HD.sx "if") 199 (.ref 21), HD.de P (HD.sx "while") 204 (.ref 23), HD.de P (HD.sx "call") 209 (.ref 25), HD.de P (HD.sx "give") 213 (.ref 27), HD.de P (HD.sx "num") 218 (.ref 29), HD.de P (HD.sx "text") 222 (.ref 31), HD.de P (HD.sx "var") 226 (.ref 33), HD.de P (HD.sx "of") 230 (.ref 35), HD.de P (HD.sx "with") 235 (.ref 37), HD.de P (HD.sx "new") 241 (.ref 39), HD.de P (HD.sx "add") 245 (.ref 41), HD.de P (HD.sx "sub") 251 (.ref 43), HD.de P (HD.sx "times") 257 (.ref 45), HD.de P (HD.sx "div") 262 (.ref 47), HD.de P (HD.sx "rest") 267 (.ref 49), HD.de P (HD.sx "len") 272 (.ref 52), HD.de P (HD.sx "at") 276 (.ref 54), HD.de P (HD.sx "rows") 281 (.ref 56), HD.de P (HD.sx "put") 284 (.ref 58), HD.de P (HD.sx "more") 290 (.ref 60), HD.de P (HD.sx "signs") 295 (.ref 62), HD.de P (HD.sx "less") 299 (.ref 64), HD.de P (HD.sx "same") 304 (.ref 66), HD.de P (HD.sx "and") 309 (.ref 68), HD.de P (HD.sx "or") 314 (.ref 70), HD.de P (HD.sx "not") 319 (.ref 72)]).toList := by k_keys
theorem x_oS (P : Params) : ((15 : Addr) == sysModules) = false := by decide
theorem x_aL_ (P : Params) : PySem.W.nsIn (HD.HK P) 3 "LISTED" = some (some (.ref 73)) := by kernel_rfl
theorem x_lL (P : Params) : (HD.HK P).lookup 73 = some ⟨.type "dict", none, .dict #[HD.de P (HD.sx "call") 335 (.int 3 336), HD.de P (HD.sx "new") 337 (.int 2 338), HD.de P (HD.sx "rows") 339 (.int 1 340)] 3, #[]⟩ := by kernel_rfl
theorem x_kL (P : Params) : PySem.W.KeysLit P (#[HD.de P (HD.sx "call") 335 (.int 3 336), HD.de P (HD.sx "new") 337 (.int 2 338), HD.de P (HD.sx "rows") 339 (.int 1 340)]).toList := by k_keys
theorem x_oL (P : Params) : ((73 : Addr) == sysModules) = false := by decide
theorem x_sa0 (P : Params) : PySem.W.nsIn (HD.HK P) 15 "num" = some (some (.ref 29)) := by kernel_rfl
theorem x_sb0 (P : Params) : (HD.HK P).lookup 29 = some ⟨.type "tuple", none, .seq #[.str (HD.sx "expression") 219, .int 2 220, .ref 28] 0, #[]⟩ := by kernel_rfl
theorem x_sc0 (P : Params) : (HD.HK P).lookup 28 = some ⟨.type "tuple", none, .seq #[] 0, #[]⟩ := by kernel_rfl
theorem x_sa1 (P : Params) : PySem.W.nsIn (HD.HK P) 15 "text" = some (some (.ref 31)) := by kernel_rfl
theorem x_sb1 (P : Params) : (HD.HK P).lookup 31 = some ⟨.type "tuple", none, .seq #[.str (HD.sx "expression") 223, .int 2 224, .ref 30] 0, #[]⟩ := by kernel_rfl
theorem x_sc1 (P : Params) : (HD.HK P).lookup 30 = some ⟨.type "tuple", none, .seq #[] 0, #[]⟩ := by kernel_rfl
theorem x_sa2 (P : Params) : PySem.W.nsIn (HD.HK P) 15 "var" = some (some (.ref 33)) := by kernel_rfl
theorem x_sb2 (P : Params) : (HD.HK P).lookup 33 = some ⟨.type "tuple", none, .seq #[.str (HD.sx "expression") 227, .int 2 228, .ref 32] 0, #[]⟩ := by kernel_rfl
theorem x_sc2 (P : Params) : (HD.HK P).lookup 32 = some ⟨.type "tuple", none, .seq #[] 0, #[]⟩ := by kernel_rfl
theorem x_sa3 (P : Params) : PySem.W.nsIn (HD.HK P) 15 "of" = some (some (.ref 35)) := by kernel_rfl
theorem x_sb3 (P : Params) : (HD.HK P).lookup 35 = some ⟨.type "tuple", none, .seq #[.str (HD.sx "expression") 231, .int 3 232, .ref 34] 0, #[]⟩ := by kernel_rfl
theorem x_sc3 (P : Params) : (HD.HK P).lookup 34 = some ⟨.type "tuple", none, .seq #[.int 1 233] 0, #[]⟩ := by kernel_rfl
theorem x_sa4 (P : Params) : PySem.W.nsIn (HD.HK P) 15 "with" = some (some (.ref 37)) := by kernel_rfl
theorem x_sb4 (P : Params) : (HD.HK P).lookup 37 = some ⟨.type "tuple", none, .seq #[.str (HD.sx "expression") 236, .int 4 237, .ref 36] 0, #[]⟩ := by kernel_rfl
theorem x_sc4 (P : Params) : (HD.HK P).lookup 36 = some ⟨.type "tuple", none, .seq #[.int 1 238, .int 3 239] 0, #[]⟩ := by kernel_rfl
theorem x_sa5 (P : Params) : PySem.W.nsIn (HD.HK P) 15 "add" = some (some (.ref 41)) := by kernel_rfl
theorem x_sb5 (P : Params) : (HD.HK P).lookup 41 = some ⟨.type "tuple", none, .seq #[.str (HD.sx "expression") 246, .int 3 247, .ref 40] 0, #[]⟩ := by kernel_rfl
theorem x_sc5 (P : Params) : (HD.HK P).lookup 40 = some ⟨.type "tuple", none, .seq #[.int 1 248, .int 2 249] 0, #[]⟩ := by kernel_rfl
theorem x_sa6 (P : Params) : PySem.W.nsIn (HD.HK P) 15 "sub" = some (some (.ref 43)) := by kernel_rfl
theorem x_sb6 (P : Params) : (HD.HK P).lookup 43 = some ⟨.type "tuple", none, .seq #[.str (HD.sx "expression") 252, .int 3 253, .ref 42] 0, #[]⟩ := by kernel_rfl
theorem x_sc6 (P : Params) : (HD.HK P).lookup 42 = some ⟨.type "tuple", none, .seq #[.int 1 254, .int 2 255] 0, #[]⟩ := by kernel_rfl
theorem x_sa7 (P : Params) : PySem.W.nsIn (HD.HK P) 15 "times" = some (some (.ref 45)) := by kernel_rfl
theorem x_sb7 (P : Params) : (HD.HK P).lookup 45 = some ⟨.type "tuple", none, .seq #[.str (HD.sx "expression") 258, .int 3 259, .ref 44] 0, #[]⟩ := by kernel_rfl
theorem x_sc7 (P : Params) : (HD.HK P).lookup 44 = some ⟨.type "tuple", none, .seq #[.int 2 260] 0, #[]⟩ := by kernel_rfl
theorem x_sa8 (P : Params) : PySem.W.nsIn (HD.HK P) 15 "div" = some (some (.ref 47)) := by kernel_rfl
theorem x_sb8 (P : Params) : (HD.HK P).lookup 47 = some ⟨.type "tuple", none, .seq #[.str (HD.sx "expression") 263, .int 3 264, .ref 46] 0, #[]⟩ := by kernel_rfl
theorem x_sc8 (P : Params) : (HD.HK P).lookup 46 = some ⟨.type "tuple", none, .seq #[.int 1 265] 0, #[]⟩ := by kernel_rfl
theorem x_sa9 (P : Params) : PySem.W.nsIn (HD.HK P) 15 "rest" = some (some (.ref 49)) := by kernel_rfl
theorem x_sb9 (P : Params) : (HD.HK P).lookup 49 = some ⟨.type "tuple", none, .seq #[.str (HD.sx "expression") 268, .int 3 269, .ref 48] 0, #[]⟩ := by kernel_rfl
theorem x_sc9 (P : Params) : (HD.HK P).lookup 48 = some ⟨.type "tuple", none, .seq #[.int 1 270] 0, #[]⟩ := by kernel_rfl
theorem x_sa10 (P : Params) : PySem.W.nsIn (HD.HK P) 15 "len" = some (some (.ref 52)) := by kernel_rfl
theorem x_sb10 (P : Params) : (HD.HK P).lookup 52 = some ⟨.type "tuple", none, .seq #[.str (HD.sx "expression") 273, .int 2 274, .ref 51] 0, #[]⟩ := by kernel_rfl
theorem x_sc10 (P : Params) : (HD.HK P).lookup 51 = some ⟨.type "tuple", none, .seq #[.int 1 275] 0, #[]⟩ := by kernel_rfl
theorem x_sa11 (P : Params) : PySem.W.nsIn (HD.HK P) 15 "at" = some (some (.ref 54)) := by kernel_rfl
theorem x_sb11 (P : Params) : (HD.HK P).lookup 54 = some ⟨.type "tuple", none, .seq #[.str (HD.sx "expression") 277, .int 3 278, .ref 53] 0, #[]⟩ := by kernel_rfl
theorem x_sc11 (P : Params) : (HD.HK P).lookup 53 = some ⟨.type "tuple", none, .seq #[.int 1 279, .int 2 280] 0, #[]⟩ := by kernel_rfl
theorem x_sa12 (P : Params) : PySem.W.nsIn (HD.HK P) 15 "put" = some (some (.ref 58)) := by kernel_rfl
theorem x_sb12 (P : Params) : (HD.HK P).lookup 58 = some ⟨.type "tuple", none, .seq #[.str (HD.sx "expression") 285, .int 4 286, .ref 57] 0, #[]⟩ := by kernel_rfl
theorem x_sc12 (P : Params) : (HD.HK P).lookup 57 = some ⟨.type "tuple", none, .seq #[.int 1 287, .int 2 288, .int 3 289] 0, #[]⟩ := by kernel_rfl
theorem x_sa13 (P : Params) : PySem.W.nsIn (HD.HK P) 15 "more" = some (some (.ref 60)) := by kernel_rfl
theorem x_sb13 (P : Params) : (HD.HK P).lookup 60 = some ⟨.type "tuple", none, .seq #[.str (HD.sx "expression") 291, .int 3 292, .ref 59] 0, #[]⟩ := by kernel_rfl
theorem x_sc13 (P : Params) : (HD.HK P).lookup 59 = some ⟨.type "tuple", none, .seq #[.int 1 293, .int 2 294] 0, #[]⟩ := by kernel_rfl
theorem x_sa14 (P : Params) : PySem.W.nsIn (HD.HK P) 15 "signs" = some (some (.ref 62)) := by kernel_rfl
theorem x_sb14 (P : Params) : (HD.HK P).lookup 62 = some ⟨.type "tuple", none, .seq #[.str (HD.sx "expression") 296, .int 2 297, .ref 61] 0, #[]⟩ := by kernel_rfl
theorem x_sc14 (P : Params) : (HD.HK P).lookup 61 = some ⟨.type "tuple", none, .seq #[.int 1 298] 0, #[]⟩ := by kernel_rfl
theorem x_sa15 (P : Params) : PySem.W.nsIn (HD.HK P) 15 "let" = some (some (.ref 17)) := by kernel_rfl
theorem x_sb15 (P : Params) : (HD.HK P).lookup 17 = some ⟨.type "tuple", none, .seq #[.str (HD.sx "statement") 190, .int 3 191, .ref 16] 0, #[]⟩ := by kernel_rfl
theorem x_sc15 (P : Params) : (HD.HK P).lookup 16 = some ⟨.type "tuple", none, .seq #[.int 2 192] 0, #[]⟩ := by kernel_rfl
theorem x_sa16 (P : Params) : PySem.W.nsIn (HD.HK P) 15 "give" = some (some (.ref 27)) := by kernel_rfl
theorem x_sb16 (P : Params) : (HD.HK P).lookup 27 = some ⟨.type "tuple", none, .seq #[.str (HD.sx "statement") 214, .int 2 215, .ref 26] 0, #[]⟩ := by kernel_rfl
theorem x_sc16 (P : Params) : (HD.HK P).lookup 26 = some ⟨.type "tuple", none, .seq #[.int 1 216] 0, #[]⟩ := by kernel_rfl
theorem x_li0 (P : Params) : PySem.W.nsIn (HD.HK P) 73 "call" = some (some (.int 3 336)) := by kernel_rfl
theorem x_li1 (P : Params) : PySem.W.nsIn (HD.HK P) 73 "new" = some (some (.int 2 338)) := by kernel_rfl
theorem x_li2 (P : Params) : PySem.W.nsIn (HD.HK P) 73 "rows" = some (some (.int 1 340)) := by kernel_rfl
theorem x_lz0 (P : Params) : PySem.W.nsIn (HD.HK P) 73 "num" = some none := by kernel_rfl
theorem x_lz1 (P : Params) : PySem.W.nsIn (HD.HK P) 73 "text" = some none := by kernel_rfl
theorem x_lz2 (P : Params) : PySem.W.nsIn (HD.HK P) 73 "var" = some none := by kernel_rfl
theorem x_lz3 (P : Params) : PySem.W.nsIn (HD.HK P) 73 "of" = some none := by kernel_rfl
theorem x_lz4 (P : Params) : PySem.W.nsIn (HD.HK P) 73 "with" = some none := by kernel_rfl
theorem x_lz5 (P : Params) : PySem.W.nsIn (HD.HK P) 73 "add" = some none := by kernel_rfl
theorem x_lz6 (P : Params) : PySem.W.nsIn (HD.HK P) 73 "sub" = some none := by kernel_rfl
theorem x_lz7 (P : Params) : PySem.W.nsIn (HD.HK P) 73 "times" = some none := by kernel_rfl
theorem x_lz8 (P : Params) : PySem.W.nsIn (HD.HK P) 73 "div" = some none := by kernel_rfl
theorem x_lz9 (P : Params) : PySem.W.nsIn (HD.HK P) 73 "rest" = some none := by kernel_rfl
theorem x_lz10 (P : Params) : PySem.W.nsIn (HD.HK P) 73 "len" = some none := by kernel_rfl
theorem x_lz11 (P : Params) : PySem.W.nsIn (HD.HK P) 73 "at" = some none := by kernel_rfl
theorem x_lz12 (P : Params) : PySem.W.nsIn (HD.HK P) 73 "put" = some none := by kernel_rfl
theorem x_lz13 (P : Params) : PySem.W.nsIn (HD.HK P) 73 "more" = some none := by kernel_rfl
theorem x_lz14 (P : Params) : PySem.W.nsIn (HD.HK P) 73 "signs" = some none := by kernel_rfl
theorem x_lz15 (P : Params) : PySem.W.nsIn (HD.HK P) 73 "let" = some none := by kernel_rfl
theorem x_lz16 (P : Params) : PySem.W.nsIn (HD.HK P) 73 "give" = some none := by kernel_rfl
theorem all_mk {l : PySem.W.OpenLaw} {w : World} {h : Heap} {mg : Str → Option Value} {fa : Addr} (X : (HD.HK w.params).In h) (G0 : h.Ns mainGlobals mg) (hfa : mg "law" = some (.ref fa)) :
    ∃ fd : FuncData, (∀ (s : Shared) (v : Value), BindsTo s fd ⟨[v], []⟩ [("_law_script", v)]) ∧ ∀ base : Heap, (HD.HK w.params).In base → base.Ns mainGlobals mg → FnOk l.prog w (HD.HK w.params) mg base CX0 30 fa fd ["_law_script"] (spLaw (HD.HK w.params)) := by
  have e := hfa.symm.trans (PySem.W.mg_of X G0 (x_a29 _))
  cases e
  have F1 := fun_mk (st := s_inner_of) (x_l1 w.params) (x_c1 _) (x_k1 _)
  have b1 := F1.binds (ps := ["shaped"]) fun _ _ _ _ _ _ us hl => match us, hl with | [_], _ => rfl
  have m1 := PySem.W.mg_of X G0 (x_a1 _)
  have F2 := fun_mk (st := s_may_break) (x_l2 w.params) (x_c2 _) (x_k2 _)
  have b2 := F2.binds (ps := ["shaped"]) fun _ _ _ _ _ _ us hl => match us, hl with | [_], _ => rfl
  have m2 := PySem.W.mg_of X G0 (x_a2 _)
  have F3 := fun_mk (st := s_bodies_of) (x_l3 w.params) (x_c3 _) (x_k3 _)
  have b3 := F3.binds (ps := ["statement"]) fun _ _ _ _ _ _ us hl => match us, hl with | [_], _ => rfl
  have m3 := PySem.W.mg_of X G0 (x_a3 _)
  have F4 := fun_mk (st := s_lines_in) (x_l4 w.params) (x_c4 _) (x_k4 _)
  have b4 := F4.binds (ps := ["body"]) fun _ _ _ _ _ _ us hl => match us, hl with | [_], _ => rfl
  have m4 := PySem.W.mg_of X G0 (x_a4 _)
  have F5 := fun_mk (st := s_lines_of) (x_l5 w.params) (x_c5 _) (x_k5 _)
  have b5 := F5.binds (ps := ["function"]) fun _ _ _ _ _ _ us hl => match us, hl with | [_], _ => rfl
  have m5 := PySem.W.mg_of X G0 (x_a5 _)
  have F6 := fun_mk (st := s_within) (x_l6 w.params) (x_c6 _) (x_k6 _)
  have b6 := F6.binds (ps := ["statement"]) fun _ _ _ _ _ _ us hl => match us, hl with | [_], _ => rfl
  have m6 := PySem.W.mg_of X G0 (x_a6 _)
  have F7 := fun_mk (st := s_spots_of_line) (x_l7 w.params) (x_c7 _) (x_k7 _)
  have b7 := F7.binds (ps := ["f", "k", "statement"]) fun _ _ _ _ _ _ us hl => match us, hl with | [_, _, _], _ => rfl
  have m7 := PySem.W.mg_of X G0 (x_a7 _)
  have F8 := fun_mk (st := s_spots_of) (x_l8 w.params) (x_c8 _) (x_k8 _)
  have b8 := F8.binds (ps := ["program"]) fun _ _ _ _ _ _ us hl => match us, hl with | [_], _ => rfl
  have m8 := PySem.W.mg_of X G0 (x_a8 _)
  have F9 := fun_mk (st := s_l_tape) (x_l9 w.params) (x_c9 _) (x_k9 _)
  have b9 := F9.binds (ps := ["_law_script"]) fun _ _ _ _ _ _ us hl => match us, hl with | [_], _ => rfl
  have m9 := PySem.W.mg_of X G0 (x_a9 _)
  have F10 := fun_mk (st := s_l_draw) (x_l10 w.params) (x_c10 _) (x_k10 _)
  have b10 := F10.binds (ps := ["_law_tape_here", "_law_many"]) fun _ _ _ _ _ _ us hl => match us, hl with | [_, _], _ => rfl
  have m10 := PySem.W.mg_of X G0 (x_a10 _)
  have F11 := fun_mk (st := s_l_names) (x_l11 w.params) (x_c11 _) (x_k11 _)
  have b11 := F11.binds (ps := ["_law_tape_here", "_law_many"]) fun _ _ _ _ _ _ us hl => match us, hl with | [_, _], _ => rfl
  have m11 := PySem.W.mg_of X G0 (x_a11 _)
  have F12 := fun_mk (st := s_l_records) (x_l12 w.params) (x_c12 _) (x_k12 _)
  have b12 := F12.binds (ps := ["_law_tape_here"]) fun _ _ _ _ _ _ us hl => match us, hl with | [_], _ => rfl
  have m12 := PySem.W.mg_of X G0 (x_a12 _)
  have F13 := fun_mk (st := s_l_kind) (x_l13 w.params) (x_c13 _) (x_k13 _)
  have b13 := F13.binds (ps := ["_law_tape_here", "_law_records_here"]) fun _ _ _ _ _ _ us hl => match us, hl with | [_, _], _ => rfl
  have m13 := PySem.W.mg_of X G0 (x_a13 _)
  have F14 := fun_mk (st := s_l_heads) (x_l14 w.params) (x_c14 _) (x_k14 _)
  have b14 := F14.binds (ps := ["_law_tape_here", "_law_records_here"]) fun _ _ _ _ _ _ us hl => match us, hl with | [_, _], _ => rfl
  have m14 := PySem.W.mg_of X G0 (x_a14 _)
  have F15 := fun_mk (st := s_l_count) (x_l15 w.params) (x_c15 _) (x_k15 _)
  have b15 := F15.binds (ps := ["_law_e_here"]) fun _ _ _ _ _ _ us hl => match us, hl with | [_], _ => rfl
  have m15 := PySem.W.mg_of X G0 (x_a15 _)
  have F16 := fun_mk (st := s_l_leaf) (x_l16 w.params) (x_c16 _) (x_k16 _)
  have b16 := F16.binds (ps := ["_law_tape_here", "_law_kit_here", "_law_kind_here"]) fun _ _ _ _ _ _ us hl => match us, hl with | [_, _, _], _ => rfl
  have m16 := PySem.W.mg_of X G0 (x_a16 _)
  have F17 := fun_mk (st := s_l_num) (x_l17 w.params) (x_c17 _) (x_k17 _)
  have b17 := F17.binds (ps := ["_law_tape_here", "_law_kit_here", "_law_deep"]) fun _ _ _ _ _ _ us hl => match us, hl with | [_, _, _], _ => rfl
  have m17 := PySem.W.mg_of X G0 (x_a17 _)
  have F18 := fun_mk (st := s_l_row) (x_l18 w.params) (x_c18 _) (x_k18 _)
  have b18 := F18.binds (ps := ["_law_tape_here", "_law_kit_here", "_law_deep"]) fun _ _ _ _ _ _ us hl => match us, hl with | [_, _, _], _ => rfl
  have m18 := PySem.W.mg_of X G0 (x_a18 _)
  have F19 := fun_mk (st := s_l_e) (x_l19 w.params) (x_c19 _) (x_k19 _)
  have b19 := F19.binds (ps := ["_law_tape_here", "_law_kit_here", "_law_kind_here", "_law_deep"]) fun _ _ _ _ _ _ us hl => match us, hl with | [_, _, _, _], _ => rfl
  have m19 := PySem.W.mg_of X G0 (x_a19 _)
  have F20 := fun_mk (st := s_l_bounded) (x_l20 w.params) (x_c20 _) (x_k20 _)
  have b20 := F20.binds (ps := ["_law_tape_here", "_law_kit_here", "_law_kind_here", "_law_reach"]) fun _ _ _ _ _ _ us hl => match us, hl with | [_, _, _, _], _ => rfl
  have m20 := PySem.W.mg_of X G0 (x_a20 _)
  have F21 := fun_mk (st := s_l_condition) (x_l21 w.params) (x_c21 _) (x_k21 _)
  have b21 := F21.binds (ps := ["_law_tape_here", "_law_kit_here", "_law_deep"]) fun _ _ _ _ _ _ us hl => match us, hl with | [_, _, _], _ => rfl
  have m21 := PySem.W.mg_of X G0 (x_a21 _)
  have F22 := fun_mk (st := s_l_body) (x_l22 w.params) (x_c22 _) (x_k22 _)
  have b22 := F22.binds (ps := ["_law_tape_here", "_law_kit_here", "_law_deep"]) fun _ _ _ _ _ _ us hl => match us, hl with | [_, _, _], _ => rfl
  have m22 := PySem.W.mg_of X G0 (x_a22 _)
  have F23 := fun_mk (st := s_l_statement) (x_l23 w.params) (x_c23 _) (x_k23 _)
  have b23 := F23.binds (ps := ["_law_tape_here", "_law_kit_here", "_law_deep"]) fun _ _ _ _ _ _ us hl => match us, hl with | [_, _, _], _ => rfl
  have m23 := PySem.W.mg_of X G0 (x_a23 _)
  have F24 := fun_mk (st := s_l_kit) (x_l24 w.params) (x_c24 _) (x_k24 _)
  have b24 := F24.binds (ps := ["_law_records_here", "_law_heads_here", "_law_f"]) fun _ _ _ _ _ _ us hl => match us, hl with | [_, _, _], _ => rfl
  have m24 := PySem.W.mg_of X G0 (x_a24 _)
  have F25 := fun_mk (st := s_l_program) (x_l25 w.params) (x_c25 _) (x_k25 _)
  have b25 := F25.binds (ps := ["_law_tape_here"]) fun _ _ _ _ _ _ us hl => match us, hl with | [_], _ => rfl
  have m25 := PySem.W.mg_of X G0 (x_a25 _)
  have F26 := fun_mk (st := s_l_lines) (x_l26 w.params) (x_c26 _) (x_k26 _)
  have b26 := F26.binds (ps := ["_law_body_here"]) fun _ _ _ _ _ _ us hl => match us, hl with | [_], _ => rfl
  have m26 := PySem.W.mg_of X G0 (x_a26 _)
  have F27 := fun_mk (st := s_l_looks_up) (x_l27 w.params) (x_c27 _) (x_k27 _)
  have b27 := F27.binds (ps := ["_law_thing"]) fun _ _ _ _ _ _ us hl => match us, hl with | [_], _ => rfl
  have m27 := PySem.W.mg_of X G0 (x_a27 _)
  have F28 := fun_mk (st := s_l_line_spots) (x_l28 w.params) (x_c28 _) (x_k28 _)
  have b28 := F28.binds (ps := ["_law_name", "_law_k", "_law_line"]) fun _ _ _ _ _ _ us hl => match us, hl with | [_, _, _], _ => rfl
  have m28 := PySem.W.mg_of X G0 (x_a28 _)
  have F29 := fun_mk (st := s_law) (x_l29 w.params) (x_c29 _) (x_k29 _)
  have b29 := F29.binds (ps := ["_law_script"]) fun _ _ _ _ _ _ us hl => match us, hl with | [_], _ => rfl
  have m29 := PySem.W.mg_of X G0 (x_a29 _)
  have T : K6.G0 mg := ⟨PySem.W.mg_none_of X G0 (x_z1 _), PySem.W.mg_none_of X G0 (x_z2 _), PySem.W.mg_none_of X G0 (x_z3 _), PySem.W.mg_none_of X G0 (x_z4 _), PySem.W.mg_none_of X G0 (x_z5 _), PySem.W.mg_none_of X G0 (x_z6 _), PySem.W.mg_none_of X G0 (x_z7 _), PySem.W.mg_none_of X G0 (x_z8 _), PySem.W.mg_none_of X G0 (x_z9 _), PySem.W.mg_none_of X G0 (x_z10 _), PySem.W.mg_none_of X G0 (x_z11 _), PySem.W.mg_none_of X G0 (x_z12 _)⟩
  refine ⟨PySem.W.fnOf "law" "law" (defArgs s_law) (defBody s_law) (defScope s_law) .none .none .none (.str (HD.sx "law_everyfork_k07_lines_and_spots") 418) none (.ref 255) .none, fun s v => .of_eq rfl, fun base _ _ => ?_⟩
  have hSh : ∀ p ∈ SHT7, ∃ a b s n, PySem.W.nsIn (HD.HK w.params) 15 p.1 = some (some (.ref a)) ∧ (∀ H, SqT (HD.HK w.params) H a [.str s, .int n, .ref b]) ∧ ∀ H, SqT (HD.HK w.params) H b (p.2.map V.int) := fun p hp => by
    simp only [SHT7, List.mem_cons, List.not_mem_nil, or_false] at hp
    rcases hp with rfl | rfl | rfl | rfl | rfl | rfl | rfl | rfl | rfl | rfl | rfl | rfl | rfl | rfl | rfl | rfl | rfl
    · exact ⟨29, 28, _, _, (x_sa0 w.params), fun H => .inr ⟨_, _, 0, (x_sb0 w.params), rfl, rfl, (by show 3 ≤ sizeLine; decide), (.cons ⟨_, rfl⟩ (.cons ⟨_, rfl⟩ (.cons rfl .nil)))⟩, fun H => .inr ⟨_, _, 0, (x_sc0 w.params), rfl, rfl, (by show 0 ≤ sizeLine; decide), .nil⟩⟩
    · exact ⟨31, 30, _, _, (x_sa1 w.params), fun H => .inr ⟨_, _, 0, (x_sb1 w.params), rfl, rfl, (by show 3 ≤ sizeLine; decide), (.cons ⟨_, rfl⟩ (.cons ⟨_, rfl⟩ (.cons rfl .nil)))⟩, fun H => .inr ⟨_, _, 0, (x_sc1 w.params), rfl, rfl, (by show 0 ≤ sizeLine; decide), .nil⟩⟩
    · exact ⟨33, 32, _, _, (x_sa2 w.params), fun H => .inr ⟨_, _, 0, (x_sb2 w.params), rfl, rfl, (by show 3 ≤ sizeLine; decide), (.cons ⟨_, rfl⟩ (.cons ⟨_, rfl⟩ (.cons rfl .nil)))⟩, fun H => .inr ⟨_, _, 0, (x_sc2 w.params), rfl, rfl, (by show 0 ≤ sizeLine; decide), .nil⟩⟩
    · exact ⟨35, 34, _, _, (x_sa3 w.params), fun H => .inr ⟨_, _, 0, (x_sb3 w.params), rfl, rfl, (by show 3 ≤ sizeLine; decide), (.cons ⟨_, rfl⟩ (.cons ⟨_, rfl⟩ (.cons rfl .nil)))⟩, fun H => .inr ⟨_, _, 0, (x_sc3 w.params), rfl, rfl, (by show 1 ≤ sizeLine; decide), (.cons ⟨_, rfl⟩ .nil)⟩⟩
    · exact ⟨37, 36, _, _, (x_sa4 w.params), fun H => .inr ⟨_, _, 0, (x_sb4 w.params), rfl, rfl, (by show 3 ≤ sizeLine; decide), (.cons ⟨_, rfl⟩ (.cons ⟨_, rfl⟩ (.cons rfl .nil)))⟩, fun H => .inr ⟨_, _, 0, (x_sc4 w.params), rfl, rfl, (by show 2 ≤ sizeLine; decide), (.cons ⟨_, rfl⟩ (.cons ⟨_, rfl⟩ .nil))⟩⟩
    · exact ⟨41, 40, _, _, (x_sa5 w.params), fun H => .inr ⟨_, _, 0, (x_sb5 w.params), rfl, rfl, (by show 3 ≤ sizeLine; decide), (.cons ⟨_, rfl⟩ (.cons ⟨_, rfl⟩ (.cons rfl .nil)))⟩, fun H => .inr ⟨_, _, 0, (x_sc5 w.params), rfl, rfl, (by show 2 ≤ sizeLine; decide), (.cons ⟨_, rfl⟩ (.cons ⟨_, rfl⟩ .nil))⟩⟩
    · exact ⟨43, 42, _, _, (x_sa6 w.params), fun H => .inr ⟨_, _, 0, (x_sb6 w.params), rfl, rfl, (by show 3 ≤ sizeLine; decide), (.cons ⟨_, rfl⟩ (.cons ⟨_, rfl⟩ (.cons rfl .nil)))⟩, fun H => .inr ⟨_, _, 0, (x_sc6 w.params), rfl, rfl, (by show 2 ≤ sizeLine; decide), (.cons ⟨_, rfl⟩ (.cons ⟨_, rfl⟩ .nil))⟩⟩
    · exact ⟨45, 44, _, _, (x_sa7 w.params), fun H => .inr ⟨_, _, 0, (x_sb7 w.params), rfl, rfl, (by show 3 ≤ sizeLine; decide), (.cons ⟨_, rfl⟩ (.cons ⟨_, rfl⟩ (.cons rfl .nil)))⟩, fun H => .inr ⟨_, _, 0, (x_sc7 w.params), rfl, rfl, (by show 1 ≤ sizeLine; decide), (.cons ⟨_, rfl⟩ .nil)⟩⟩
    · exact ⟨47, 46, _, _, (x_sa8 w.params), fun H => .inr ⟨_, _, 0, (x_sb8 w.params), rfl, rfl, (by show 3 ≤ sizeLine; decide), (.cons ⟨_, rfl⟩ (.cons ⟨_, rfl⟩ (.cons rfl .nil)))⟩, fun H => .inr ⟨_, _, 0, (x_sc8 w.params), rfl, rfl, (by show 1 ≤ sizeLine; decide), (.cons ⟨_, rfl⟩ .nil)⟩⟩
    · exact ⟨49, 48, _, _, (x_sa9 w.params), fun H => .inr ⟨_, _, 0, (x_sb9 w.params), rfl, rfl, (by show 3 ≤ sizeLine; decide), (.cons ⟨_, rfl⟩ (.cons ⟨_, rfl⟩ (.cons rfl .nil)))⟩, fun H => .inr ⟨_, _, 0, (x_sc9 w.params), rfl, rfl, (by show 1 ≤ sizeLine; decide), (.cons ⟨_, rfl⟩ .nil)⟩⟩
    · exact ⟨52, 51, _, _, (x_sa10 w.params), fun H => .inr ⟨_, _, 0, (x_sb10 w.params), rfl, rfl, (by show 3 ≤ sizeLine; decide), (.cons ⟨_, rfl⟩ (.cons ⟨_, rfl⟩ (.cons rfl .nil)))⟩, fun H => .inr ⟨_, _, 0, (x_sc10 w.params), rfl, rfl, (by show 1 ≤ sizeLine; decide), (.cons ⟨_, rfl⟩ .nil)⟩⟩
    · exact ⟨54, 53, _, _, (x_sa11 w.params), fun H => .inr ⟨_, _, 0, (x_sb11 w.params), rfl, rfl, (by show 3 ≤ sizeLine; decide), (.cons ⟨_, rfl⟩ (.cons ⟨_, rfl⟩ (.cons rfl .nil)))⟩, fun H => .inr ⟨_, _, 0, (x_sc11 w.params), rfl, rfl, (by show 2 ≤ sizeLine; decide), (.cons ⟨_, rfl⟩ (.cons ⟨_, rfl⟩ .nil))⟩⟩
    · exact ⟨58, 57, _, _, (x_sa12 w.params), fun H => .inr ⟨_, _, 0, (x_sb12 w.params), rfl, rfl, (by show 3 ≤ sizeLine; decide), (.cons ⟨_, rfl⟩ (.cons ⟨_, rfl⟩ (.cons rfl .nil)))⟩, fun H => .inr ⟨_, _, 0, (x_sc12 w.params), rfl, rfl, (by show 3 ≤ sizeLine; decide), (.cons ⟨_, rfl⟩ (.cons ⟨_, rfl⟩ (.cons ⟨_, rfl⟩ .nil)))⟩⟩
    · exact ⟨60, 59, _, _, (x_sa13 w.params), fun H => .inr ⟨_, _, 0, (x_sb13 w.params), rfl, rfl, (by show 3 ≤ sizeLine; decide), (.cons ⟨_, rfl⟩ (.cons ⟨_, rfl⟩ (.cons rfl .nil)))⟩, fun H => .inr ⟨_, _, 0, (x_sc13 w.params), rfl, rfl, (by show 2 ≤ sizeLine; decide), (.cons ⟨_, rfl⟩ (.cons ⟨_, rfl⟩ .nil))⟩⟩
    · exact ⟨62, 61, _, _, (x_sa14 w.params), fun H => .inr ⟨_, _, 0, (x_sb14 w.params), rfl, rfl, (by show 3 ≤ sizeLine; decide), (.cons ⟨_, rfl⟩ (.cons ⟨_, rfl⟩ (.cons rfl .nil)))⟩, fun H => .inr ⟨_, _, 0, (x_sc14 w.params), rfl, rfl, (by show 1 ≤ sizeLine; decide), (.cons ⟨_, rfl⟩ .nil)⟩⟩
    · exact ⟨17, 16, _, _, (x_sa15 w.params), fun H => .inr ⟨_, _, 0, (x_sb15 w.params), rfl, rfl, (by show 3 ≤ sizeLine; decide), (.cons ⟨_, rfl⟩ (.cons ⟨_, rfl⟩ (.cons rfl .nil)))⟩, fun H => .inr ⟨_, _, 0, (x_sc15 w.params), rfl, rfl, (by show 1 ≤ sizeLine; decide), (.cons ⟨_, rfl⟩ .nil)⟩⟩
    · exact ⟨27, 26, _, _, (x_sa16 w.params), fun H => .inr ⟨_, _, 0, (x_sb16 w.params), rfl, rfl, (by show 3 ≤ sizeLine; decide), (.cons ⟨_, rfl⟩ (.cons ⟨_, rfl⟩ (.cons rfl .nil)))⟩, fun H => .inr ⟨_, _, 0, (x_sc16 w.params), rfl, rfl, (by show 1 ≤ sizeLine; decide), (.cons ⟨_, rfl⟩ .nil)⟩⟩
  have hLs : ∀ p ∈ LIT, ∃ t, PySem.W.nsIn (HD.HK w.params) 73 p.1 = some (some (.int p.2 t)) := fun p hp => by
    simp only [LIT, List.mem_cons, List.not_mem_nil, or_false] at hp
    rcases hp with rfl | rfl | rfl
    · exact ⟨_, (x_li0 w.params)⟩
    · exact ⟨_, (x_li1 w.params)⟩
    · exact ⟨_, (x_li2 w.params)⟩
  have hLi : ∀ p ∈ SHT7, PySem.W.nsIn (HD.HK w.params) 73 p.1 = some none := fun p hp => by
    simp only [SHT7, List.mem_cons, List.not_mem_nil, or_false] at hp
    rcases hp with rfl | rfl | rfl | rfl | rfl | rfl | rfl | rfl | rfl | rfl | rfl | rfl | rfl | rfl | rfl | rfl | rfl
    · exact (x_lz0 w.params)
    · exact (x_lz1 w.params)
    · exact (x_lz2 w.params)
    · exact (x_lz3 w.params)
    · exact (x_lz4 w.params)
    · exact (x_lz5 w.params)
    · exact (x_lz6 w.params)
    · exact (x_lz7 w.params)
    · exact (x_lz8 w.params)
    · exact (x_lz9 w.params)
    · exact (x_lz10 w.params)
    · exact (x_lz11 w.params)
    · exact (x_lz12 w.params)
    · exact (x_lz13 w.params)
    · exact (x_lz14 w.params)
    · exact (x_lz15 w.params)
    · exact (x_lz16 w.params)
  have TR := PySem.W.mg_none_of X G0 (x_zr w.params)
  have TE := PySem.W.mg_none_of X G0 (x_ze w.params)
  have TG : G7 (HD.HK w.params) w mg := ⟨T, TR, TE, ⟨15, PySem.W.mg_of X G0 (x_aS_ w.params), ⟨⟨_, 28, (x_lS w.params), (x_kS w.params)⟩, (x_oS w.params)⟩, hSh⟩, ⟨73, PySem.W.mg_of X G0 (x_aL_ w.params), ⟨⟨_, 3, (x_lL w.params), (x_kL w.params)⟩, (x_oL w.params)⟩, hLs, hLi⟩⟩
  have D1 : Cal l.prog w (HD.HK w.params) mg base 1 "inner_of" ["shaped"] (spInner7 (HD.HK w.params)) := ⟨78, _, ok_inner7 TG F1, b1, (x_k1 w.params), m1⟩
  have D2 : Cal l.prog w (HD.HK w.params) mg base 2 "may_break" ["shaped"] (spMB (HD.HK w.params)) := ⟨85, _, ok_mb F2 D1, b2, (x_k2 w.params), m2⟩
  have D3 : Cal l.prog w (HD.HK w.params) mg base 1 "bodies_of" ["statement"] (spBods (HD.HK w.params)) := ⟨92, _, ok_bods F3, b3, (x_k3 w.params), m3⟩
  have D4 : Cal l.prog w (HD.HK w.params) mg base 2 "lines_in" ["body"] (spIn (HD.HK w.params)) := ⟨99, _, ok_in T TR F4 D3, b4, (x_k4 w.params), m4⟩
  have D5 : Cal l.prog w (HD.HK w.params) mg base 3 "lines_of" ["function"] (spOf (HD.HK w.params)) := ⟨106, _, ok_of F5 D4, b5, (x_k5 w.params), m5⟩
  have D6 : Cal l.prog w (HD.HK w.params) mg base 3 "within" ["statement"] (spWithin (HD.HK w.params)) := ⟨113, _, ok_within T F6 D3 D4, b6, (x_k6 w.params), m6⟩
  have D7 : Cal l.prog w (HD.HK w.params) mg base 3 "spots_of_line" ["f", "k", "statement"] (spSL (HD.HK w.params)) := ⟨120, _, ok_sl F7 D2, b7, (x_k7 w.params), m7⟩
  have D8 : Cal l.prog w (HD.HK w.params) mg base 4 "spots_of" ["program"] (spSpots (HD.HK w.params)) := ⟨127, _, ok_spots T TE F8 D5 D7, b8, (x_k8 w.params), m8⟩
  have D9 : Cal l.prog w (HD.HK w.params) mg base 1 "_law_tape" ["_law_script"] (spTape (HD.HK w.params)) := ⟨134, _, ok_tape T F9, b9, (x_k9 w.params), m9⟩
  have D10 : Cal l.prog w (HD.HK w.params) mg base 1 "_law_draw" ["_law_tape_here", "_law_many"] spDraw2 := ⟨141, _, ok_draw2 T F10, b10, (x_k10 w.params), m10⟩
  have D11 : Cal l.prog w (HD.HK w.params) mg base 2 "_law_names" ["_law_tape_here", "_law_many"] spNames := ⟨146, _, ok_names T F11 D10, b11, (x_k11 w.params), m11⟩
  have D12 : Cal l.prog w (HD.HK w.params) mg base 3 "_law_records" ["_law_tape_here"] spRecs := ⟨151, _, ok_recs T F12 D10 D11, b12, (x_k12 w.params), m12⟩
  have D13 : Cal l.prog w (HD.HK w.params) mg base 2 "_law_kind" ["_law_tape_here", "_law_records_here"] spKind := ⟨156, _, ok_kind T F13 D10, b13, (x_k13 w.params), m13⟩
  have D14 : Cal l.prog w (HD.HK w.params) mg base 3 "_law_heads" ["_law_tape_here", "_law_records_here"] spHeads := ⟨161, _, ok_heads T F14 D10 D11 D13, b14, (x_k14 w.params), m14⟩
  have D15 : Cal l.prog w (HD.HK w.params) mg base 1 "_law_count" ["_law_e_here"] (spCount (HD.HK w.params)) := ⟨166, _, ok_count T F15, b15, (x_k15 w.params), m15⟩
  have D16 : Cal l.prog w (HD.HK w.params) mg base 5 "_law_leaf" ["_law_tape_here", "_law_kit_here", "_law_kind_here"] (spLeaf (HD.HK w.params) 4) := ⟨171, _, all_leaf T F16 b16 m16 D10 4, b16, (x_k16 w.params), m16⟩
  have D19 : Cal l.prog w (HD.HK w.params) mg base 10 "_law_e" ["_law_tape_here", "_law_kit_here", "_law_kind_here", "_law_deep"] (spE (HD.HK w.params) 2) := ⟨188, _, all_e T F19 b19 m19 F17 b17 m17 F18 b18 m18 D10 D16 2, b19, (x_k19 w.params), m19⟩
  have D20 : Cal l.prog w (HD.HK w.params) mg base 11 "_law_bounded" ["_law_tape_here", "_law_kit_here", "_law_kind_here", "_law_reach"] (spBounded (HD.HK w.params)) := ⟨195, _, ok_bounded T F20 D15 D16 D19, b20, (x_k20 w.params), m20⟩
  have D21 : Cal l.prog w (HD.HK w.params) mg base 14 "_law_condition" ["_law_tape_here", "_law_kit_here", "_law_deep"] (spCL (HD.HK w.params) 2) := ⟨202, _, all_cond T F21 b21 m21 D10 D20 2, b21, (x_k21 w.params), m21⟩
  have D22 : Cal l.prog w (HD.HK w.params) mg base 22 "_law_body" ["_law_tape_here", "_law_kit_here", "_law_deep"] (spBody (HD.HK w.params) 3) := ⟨209, _, all_body T F22 b22 m22 F23 b23 m23 D10 D11 D20 D21 3, b22, (x_k22 w.params), m22⟩
  have D24 : Cal l.prog w (HD.HK w.params) mg base 1 "_law_kit" ["_law_records_here", "_law_heads_here", "_law_f"] spKit := ⟨221, _, ok_kit T F24, b24, (x_k24 w.params), m24⟩
  have D25 : Cal l.prog w (HD.HK w.params) mg base 23 "_law_program" ["_law_tape_here"] (spProgram (HD.HK w.params)) := ⟨228, _, ok_program T F25 D12 D14 D24 D22, b25, (x_k25 w.params), m25⟩
  have D26 : Cal l.prog w (HD.HK w.params) mg base 1 "_law_lines" ["_law_body_here"] (spLL (HD.HK w.params)) := ⟨235, _, ok_ll T TR F26, b26, (x_k26 w.params), m26⟩
  have D27 : Cal l.prog w (HD.HK w.params) mg base 1 "_law_looks_up" ["_law_thing"] (spLU (HD.HK w.params)) := ⟨242, _, ok_lu T F27, b27, (x_k27 w.params), m27⟩
  have D28 : Cal l.prog w (HD.HK w.params) mg base 3 "_law_line_spots" ["_law_name", "_law_k", "_law_line"] (spSL (HD.HK w.params)) := ⟨249, _, ok_ls T F28 D27, b28, (x_k28 w.params), m28⟩
  exact ok_law T F29 D8 D26 D6 D28 D5 D25 D9
theorem walk {l : PySem.W.OpenLaw} {q : Program} {loose : List Str} {XP : (Str → Option Value) → Heap → Prop} {YP : World → Heap → Prop} {d : DefRec} (hn : l.most = some 63) (hdf : d.params.defaults = [])
    (hY : ∀ (w : World) (h : Heap), YP w h → (HD.HK w.params).In h) (hd : d.name = "law") : PySem.W.WalkO q loose XP YP l.row.toRowW d [] (fun f vs => PySem.call f vs) :=
  L2.walk_of (K := HD.HK) (n := 63) (k := 30) (x := "_law_script") (CX := fun _ => CX0) (sp := fun w => spLaw (HD.HK w.params)) hn (by decide) hdf ⟨rfl, by decide, by decide, rfl⟩ hY (fun w mg fa h KX G hmg => all_mk KX G (hd ▸ hmg)) (fun _ _ a ns hl _ hS => ⟨a, ns, rfl, hS, fun _ => rfl⟩) fun _ _ _ _ _ z => z
end K6
open PySem PySem.W PyProof.Rows
set_option maxRecDepth 100000 in
set_option maxHeartbeats 0 in
theorem PySem.Challenge.cw_everyfork_k07_lines_and_spots_holds : PySem.Challenge.rw_everyfork_k07_lines_and_spots.Holds := by
  refine holds_law (by kernel_rfl) fun said => ?_
  refine holds_open (q := HD.qV) (loose := HD.lo) (Xt := HD.Xt) (XP := XL HD.qV []) (Yf := Hook.obs HD.hk) (Ya := Hook.val HD.hk) (YP := Hook.says HD.hk) (N := 5000) HD.left (Hook.of HD.hk) (Hook.keeps HD.hk)
    (fun s e => xl_of s (Bool.and_eq_true_iff.mp e).1) XL.keeps (by rfl) (by rfl) (by rfl) (fun s e => recFacts_of (Bool.and_eq_true_iff.mp e).2) (by rfl) said (by decide +kernel) ⟨rfl, rfl, rfl, rfl, rfl, by decide +kernel⟩ ?hw
    (K6.walk (l := PySem.Challenge.rw_everyfork_k07_lines_and_spots) rfl rfl (fun w h Y => kIn_of Y) rfl)
  case hw => w_witness2
