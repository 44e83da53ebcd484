import PyProof.Rows.All
import Wide.All
import OpenK.AllK
import Wide.FinOn
import Lean
import PyProof.EqAt
import PyProof.EqKinds
import PyProof.TupleCall
import PyProof.ZipIter
import PyProof.WalksMore
import PyProof.ListNew
import PyProof.IsiBase
import PyProof.DictList
import PyProof.AttrMiss
import PyProof.FactsAll.dict
import PyProof.ListRange
import PyProof.StrLawsWords
import PyProof.StationsW
import KE.KIsAll
import PyProof.DictIter
import KE.KRevIter
import KE.KRangeStep
import KE.RegMulBits
import KE.KDictList
import PySem.Challenge.RW_gatefold_k18_columns_of_knots
set_option Elab.async false
set_option linter.all false
set_option maxRecDepth 100000
/-! THE HAND LAYER, for ints, bools, texts, own classes, LISTS and tuples (index, slices, in, append, pop ..), calls, loops. Paste it whole ahead of your own text; what your proof does not reach may be deleted. -/
namespace L2
open PySem PySem.Spec PyProof.Rows

/-- a key: an int or a str -/
abbrev Key := Sum Int Str
def keyIs : Key → Value → Bool
  | .inl k, v => Value.isInt k v
  | .inr x, v => Value.isStrOf x v
def keyH (w : World) : Key → Int
  | .inl k => hashInt k
  | .inr x => hashStr w x
theorem keyIs_shape : ∀ {k : Key} {v : Value}, keyIs k v = true → (∃ i t, k = Sum.inl i ∧ v = Value.int i t) ∨ (∃ x t, k = Sum.inr x ∧ v = Value.str x t)
  | .inl i, v, h => by
    obtain ⟨t, e⟩ := Value.isInt_shape (k := i) (v := v) h
    exact .inl ⟨i, t, rfl, e⟩
  | .inr x, v, h => by
    obtain ⟨t, e⟩ := Value.isStrOf_shape (x := x) (v := v) h
    exact .inr ⟨x, t, rfl, e⟩
theorem keyIs_int (i : Int) (t : Tok) : keyIs (.inl i) (.int i t) = true := by simp [keyIs, Value.isInt]
theorem keyIs_str (x : Str) (t : Tok) : keyIs (.inr x) (.str x t) = true := by simp [keyIs, Value.isStrOf]
theorem key_ll (a b : Int) : decide ((Sum.inl a : Key) = Sum.inl b) = (a == b) := by
  by_cases e : a = b
  · subst e; simp
  · have h : ¬ (Sum.inl a : Key) = Sum.inl b := fun q => e (Sum.inl.inj q)
    rw [decide_eq_false h]
    exact (beq_eq_false_iff_ne.mpr e).symm
theorem key_rr (a b : Str) : decide ((Sum.inr a : Key) = Sum.inr b) = decide (a = b) := by
  by_cases e : a = b
  · subst e; simp
  · have h : ¬ (Sum.inr a : Key) = Sum.inr b := fun q => e (Sum.inr.inj q)
    rw [decide_eq_false h, decide_eq_false e]
theorem key_lr (a : Int) (b : Str) : decide ((Sum.inl a : Key) = Sum.inr b) = false := decide_eq_false (fun q => nomatch q)
theorem key_rl (a : Str) (b : Int) : decide ((Sum.inr a : Key) = Sum.inl b) = false := decide_eq_false (fun q => nomatch q)

def mixKind (prog : Program) (w : World) : PySem.KeyKind prog w Key where
  is := keyIs
  hash := keyH w
  inj := fun v a b ha hb => by
    rcases keyIs_shape ha with ⟨i, t, rfl, rfl⟩ | ⟨x, t, rfl, rfl⟩
    · rcases keyIs_shape hb with ⟨j, u, rfl, e⟩ | ⟨y, u, rfl, e⟩
      · injection e with e1 _; rw [e1]
      · exact nomatch e
    · rcases keyIs_shape hb with ⟨j, u, rfl, e⟩ | ⟨y, u, rfl, e⟩
      · exact nomatch e
      · injection e with e1 _; rw [e1]
  byValue := fun k v h => by
    rcases keyIs_shape h with ⟨i, t, rfl, rfl⟩ | ⟨x, t, rfl, rfl⟩ <;> rfl
  pyHash := fun hv h => by
    rcases keyIs_shape hv with ⟨i, t, rfl, rfl⟩ | ⟨x, t, rfl, rfl⟩
    · exact wpAny_pyHash_int h
    · exact wpAny_pyHash_str h
  eqBool := fun hu hv h => by
    rcases keyIs_shape hu with ⟨i, t, rfl, rfl⟩ | ⟨x, t, rfl, rfl⟩
    · rcases keyIs_shape hv with ⟨j, u, rfl, rfl⟩ | ⟨y, u, rfl, rfl⟩
      · rw [key_ll] at h; exact wpAny_eqBool_int h
      · rw [key_lr] at h; exact SeqAt.EqAt.int_str i t y u _ _ _ _ h
    · rcases keyIs_shape hv with ⟨j, u, rfl, rfl⟩ | ⟨y, u, rfl, rfl⟩
      · rw [key_rl] at h; exact SeqAt.EqAt.str_int x t j u _ _ _ _ h
      · rw [key_rr] at h; exact wpAny_eqBool_str h
  «strs» := fun k x t v h => by
    rcases keyIs_shape h with ⟨i, u, rfl, e⟩ | ⟨y, u, rfl, e⟩
    · exact nomatch e
    · injection e with e1 _
      subst e1
      cases v <;> rfl

theorem mixKind_int (prog : Program) (w : World) (i : Int) (t : Tok) : (mixKind prog w).is (.inl i) (.int i t) = true := keyIs_int i t
theorem mixKind_str (prog : Program) (w : World) (x : Str) (t : Tok) : (mixKind prog w).is (.inr x) (.str x t) = true := keyIs_str x t
end L2

namespace L2
open PySem PySem.Spec PyProof.Rows

/-- a value, without the heap -/
inductive V where
  | non | bl (b : Bool) | int (i : Int) | str (x : Str) | byt (b : Array UInt8) | flt (b : UInt64) | ref (a : Addr) | ty (n : String)
  deriving DecidableEq

def RelV : V → Value → Prop
  | .non, u => u = Value.none
  | .bl b, u => u = Value.bool b
  | .int i, u => ∃ t, u = Value.int i t
  | .str x, u => ∃ t, u = Value.str x t
  | .byt b, u => ∃ t, u = Value.bytes b t
  | .flt b, u => ∃ t, u = Value.float b t
  | .ref a, u => u = Value.ref a
  | .ty n, u => u = Value.type n

abbrev Vals : List V → List Value → Prop := Paired RelV
theorem Vals.length {xs : List V} {us : List Value} (r : Vals xs us) : xs.length = us.length := Paired.length r
theorem Vals.get : ∀ {xs : List V} {us : List Value} {i : Nat} {x : V}, Vals xs us → xs[i]? = some x → ∃ u, us[i]? = some u ∧ RelV x u
  | _, _, _, _, .nil, e => by simp at e
  | _, _, 0, _, .cons r _, e => by simp at e; subst e; exact ⟨_, rfl, r⟩
  | _, _, i + 1, x, .cons _ t, e => by
    obtain ⟨u, h1, h2⟩ := Vals.get (i := i) (x := x) t (by simpa using e)
    exact ⟨u, by simpa using h1, h2⟩
theorem Vals.set {x : V} {u : Value} (r : RelV x u) : ∀ {xs : List V} {us : List Value} (i : Nat), Vals xs us → Vals (xs.set i x) (us.set i u)
  | _, _, _, .nil => .nil
  | _, _, 0, .cons _ t => .cons r t
  | _, _, i + 1, .cons q t => .cons q (Vals.set r i t)
theorem Vals.append : ∀ {xs ys : List V} {us ws : List Value}, Vals xs us → Vals ys ws → Vals (xs ++ ys) (us ++ ws)
  | _, _, _, _, .nil, s => s
  | _, _, _, _, .cons r t, s => .cons r (Vals.append t s)
theorem Vals.take : ∀ {xs : List V} {us : List Value} (n : Nat), Vals xs us → Vals (xs.take n) (us.take n)
  | _, _, 0, _ => .nil
  | _, _, _ + 1, .nil => .nil
  | _, _, n + 1, .cons r t => .cons r (Vals.take n t)
theorem Vals.drop : ∀ {xs : List V} {us : List Value} (n : Nat), Vals xs us → Vals (xs.drop n) (us.drop n)
  | _, _, 0, r => r
  | _, _, _ + 1, .nil => .nil
  | _, _, n + 1, .cons _ t => Vals.drop n t
theorem Vals.none_of : ∀ {xs : List V} {us : List Value} {i : Nat}, Vals xs us → xs[i]? = none → us[i]? = none := fun {xs us i} r e => by
  have h1 := r.length
  have h2 : xs.length ≤ i := List.getElem?_eq_none_iff.mp e
  exact List.getElem?_eq_none_iff.mpr (by omega)

def RelO : Option V → Option Value → Prop
  | some v, some u => RelV v u
  | none, none => True
  | _, _ => False
def KV {κ : Type} : List (κ × V) → List (κ × Value) → Prop := Paired fun (p : κ × V) (q : κ × Value) => p.1 = q.1 ∧ RelV p.2 q.2

/-- a key of a dict (00_mix): an int or a text -/
def kV : Key → V
  | .inl i => .int i
  | .inr x => .str x

/-- what stands at a tracked address -/
inductive HO where
  /-- a list -/
  | lst (xs : List V)
  /-- a tuple (never changes) -/
  | tup (xs : List V)
  /-- a dict whose keys are ints and texts; one whose keys are tuples of ints and texts (the empty one is both) -/
  | dK (kvs : List (Key × V)) | dT (kvs : List (List Key × V))
  /-- a set of ints: its members, its size -/
  | set (S : Int → Bool) (n : Nat)
  /-- an instance of the class at C, its dict at dx, its attributes -/
  | ins (C dx : Addr) (fs : List (Str × V))
  /-- the dict of the instance at x -/
  | own (x : Addr)
  /-- the dict of an exception -/
  | xd (fs : List (Str × V))
  /-- a bound method, f of x -/
  | met (f x : Addr)
  /-- a range object lo, lo + 1, .. below hi -/
  | rng (lo hi : Int)
  /-- a thing that is known to the object (the script; a dict while a loop walks it): read, never written while it is so -/
  | frz (o : Obj) (u : HO)
  /-- a code object's table -/
  | tbl (ps : Array Value)
  /-- any other thing, by what is true of its one object (a def of one's own: SetO a S n := HO.ext fun h => ..) -/
  | ext (φ : Heap → Prop)

abbrev Hp := Addr → Option HO
def upd (H : Hp) (a : Addr) (o : HO) : Hp := fun b => if b = a then some o else H b
theorem upd_same {H : Hp} {a : Addr} {o : HO} : upd H a o a = some o := by unfold upd; rw [if_pos rfl]
theorem upd_ne {H : Hp} {a b : Addr} {o : HO} (h : b ≠ a) : upd H a o b = H b := by unfold upd; rw [if_neg h]
theorem upd_upd {H : Hp} {a : Addr} {o u : HO} : upd (upd H a o) a u = upd H a u := by
  funext b; unfold upd; split <;> rfl
/-- two objects of different content stand apart -/
theorem ne_of {H : Hp} {a b : Addr} {o u : HO} (h : H a = some o) (h' : H b = some u) (d : o ≠ u) : a ≠ b := by
  intro e; subst e; rw [h] at h'; exact d (Option.some.inj h')
theorem ne_of_none {H : Hp} {a b : Addr} {o : HO} (h : H a = some o) (h' : H b = none) : a ≠ b := by
  intro e; subst e; rw [h] at h'; cases h'

section
variable (P : Program) (w : World)
def ObjOk (H : Hp) (h : Heap) (a : Addr) : HO → Prop
  | .lst xs => xs.length ≤ sizeLine ∧ ∃ (its : List Value) (n : Nat), Vals xs its ∧ h.get? a = some { cls := .type "list", data := .seq its.toArray n }
  | .tup xs => xs.length ≤ sizeLine ∧ ∃ its : List Value, Vals xs its ∧ IsTup h a its.toArray
  | .dK kvs => kvs.length ≤ sizeLine ∧ (a == sysModules) = false ∧ ∃ vs, KV kvs vs ∧ h.DictOf (mixKind P w) a vs
  | .dT kvs => kvs.length ≤ sizeLine ∧ (a == sysModules) = false ∧ ∃ xs : List (List Key × Addr × Value),
      Paired (fun (p : List Key × V) (q : List Key × Addr × Value) => p.1 = q.1 ∧ H q.2.1 = some (.tup (p.1.map kV)) ∧ RelV p.2 q.2.2) kvs xs ∧
      ∃ o es ep, h.get? a = some o ∧ o.ExactDict ∧ o.data = .dict es ep ∧ es.toList = xs.map (entryOfKey (tupleKind (mixKind P w))) ∧ (xs.map (·.1)).Nodup
  | .set S n => h.SetOf (intKind P w) a S n
  | .ins C dx fs => H dx = some (.own a) ∧ fs.length ≤ 1000 ∧ dx ≠ a ∧ h.get? a = some (PySem.W.instObj C dx) ∧
      ∃ mA, h.Ns1 dx mA ∧ (∀ f, RelO (fs.lookup f) (mA f)) ∧ PySem.Within mA (fs.map (·.1))
  | .own _ => ∃ o, h.get? a = some o
  | .xd fs => ∃ mA, h.Ns1 a mA ∧ ∀ f, RelO (fs.lookup f) (mA f)
  | .rng lo hi => ∃ t u v, h.get? a = some { cls := .type "range", data := .fields #[.int lo t, .int hi u, .int 1 v] }
  | .frz o u => h.get? a = some o ∧ ObjOk H h a u
  | .tbl ps => h.get? a = some { cls := .none, data := .fields ps }
  | .met f x => h.get? a = some (PySem.W.methodObj (.ref f) (.ref x))
  | .ext φ => φ h ∧ (∃ o, h.get? a = some o) ∧ ∀ h1 h2 : Heap, φ h1 → (∀ o, h1.get? a = some o → h2.get? a = some o) → φ h2
/-- the abstract heap is held -/
def HOk (H : Hp) (h : Heap) : Prop := ∀ a o, H a = some o → ObjOk P w H h a o
end

section
variable {P : Program} {w : World} {H H' : Hp} {h h' : Heap} {a : Addr} {o : HO}
theorem ObjOk.lt (x : ObjOk P w H h a o) : a < h.objs.size := by
  cases o with
  | lst xs => obtain ⟨_, _, _, _, e⟩ := x; exact Heap.lt_size e
  | tup xs => obtain ⟨_, _, _, p⟩ := x; exact p.lt
  | dK kvs => obtain ⟨_, _, _, _, o, _, _, e, _⟩ := x; exact Heap.lt_size e
  | dT kvs => obtain ⟨_, _, _, _, o, _, _, e, _⟩ := x; exact Heap.lt_size e
  | set S n => obtain ⟨o, _, _, _, e, _⟩ := x; exact Heap.lt_size e
  | ins C dx fs => obtain ⟨_, _, _, e, _⟩ := x; exact Heap.lt_size e
  | own y => obtain ⟨_, e⟩ := x; exact Heap.lt_size e
  | xd fs => obtain ⟨_, ⟨_, _, _, e, _⟩, _⟩ := x; exact Heap.lt_size e
  | rng lo hi => obtain ⟨_, _, _, e⟩ := x; exact Heap.lt_size e
  | frz ob u => obtain ⟨e, _⟩ := x; exact Heap.lt_size e
  | tbl ps => exact Heap.lt_size (show h.get? a = some _ from x)
  | met f y => exact Heap.lt_size (show h.get? a = some _ from x)
  | ext φ => obtain ⟨_, ⟨_, e⟩, _⟩ := x; exact Heap.lt_size e
theorem Paired.mapP {α β : Type} {F G : α → β → Prop} : ∀ {l₁ : List α} {l₂ : List β}, Paired F l₁ l₂ → (∀ a b, F a b → G a b) → Paired G l₁ l₂
  | _, _, .nil, _ => .nil
  | _, _, .cons r t, f => .cons (f _ _ r) (Paired.mapP t f)
/-- what an object's description leans on: its own object, its own dict, the tuples -/
theorem ObjOk.stay (x : ObjOk P w H h a o) (k : ∀ b u, (b = a ∨ H b = some (.own a)) → h.get? b = some u → h'.get? b = some u)
    (ho : ∀ b, H b = some (.own a) → H' b = some (.own a)) (ht : ∀ b xs, H b = some (.tup xs) → H' b = some (.tup xs)) : ObjOk P w H' h' a o := by
  induction o with
  | lst xs => obtain ⟨z, its, n, r, e⟩ := x; exact ⟨z, its, n, r, k _ _ (.inl rfl) e⟩
  | tup xs => obtain ⟨z, its, r, ob, e, c⟩ := x; exact ⟨z, its, r, ob, k _ _ (.inl rfl) e, c⟩
  | dK kvs => obtain ⟨z, y, vs, r, ob, es, ep, e, c⟩ := x; exact ⟨z, y, vs, r, ob, es, ep, k _ _ (.inl rfl) e, c⟩
  | dT kvs =>
    obtain ⟨z, y, xs, r, ob, es, ep, e, c⟩ := x
    exact ⟨z, y, xs, Paired.mapP r fun p q z => ⟨z.1, ht _ _ z.2.1, z.2.2⟩, ob, es, ep, k _ _ (.inl rfl) e, c⟩
  | set S n => obtain ⟨ob, es, ep, t, e, c⟩ := x; exact ⟨ob, es, ep, t, k _ _ (.inl rfl) e, c⟩
  | ins C dx fs =>
    obtain ⟨d, z, ne, e, mA, ⟨od, es, ep, e2, c⟩, r⟩ := x
    exact ⟨ho _ d, z, ne, k _ _ (.inl rfl) e, mA, ⟨od, es, ep, k _ _ (.inr d) e2, c⟩, r⟩
  | own y => obtain ⟨ob, e⟩ := x; exact ⟨ob, k _ _ (.inl rfl) e⟩
  | xd fs => obtain ⟨mA, ⟨od, es, ep, e, c⟩, r⟩ := x; exact ⟨mA, ⟨od, es, ep, k _ _ (.inl rfl) e, c⟩, r⟩
  | rng lo hi => obtain ⟨t, u, v, e⟩ := x; exact ⟨t, u, v, k _ _ (.inl rfl) e⟩
  | frz ob u ih => obtain ⟨e, q⟩ := x; exact ⟨k _ _ (.inl rfl) e, ih q⟩
  | tbl ps =>
    have e : h.get? a = some { cls := .none, data := .fields ps } := x
    show h'.get? a = some { cls := .none, data := .fields ps }
    exact k a _ (.inl rfl) e
  | met f y =>
    have e : h.get? a = some (PySem.W.methodObj (.ref f) (.ref y)) := x
    show h'.get? a = some (PySem.W.methodObj (.ref f) (.ref y))
    exact k a _ (.inl rfl) e
  | ext φ => obtain ⟨p, ⟨o, e⟩, st⟩ := x; exact ⟨st _ _ p fun o q => k _ _ (.inl rfl) q, ⟨o, k _ _ (.inl rfl) e⟩, st⟩
theorem HOk.lt (x : HOk P w H h) (e : H a = some o) : a < h.objs.size := (x a o e).lt
theorem HOk.fresh (x : HOk P w H h) (e : h.objs.size ≤ a) : H a = none := by
  cases q : H a with
  | none => rfl
  | some u => exact absurd (Nat.lt_of_lt_of_le (x.lt q) e) (Nat.lt_irrefl _)
/-- every object of the heap is kept -/
theorem HOk.kept (x : HOk P w H h) (k : ∀ b u, h.get? b = some u → h'.get? b = some u) : HOk P w H h' := fun a o e =>
  (x a o e).stay (fun b u _ q => k b u q) (fun _ q => q) fun _ _ q => q
/-- a new object is laid and tracked -/
theorem HOk.laid (x : HOk P w H h) (k : ∀ b u, h.get? b = some u → h'.get? b = some u) (hp : h.objs.size ≤ a) (new : ObjOk P w (upd H a o) h' a o) : HOk P w (upd H a o) h' := fun b u e => by
  have hn := x.fresh hp
  by_cases hb : b = a
  · subst hb; rw [upd_same] at e; cases e; exact new
  · rw [upd_ne hb] at e
    exact (x b u e).stay (fun c v _ q => k c v q) (fun c q => by rw [upd_ne (ne_of_none q hn)]; exact q) fun c xs q => by rw [upd_ne (ne_of_none q hn)]; exact q
end

/-- what may be read as u: it is u, or a known u -/
def Rd (H : Hp) (a : Addr) (u : HO) : Prop := H a = some u ∨ ∃ o, H a = some (.frz o u)
theorem Rd.of {H : Hp} {a : Addr} {u : HO} (h : H a = some u) : Rd H a u := .inl h
theorem Rd.ok {P : Program} {w : World} {H : Hp} {h : Heap} {a : Addr} {u : HO} (r : Rd H a u) (x : HOk P w H h) : ObjOk P w H h a u := by
  rcases r with r | ⟨o, r⟩
  · exact x a u r
  · obtain ⟨_, q⟩ := x a _ r
    exact q
/-- what may be written -/
def Mut : Option HO → Prop
  | some (.lst _) => True
  | some (.dK _) => True
  | some (.dT _) => True
  | some (.set _ _) => True
  | some (.ins _ _ _) => True
  | some (.ext _) => True
  | _ => False
section
variable {P : Program} {w : World} {H : Hp} {h h' : Heap} {x e : Addr} {o' : HO}
/-- the object at e is changed: x itself, or the dict of the instance x -/
theorem HOk.write (ok : HOk P w H h) (mu : Mut (H x)) (he : e = x ∨ H e = some (.own x)) (k : ∀ b u, b ≠ e → h.get? b = some u → h'.get? b = some u) (heo : ∃ u, h'.get? e = some u)
    (new : ObjOk P w (upd H x o') h' x o') : HOk P w (upd H x o') h' := fun b u q => by
  have nown : ∀ c y, H c = some (.own y) → c ≠ x := fun c y r z => by subst z; rw [r] at mu; exact mu
  have ntup : ∀ c xs, H c = some (.tup xs) → c ≠ x := fun c xs r z => by subst z; rw [r] at mu; exact mu
  by_cases hb : b = x
  · subst hb; rw [upd_same] at q; cases q; exact new
  · rw [upd_ne hb] at q
    by_cases hbe : b = e
    · have q' : H b = some (.own x) := by
        rcases he with z | z
        · exact absurd (hbe.trans z) hb
        · rw [hbe]; exact z
      rw [q] at q'; cases q'
      obtain ⟨v, hv⟩ := heo
      exact ⟨v, by rw [hbe]; exact hv⟩
    · refine (ok b u q).stay (fun c v hc r => k c v ?_ r) (fun c r => by rw [upd_ne (nown c b r)]; exact r) fun c xs r => by rw [upd_ne (ntup c xs r)]; exact r
      rcases hc with rfl | hc
      · exact hbe
      · rintro rfl
        rcases he with z | z
        · exact nown c b hc z
        · rw [hc] at z; cases z; exact hb rfl
end

/-! ### kept unless tracked; of the frames at fs (the callers') the slots may change (an exception that passes writes there); of the records at ex (iterators) nothing is said -/
structure Un (fs ex : List Addr) (H H' : Hp) (h h' : Heap) : Prop where
  keep : ∀ b o, h.get? b = some o → H b = none → b ∉ fs → b ∉ ex → h'.get? b = some o
  slot : ∀ b o, h.get? b = some o → H b = none → b ∈ fs → b ∉ ex → ∃ sl, h'.get? b = some { o with slots := sl }
  free : ∀ b o, h.get? b = some o → H b = none → b ∉ ex → H' b = none
  there : ∀ b o, h.get? b = some o → b ∉ ex → ∃ o', h'.get? b = some o'
  tups : ∀ b xs, H b = some (.tup xs) → H' b = some (.tup xs)
  frzs : ∀ b o u, H b = some (.frz o u) → H' b = some (.frz o u)
  tbls : ∀ b ps, H b = some (.tbl ps) → ∃ more, H' b = some (.tbl (ps ++ more))
section
variable {fs fs' ex ex' : List Addr} {H H1 H2 : Hp} {h h1 h2 h' : Heap} {a x e : Addr} {o : HO}
theorem Un.any (u : Un fs ex H H1 h h1) {b : Addr} {ob : Obj} (q : h.get? b = some ob) (n : H b = none) (hx : b ∉ ex) : ∃ sl, h1.get? b = some { ob with slots := sl } := by
  by_cases hb : b ∈ fs
  · exact u.slot b ob q n hb hx
  · exact ⟨ob.slots, u.keep b ob q n hb hx⟩
theorem Un.trans (a : Un fs ex H H1 h h1) (b : Un fs ex H1 H2 h1 h2) : Un fs ex H H2 h h2 where
  keep := fun c ob q n hc hx => b.keep c ob (a.keep c ob q n hc hx) (a.free c ob q n hx) hc hx
  slot := fun c ob q n hc hx => by
    obtain ⟨sl, e1⟩ := a.slot c ob q n hc hx
    obtain ⟨sl', e2⟩ := b.slot c _ e1 (a.free c ob q n hx) hc hx
    exact ⟨sl', e2⟩
  free := fun c ob q n hx => by
    obtain ⟨o', e1⟩ := a.there c ob q hx
    exact b.free c o' e1 (a.free c ob q n hx) hx
  there := fun c ob q hx => by
    obtain ⟨o', e1⟩ := a.there c ob q hx
    exact b.there c o' e1 hx
  tups := fun c xs q => b.tups c xs (a.tups c xs q)
  frzs := fun c ob xs q => b.frzs c ob xs (a.frzs c ob xs q)
  tbls := fun c ps q => by
    obtain ⟨m1, e1⟩ := a.tbls c ps q
    obtain ⟨m2, e2⟩ := b.tbls c _ e1
    exact ⟨m1 ++ m2, by rw [e2, Array.append_assoc]⟩
theorem Un.kept (k : ∀ b u, h.get? b = some u → h'.get? b = some u) : Un fs ex H H h h' :=
  ⟨fun b ob q _ _ _ => k b ob q, fun b ob q _ _ _ => ⟨ob.slots, k b ob q⟩, fun _ _ _ n _ => n, fun b ob q _ => ⟨ob, k b ob q⟩, fun _ _ q => q, fun _ _ _ q => q, fun _ ps q => ⟨#[], by rw [q]; simp⟩⟩
theorem Un.refl : Un fs ex H H h h := Un.kept fun _ _ q => q
theorem Un.laid (k : ∀ b u, h.get? b = some u → h'.get? b = some u) (hp : h.objs.size ≤ a) (hn : H a = none) : Un fs ex H (upd H a o) h h' where
  keep := fun b u q _ _ _ => k b u q
  slot := fun b u q _ _ _ => ⟨u.slots, k b u q⟩
  free := fun b u q n _ => by rw [upd_ne (Nat.ne_of_lt (Nat.lt_of_lt_of_le (Heap.lt_size q) hp))]; exact n
  there := fun b u q _ => ⟨u, k b u q⟩
  tups := fun b xs q => by rw [upd_ne (ne_of_none q hn)]; exact q
  frzs := fun b u xs q => by rw [upd_ne (ne_of_none q hn)]; exact q
  tbls := fun b ps q => ⟨#[], by rw [upd_ne (ne_of_none q hn), q]; simp⟩
theorem Un.write (mu : Mut (H x)) (he : e = x ∨ H e = some (.own x)) (k : ∀ b u, b ≠ e → h.get? b = some u → h'.get? b = some u) (heo : ∃ u, h'.get? e = some u) : Un fs ex H (upd H x o) h h' := by
  have hx : ∀ b, H b = none → b ≠ x := fun b n z => by subst z; rw [n] at mu; exact mu
  have hb : ∀ b, H b = none → b ≠ e := fun b n z => by
    subst z
    rcases he with r | r
    · exact hx b n r
    · rw [n] at r; cases r
  have hm : ∀ b u, H b = some u → ¬ Mut (some u) → b ≠ x := fun b u q nm z => by subst z; rw [q] at mu; exact nm mu
  refine ⟨fun b u q n _ _ => k b u (hb b n) q, fun b u q n _ _ => ⟨u.slots, k b u (hb b n) q⟩, fun b u q n _ => by rw [upd_ne (hx b n)]; exact n, fun b u q _ => ?_,
    fun b xs q => by rw [upd_ne (hm b _ q fun z => z)]; exact q, fun b u xs q => by rw [upd_ne (hm b _ q fun z => z)]; exact q, fun b ps q => ⟨#[], by rw [upd_ne (hm b _ q fun z => z), q]; simp⟩⟩
  by_cases hbe : b = e
  · subst hbe; exact heo
  · exact ⟨u, k b u hbe q⟩
theorem Un.mono (u : Un fs ex H H1 h h1) (hs : ∀ b ∈ fs, b ∈ fs') (hx : ∀ b ∈ ex, b ∈ ex') : Un fs' ex' H H1 h h1 :=
  ⟨fun b ob q n hb he => u.keep b ob q n (fun z => hb (hs b z)) fun z => he (hx b z), fun _ _ q n _ he => u.any q n fun z => he (hx _ z), fun b ob q n he => u.free b ob q n fun z => he (hx b z), fun b ob q he => u.there b ob q fun z => he (hx b z), u.tups, u.frzs, u.tbls⟩
end

/-! ### the heap without what is tracked -/
def trk (h : Heap) (H : Hp) : List Addr := (List.range h.objs.size).filter fun a => (H a).isSome
def hidT (h : Heap) (H : Hp) : Heap := PySem.W.hideAll h (trk h H)
theorem hidT_size (h : Heap) (H : Hp) : (hidT h H).objs.size = h.objs.size := PySem.W.hideAll_size _ _
theorem hidT_get {h : Heap} {H : Hp} {b : Addr} {o : Obj} (e : h.get? b = some o) (n : H b = none) : (hidT h H).get? b = some o :=
  PySem.W.hideAll_get _ e fun hm => by
    have q : (H b).isSome = true := (List.mem_filter.mp hm).2
    rw [n] at q; simp at q
theorem of_hidT {h : Heap} {H : Hp} {b : Addr} {o : Obj} (e : (hidT h H).get? b = some o) : h.get? b = some o ∧ H b = none := by
  have e' : h.get? b = some o := PySem.W.of_hideAll (trk h H) e
  refine ⟨e', ?_⟩
  cases q : H b with
  | none => rfl
  | some x =>
    have hm : b ∈ trk h H := List.mem_filter.mpr ⟨List.mem_range.mpr (Heap.lt_size e'), by simp [q]⟩
    have z : (hidT h H).get? b = none := PySem.W.hideAll_none (trk h H) hm
    rw [z] at e; cases e

/-! ### OpenK's ledger, filled with every new object but one -/
def allNews (g h : Heap) (L : Addr) : List (Addr × Obj) := (List.range h.objs.size).filterMap fun a => if a = L ∨ (g.get? a).isSome = true then none else (h.get? a).map fun o => (a, o)
def rest (g h : Heap) (L d : Addr) : List (Addr × Obj) := (allNews g h L).filter fun p => decide (p.1 ≠ d)
end L2

namespace L2
open PySem PySem.Spec PyProof.Rows

/-- the module's facts, over the base: the heap at the law's entry without what is tracked there -/
structure Mod (K : PySem.W.Frag) (mg : Str → Option Value) (base : Heap) : Prop where
  kin : K.In base
  glob : base.Ns mainGlobals mg
  blt : ∃ mb, base.Ns builtinsNs mb ∧ ∀ x : Str, x ≠ "__name__" → mb x = bootBuiltins x
  nolimit : base.NoLimit

/-- the context: a def's body (or a comprehension's block) running. base: fixed through the whole law; s₀, H₀: the entry; outer: the frames whose slots others may change (a def's callers); stack: all frames that run;
   ex: iterators that were made ahead of the entry and are walked here (a comprehension's); fn: the names whose cells were made at the entry (a def: all; a comprehension's block: its own); calm: not within an except suite; pn: pins that every state bears; xe: what is wanted of an exception that leaves the code -/
structure Cx where
  prog : Program
  w : World
  K : PySem.W.Frag
  mg : Str → Option Value
  base : Heap
  A : Around
  N : List Str
  s₀ : Shared
  H₀ : Hp
  env : Env
  outer : List Env
  stack : List Env
  ex : List Addr
  fn : Str → Bool
  calm : Bool
  pn : List (Addr × Obj)
  xe : Value → Shared → Prop
/-- the callers' frames -/
def frs (l : List Env) : List Addr := l.filterMap (·.frame)
abbrev Cx.fs (X : Cx) : List Addr := frs X.outer

def Vis (sc : Scope) (x : Str) : Prop := sc.names.lookup x = some .local ∨ sc.names.lookup x = some .cell ∨ sc.names.lookup x = some .free
def Loc (sc : Scope) (x : Str) : Prop := sc.names.lookup x = some .local ∨ sc.names.lookup x = some .cell
def Look (env : Env) (h : Heap) (m : Str → Option Value) (x : Str) (u : Value) : Prop :=
  (env.kindOf x = some .local ∧ m x = some u) ∨ ((env.kindOf x = some .cell ∨ env.kindOf x = some .free) ∧ ∃ c, env.cells.lookup x = some c ∧ h.IsCell c (some u))

structure Cx.Ok (X : Cx) : Prop where
  mod : Mod X.K X.mg X.base
  kind : X.env.scope.kind = .function
  glob : X.env.globals = mainGlobals
  blt : X.env.builtins = builtinsNs
  above : X.s₀.heap.objs.size ≤ X.env.locals
  inj : ∀ x y c, X.env.cells.lookup x = some c → X.env.cells.lookup y = some c → x = y
  has : ∀ x, (X.env.kindOf x = some .cell ∨ X.env.kindOf x = some .free) → ∃ c, X.env.cells.lookup x = some c
  cab : ∀ x c, X.fn x = true → X.env.cells.lookup x = some c → X.s₀.heap.objs.size ≤ c
  hd : X.calm = true → X.A.handled = none
  frames : X.A.frames = some X.stack
  stk : X.stack = X.outer ∨ (X.stack = X.env :: X.outer ∧ X.env.frame = some X.env.locals)
  exf : ∀ b ∈ X.ex, b ≠ X.env.locals ∧ ∀ x c, X.env.cells.lookup x = some c → c ≠ b
  bs : ∀ b o, X.base.get? b = some o → X.s₀.heap.get? b = some o ∧ X.H₀ b = none
  bsz : X.base.objs.size ≤ X.s₀.heap.objs.size
  noex : ∀ b o, X.base.get? b = some o → b ∉ X.ex
  exfs : ∀ b ∈ X.ex, b ∉ X.fs
  funs : X.s₀.heap.FunFrames X.base X.outer
  frf : ∀ b ∈ X.fs, X.H₀ b = none

structure Inv (X : Cx) (pins : List (Addr × Obj)) (σ : List (Option V)) (H : Hp) (s : Shared) : Prop where
  ok : X.Ok
  os : s.os = X.s₀.os
  bare : AllBare s.gens
  base : Un X.fs X.ex X.H₀ H X.s₀.heap s.heap
  loc : ∃ m, s.heap.Ns X.env.locals m ∧ ∀ (i : Nat) (x : Str) (v : V), X.N[i]? = some x → σ[i]? = some (some v) → Vis X.env.scope x → ∃ u, RelV v u ∧ Look X.env s.heap m x u
  cell : ∀ x c, X.env.cells.lookup x = some c → ∃ v, s.heap.IsCell c v
  free : H X.env.locals = none
  freeC : ∀ x c, X.env.cells.lookup x = some c → H c = none
  pin : ∀ p ∈ X.pn ++ pins, s.heap.get? p.1 = some p.2 ∧ H p.1 = none ∧ p.1 ≠ X.env.locals ∧ p.1 ∉ X.fs ∧ ∀ v, p.2.data ≠ .cell v
  hok : HOk X.prog X.w H s.heap
  len : σ.length = X.N.length

section
variable {X : Cx} {pins : List (Addr × Obj)} {σ : List (Option V)} {H H' : Hp} {s : Shared} {h' : Heap}

theorem Cx.Ok.nofr (ok : X.Ok) {b : Addr} {o : Obj} (e : X.base.get? b = some o) : b ∉ X.fs := fun hb => by
  have := (ok.funs.mem hb).1
  rw [e] at this; cases this
theorem Inv.bs (I : Inv X pins σ H s) : ∀ b o, X.base.get? b = some o → s.heap.get? b = some o ∧ H b = none := fun b o e =>
  ⟨I.base.keep b o (I.ok.bs b o e).1 (I.ok.bs b o e).2 (I.ok.nofr e) (I.ok.noex b o e), I.base.free b o (I.ok.bs b o e).1 (I.ok.bs b o e).2 (I.ok.noex b o e)⟩
theorem Inv.bk (I : Inv X pins σ H s) : ∀ b o, X.base.get? b = some o → s.heap.get? b = some o := fun b o e => (I.bs b o e).1
theorem Inv.mod (I : Inv X pins σ H s) : Mod X.K X.mg X.base := I.ok.mod
theorem Inv.kIn (I : Inv X pins σ H s) : X.K.In s.heap := I.ok.mod.kin.keeps I.bk
theorem Inv.nolimit (I : Inv X pins σ H s) : s.heap.NoLimit := I.ok.mod.nolimit.keeps I.bk
/-- the frame over the base: for OpenK's rules (K.In X.base is I.mod.kin) -/
theorem Inv.fr (I : Inv X pins σ H s) : ∃ m, Fr X.base X.env.locals s.heap m :=
  let ⟨m, hn, _⟩ := I.loc
  ⟨m, hn, I.bk, Nat.le_trans I.ok.bsz I.ok.above⟩
theorem Inv.lt (I : Inv X pins σ H s) : X.env.locals < s.heap.objs.size := let ⟨_, hn, _⟩ := I.loc; hn.lt
theorem Inv.sz (I : Inv X pins σ H s) : X.s₀.heap.objs.size ≤ s.heap.objs.size := Nat.le_trans I.ok.above (Nat.le_of_lt I.lt)
theorem Inv.nofs (I : Inv X pins σ H s) {a : Addr} (h : s.heap.objs.size ≤ a) : a ∉ X.fs := fun hb => by
  obtain ⟨_, o, ho, _⟩ := I.ok.funs.mem hb
  exact absurd (Nat.lt_of_lt_of_le (Heap.lt_size ho) (Nat.le_trans I.sz h)) (Nat.lt_irrefl _)
theorem Inv.cne (I : Inv X pins σ H s) : ∀ x c, X.env.cells.lookup x = some c → c ≠ X.env.locals := fun x c e z => by
  obtain ⟨v, o, ho, hd⟩ := I.cell x c e
  obtain ⟨m, ⟨o', es, ep, ho', hd', _⟩, _⟩ := I.loc
  rw [z, ho'] at ho; cases ho; rw [hd'] at hd; cases hd
theorem Inv.funs (I : Inv X pins σ H s) : s.heap.FunFrames X.base X.outer := by
  have all : ∀ (l : List Env), (∀ b ∈ frs l, b ∈ X.fs) → X.s₀.heap.FunFrames X.base l → s.heap.FunFrames X.base l := by
    intro l
    induction l with
    | nil => intro _ _; trivial
    | cons env r ih =>
      intro hs hl
      obtain ⟨hk, ⟨L, o, hf, hn, ho, hd⟩, hr⟩ := hl
      have hL : L ∈ X.fs := hs L (by unfold frs; rw [List.filterMap_cons, hf]; exact List.mem_cons_self)
      obtain ⟨sl, e⟩ := I.base.slot L o ho (I.ok.frf L hL) hL fun z => I.ok.exfs L z hL
      exact ⟨hk, ⟨L, _, hf, hn, e, hd⟩, ih (fun b hb => hs b (by unfold frs; rw [List.filterMap_cons, hf]; exact List.mem_cons_of_mem _ hb)) hr⟩
  exact all X.outer (fun _ hb => hb) I.ok.funs

/-- the frames that run, for a call -/
theorem Inv.stack (I : Inv X pins σ H s) : s.heap.FunFrames X.base X.stack := by
  rcases I.ok.stk with e | ⟨e, hf⟩
  · rw [e]; exact I.funs
  · rw [e]
    obtain ⟨m, hn, _⟩ := I.loc
    refine .cons (by rw [I.ok.kind]; decide) hf hn ?_ I.funs
    exact Heap.get?_none_of_le (Nat.le_trans I.ok.bsz I.ok.above)
theorem Inv.stkSub (I : Inv X pins σ H s) : ∀ b ∈ frs X.stack, b ∈ X.env.locals :: X.fs := fun b hb => by
  rcases I.ok.stk with e | ⟨e, hf⟩
  · rw [e] at hb; exact List.mem_cons_of_mem _ hb
  · rw [e] at hb
    unfold frs at hb
    rw [List.filterMap_cons, hf] at hb
    exact hb
theorem Inv.stkFree (I : Inv X pins σ H s) : ∀ b ∈ frs X.stack, H b = none := fun b hb => by
  rcases List.mem_cons.mp (I.stkSub b hb) with e | hb
  · rw [e]; exact I.free
  · obtain ⟨_, o, ho, _⟩ := I.ok.funs.mem hb
    exact I.base.free b o ho (I.ok.frf b hb) fun z => I.ok.exfs b z hb

/-- THE STEP: the untracked objects but the frame and the records at ch are kept (the callers' frames up to slots), the frame's map is kept, the new abstract heap is held -/
theorem Inv.step {g' : Array GenState} {t' : Nat} {d' : Drawn} {ch : List Addr} (I : Inv X pins σ H s)
    (hch : ∀ b ∈ ch, (b ∈ X.ex ∨ X.s₀.heap.objs.size ≤ b) ∧ b ≠ X.env.locals ∧ (∀ x c, X.env.cells.lookup x = some c → c ≠ b) ∧ ∀ p ∈ X.pn ++ pins, p.1 ≠ b)
    (keep : ∀ b o, b ≠ X.env.locals → b ∉ X.fs → b ∉ ch → s.heap.get? b = some o → H b = none → h'.get? b = some o)
    (slot : ∀ b o, b ≠ X.env.locals → b ∈ X.fs → b ∉ ch → s.heap.get? b = some o → H b = none → ∃ sl, h'.get? b = some { o with slots := sl }) (free : ∀ b o, b ∉ ch → s.heap.get? b = some o → H b = none → H' b = none)
    (there : ∀ b o, b ∉ ch → s.heap.get? b = some o → ∃ o', h'.get? b = some o')
    (tups : ∀ b xs, H b = some (.tup xs) → H' b = some (.tup xs)) (frzs : ∀ b o u, H b = some (.frz o u) → H' b = some (.frz o u)) (tbls : ∀ b ps, H b = some (.tbl ps) → ∃ more, H' b = some (.tbl (ps ++ more)))
    (ns : ∀ m, s.heap.Ns X.env.locals m → h'.Ns X.env.locals m) (hok : HOk X.prog X.w H' h') (hg : AllBare g') :
    Inv X pins σ H' { s with heap := h', gens := g', drawn := d', toks := t' } := by
  have neL : ∀ b o, X.s₀.heap.get? b = some o → b ≠ X.env.locals := fun b o e => Nat.ne_of_lt (Nat.lt_of_lt_of_le (Heap.lt_size e) I.ok.above)
  have neC : ∀ b o, X.s₀.heap.get? b = some o → b ∉ X.ex → b ∉ ch := fun b o e hx hb => by
    rcases (hch b hb).1 with z | z
    · exact hx z
    · exact absurd (Nat.lt_of_lt_of_le (Heap.lt_size e) z) (Nat.lt_irrefl _)
  have cellK : ∀ x c, X.env.cells.lookup x = some c → ∀ v, s.heap.IsCell c v → h'.IsCell c v := fun x c e v ⟨o, ho, hd⟩ => by
    have nch : c ∉ ch := fun z => (hch c z).2.2.1 x c e rfl
    by_cases hc : c ∈ X.fs
    · obtain ⟨sl, q⟩ := slot c o (I.cne x c e) hc nch ho (I.freeC x c e)
      exact ⟨_, q, hd⟩
    · exact ⟨o, keep c o (I.cne x c e) hc nch ho (I.freeC x c e), hd⟩
  refine ⟨I.ok, I.os, hg, ⟨fun b o e n hb hx => ?_, fun b o e n hb hx => ?_, fun b o e n hx => ?_, fun b o e hx => ?_, fun b xs e => tups b xs (I.base.tups b xs e), fun b o xs e => frzs b o xs (I.base.frzs b o xs e), fun b ps e => ?_⟩, ?_, fun x c e => ?_, ?_, fun x c e => ?_, fun p hp => ?_, hok, I.len⟩
  · exact keep b o (neL b o e) hb (neC b o e hx) (I.base.keep b o e n hb hx) (I.base.free b o e n hx)
  · obtain ⟨sl, e1⟩ := I.base.slot b o e n hb hx
    obtain ⟨sl', e2⟩ := slot b _ (neL b o e) hb (neC b o e hx) e1 (I.base.free b o e n hx)
    exact ⟨sl', e2⟩
  · obtain ⟨o', e1⟩ := I.base.there b o e hx
    exact free b o' (neC b o e hx) e1 (I.base.free b o e n hx)
  · obtain ⟨o', e1⟩ := I.base.there b o e hx
    exact there b o' (neC b o e hx) e1
  · obtain ⟨m1, e1⟩ := I.base.tbls b ps e
    obtain ⟨m2, e2⟩ := tbls b _ e1
    exact ⟨m1 ++ m2, by rw [e2, Array.append_assoc]⟩
  · obtain ⟨m, hn, hl⟩ := I.loc
    refine ⟨m, ns m hn, fun i x v e1 e2 e3 => ?_⟩
    obtain ⟨u, r, l⟩ := hl i x v e1 e2 e3
    refine ⟨u, r, ?_⟩
    rcases l with l | ⟨k, c, e, z⟩
    · exact .inl l
    · exact .inr ⟨k, c, e, cellK x c e _ z⟩
  · obtain ⟨v, z⟩ := I.cell x c e
    exact ⟨v, cellK x c e v z⟩
  · obtain ⟨m, ⟨o, _, _, ho, _⟩, _⟩ := I.loc
    exact free _ o (fun z => (hch _ z).2.1 rfl) ho I.free
  · obtain ⟨v, o, ho, hd⟩ := I.cell x c e
    exact free c o (fun z => (hch c z).2.2.1 x c e rfl) ho (I.freeC x c e)
  · obtain ⟨e, n, ne, nf, d⟩ := I.pin p hp
    have nch : p.1 ∉ ch := fun z => (hch p.1 z).2.2.2 p hp rfl
    exact ⟨keep p.1 p.2 ne nf nch e n, free p.1 p.2 nch e n, ne, nf, d⟩
/-- .. where the frame's own object is kept too -/
theorem Inv.un {t' : Nat} (I : Inv X pins σ H s) (u : Un X.fs [] H H' s.heap h') (hok : HOk X.prog X.w H' h') : Inv X pins σ H' { s with heap := h', toks := t' } := by
  obtain ⟨m, ⟨o, es, ep, ho, r⟩, _⟩ := id I.loc
  obtain ⟨sl, hL⟩ := u.any ho I.free (by simp)
  exact I.step (g' := s.gens) (d' := s.drawn) (ch := []) (fun _ z => nomatch z) (fun b o _ hb _ e n => u.keep b o e n hb (by simp)) (fun b o _ hb _ e n => u.slot b o e n hb (by simp)) (fun b o _ e n => u.free b o e n (by simp)) (fun b o _ e => u.there b o e (by simp)) u.tups u.frzs u.tbls (fun m' hm => by
    obtain ⟨o', es', ep', ho', r'⟩ := hm
    rw [ho] at ho'; cases ho'
    exact ⟨_, es', ep', hL, r'⟩) hok I.bare
/-- behind a call (or a comprehension's block): the slots of this frame may have changed too, the records at ch may have turned -/
theorem Inv.call {g' : Array GenState} {t' : Nat} {d' : Drawn} {ch : List Addr} (I : Inv X pins σ H s) (u : Un (frs X.stack) ch H H' s.heap h') (hok : HOk X.prog X.w H' h') (hg : AllBare g')
    (hch : ∀ b ∈ ch, (b ∈ X.ex ∨ X.s₀.heap.objs.size ≤ b) ∧ b ≠ X.env.locals ∧ (∀ x c, X.env.cells.lookup x = some c → c ≠ b) ∧ ∀ p ∈ X.pn ++ pins, p.1 ≠ b) :
    Inv X pins σ H' { s with heap := h', gens := g', drawn := d', toks := t' } := by
  obtain ⟨m, ⟨o, es, ep, ho, r⟩, _⟩ := id I.loc
  obtain ⟨sl, hL⟩ := u.any ho I.free fun z => (hch _ z).2.1 rfl
  exact I.step (ch := ch) hch (fun b o hL hb hc e n => u.keep b o e n (fun z => (List.mem_cons.mp (I.stkSub b z)).elim hL hb) hc) (fun b o _ _ hc e n => u.any e n hc) (fun b o hc e n => u.free b o e n hc) (fun b o hc e => u.there b o e hc) u.tups u.frzs u.tbls (fun m' hm => by
    obtain ⟨o', es', ep', ho', r'⟩ := hm
    rw [ho] at ho'; cases ho'
    exact ⟨_, es', ep', hL, r'⟩) hok hg
/-- an untracked record of ours (an iterator) has turned -/
theorem Inv.turned {t' : Nat} {it : Addr} (I : Inv X pins σ H s) (k : ∀ b o, b ≠ it → s.heap.get? b = some o → h'.get? b = some o) (hn : H it = none) (hL : it ≠ X.env.locals)
    (h1 : it ∈ X.ex ∨ X.s₀.heap.objs.size ≤ it) (h2 : ∀ x c, X.env.cells.lookup x = some c → c ≠ it) (h3 : ∀ p ∈ X.pn ++ pins, p.1 ≠ it) : Inv X pins σ H { s with heap := h', toks := t' } := by
  have nit : ∀ b u, H b = some u → b ≠ it := fun b u e z => by rw [z, hn] at e; cases e
  refine I.step (g' := s.gens) (d' := s.drawn) (ch := [it]) (fun b hb => ?_) (fun b o _ _ hc e _ => k b o (fun z => hc (by simp [z])) e) (fun b o _ _ hc e _ => ⟨o.slots, k b o (fun z => hc (by simp [z])) e⟩) (fun _ _ _ _ n => n)
    (fun b o hc e => ⟨o, k b o (fun z => hc (by simp [z])) e⟩) (fun _ _ e => e) (fun _ _ _ e => e) (fun b ps e => ⟨#[], by rw [e]; simp⟩) (fun m hm => ?_) (fun b u e => ?_) I.bare
  · have e : b = it := by simpa using hb
    subst e
    exact ⟨h1, hL, h2, h3⟩
  · obtain ⟨o, es, ep, ho, r⟩ := hm
    exact ⟨o, es, ep, k _ o (Ne.symm hL) ho, r⟩
  · refine (I.hok b u e).stay (fun c v hc q => k c v ?_ q) (fun _ q => q) fun _ _ q => q
    rcases hc with z | z
    · rw [z]; exact nit b u e
    · exact nit c _ z
theorem Inv.tok (I : Inv X pins σ H s) (t : Nat) : Inv X pins σ H { s with toks := t } := I.un (h' := s.heap) (t' := t) Un.refl I.hok
/-- all objects kept -/
theorem Inv.kept {t' : Nat} (I : Inv X pins σ H s) (k : ∀ b u, s.heap.get? b = some u → h'.get? b = some u) : Inv X pins σ H { s with heap := h', toks := t' } := I.un (Un.kept k) (I.hok.kept k)
/-- a new object laid and tracked -/
theorem Inv.laid {a : Addr} {o : HO} {t' : Nat} (I : Inv X pins σ H s) (k : ∀ b u, s.heap.get? b = some u → h'.get? b = some u) (hp : s.heap.objs.size ≤ a) (new : ObjOk X.prog X.w (upd H a o) h' a o) :
    Inv X pins σ (upd H a o) { s with heap := h', toks := t' } := I.un (Un.laid k hp (I.hok.fresh hp)) (I.hok.laid k hp new)
/-- an object written -/
theorem Inv.write {x e : Addr} {o : HO} {t' : Nat} (I : Inv X pins σ H s) (mu : Mut (H x)) (he : e = x ∨ H e = some (.own x)) (k : ∀ b u, b ≠ e → s.heap.get? b = some u → h'.get? b = some u) (heo : ∃ u, h'.get? e = some u)
    (new : ObjOk X.prog X.w (upd H x o) h' x o) : Inv X pins σ (upd H x o) { s with heap := h', toks := t' } := I.un (Un.write mu he k heo) (I.hok.write mu he k heo new)
theorem Inv.pins_of {pins' : List (Addr × Obj)} (I : Inv X pins σ H s) (h : ∀ p ∈ pins', s.heap.get? p.1 = some p.2 ∧ H p.1 = none ∧ p.1 ≠ X.env.locals ∧ p.1 ∉ X.fs ∧ ∀ v, p.2.data ≠ .cell v) : Inv X pins' σ H s :=
  ⟨I.ok, I.os, I.bare, I.base, I.loc, I.cell, I.free, I.freeC, fun p hp => (List.mem_append.mp hp).elim (fun z => I.pin p (List.mem_append_left _ z)) (h p), I.hok, I.len⟩

theorem nodup_ix {N : List Str} (hN : N.Nodup) {i j : Nat} {x : Str} (a : N[i]? = some x) (b : N[j]? = some x) : i = j := by
  obtain ⟨h1, e1⟩ := List.getElem?_eq_some_iff.mp a
  obtain ⟨h2, e2⟩ := List.getElem?_eq_some_iff.mp b
  exact (List.getElem_inj hN).mp (e1.trans e2.symm)

/-- a name is stored; what changed -/
theorem store_ok2 {M : Model} {A : Around} {E : Value → Shared → Prop} {i : Nat} {x : Str} {v : V} {u : Value} {Q : Unit → Shared → Prop} (I : Inv X pins σ H s) (hN : X.N.Nodup) (hi : X.N[i]? = some x) (hx : Loc X.env.scope x) (r : RelV v u)
    (h : ∀ s', Inv X pins (σ.set i (some v)) H s' → (∃ a, Heap.SameBut a s.heap s'.heap ∧ (a = X.env.locals ∨ X.env.cells.lookup x = some a)) → Q () s') (hf : X.fn x = true ∨ X.env.scope.names.lookup x = some .local := by first | exact .inl rfl | exact .inr rfl | assumption) : wpAny M A (storeName X.env x u) Q E s := by
  obtain ⟨m, hn, hl⟩ := id I.loc
  have hcls : (X.env.scope.kind == .class || (X.env.scope.kind == .module && X.env.locals != X.env.globals)) = false := by rw [I.ok.kind]; rfl
  have hiσ : i < σ.length := by rw [I.len]; exact (List.getElem?_eq_some_iff.mp hi).1
  have cne := I.cne
  have tracked : ∀ {a : Addr} {h' : Heap}, (∃ o, s.heap.get? a = some o ∧ H a = none) → Heap.SameBut a s.heap h' → HOk X.prog X.w H h' := fun {a h'} ha hs b ob e => by
    obtain ⟨_, _, hfree⟩ := ha
    refine (I.hok b ob e).stay (fun c w' hc q => (hs.2 c ?_).trans q) (fun _ q => q) fun _ _ q => q
    rintro rfl
    rcases hc with rfl | hc
    · rw [hfree] at e; cases e
    · rw [hfree] at hc; cases hc
  rcases hx with hk | hk
  · refine wpAny_storeName_local hk hn (fun h' hn' hs => ?_) hcls
    obtain ⟨oL, _, _, hoL, _⟩ := id hn
    refine h _ ⟨I.ok, I.os, I.bare, ⟨fun b o e n hb hx => ?_, fun b o e n hb hx => ?_, I.base.free, fun b o e hx => ?_, I.base.tups, I.base.frzs, I.base.tbls⟩, ⟨_, hn', fun j y v' e1 e2 e3 => ?_⟩, fun y c e => ?_, I.free, I.freeC, fun p hp => ?_, tracked ⟨oL, hoL, I.free⟩ hs, by simpa using I.len⟩ ⟨_, hs, .inl rfl⟩
    · exact (hs.2 b (Nat.ne_of_lt (Nat.lt_of_lt_of_le (Heap.lt_size e) I.ok.above))).trans (I.base.keep b o e n hb hx)
    · obtain ⟨sl, e1⟩ := I.base.slot b o e n hb hx
      exact ⟨sl, (hs.2 b (Nat.ne_of_lt (Nat.lt_of_lt_of_le (Heap.lt_size e) I.ok.above))).trans e1⟩
    · obtain ⟨o', e1⟩ := I.base.there b o e hx
      exact ⟨o', (hs.2 b (Nat.ne_of_lt (Nat.lt_of_lt_of_le (Heap.lt_size e) I.ok.above))).trans e1⟩
    · by_cases hj : j = i
      · subst hj
        rw [hi] at e1; cases e1
        rw [List.getElem?_set_self hiσ] at e2
        cases e2
        exact ⟨u, r, .inl ⟨hk, by simp⟩⟩
      · rw [List.getElem?_set_ne (Ne.symm hj)] at e2
        obtain ⟨u', r', q⟩ := hl j y v' e1 e2 e3
        refine ⟨u', r', ?_⟩
        rcases q with ⟨k, e⟩ | ⟨k, c, e, z⟩
        · refine .inl ⟨k, ?_⟩
          have : y ≠ x := fun e => hj (nodup_ix hN e1 (e ▸ hi))
          simp [this, e]
        · exact .inr ⟨k, c, e, z.sameBut hs (cne y c e)⟩
    · obtain ⟨w', z⟩ := I.cell y c e
      exact ⟨w', z.sameBut hs (cne y c e)⟩
    · obtain ⟨e, n, ne, nf, d⟩ := I.pin p hp
      exact ⟨(hs.2 p.1 ne).trans e, n, ne, nf, d⟩
  · have hfn : X.fn x = true := by
      rcases hf with z | z
      · exact z
      · rw [z] at hk; cases hk
    obtain ⟨c, hc⟩ := I.ok.has x (.inl hk)
    obtain ⟨w', z⟩ := I.cell x c hc
    refine wpAny_storeName_cell I.ok.kind hk hc z (fun h' hc' hs => ?_)
    obtain ⟨oc, hoc, hocd⟩ := id z
    refine h { s with heap := h' } ⟨I.ok, I.os, I.bare, ⟨fun b o e n hb hx => ?_, fun b o e n hb hx => ?_, I.base.free, fun b o e hx => ?_, I.base.tups, I.base.frzs, I.base.tbls⟩, ⟨m, hn.sameBut hs (Ne.symm (cne x c hc)), fun j y v' e1 e2 e3 => ?_⟩, fun y c' e => ?_, I.free, I.freeC, fun p hp => ?_, tracked ⟨oc, hoc, I.freeC x c hc⟩ hs, by simpa using I.len⟩ ⟨c, hs, .inr hc⟩
    · exact (hs.2 b (Nat.ne_of_lt (Nat.lt_of_lt_of_le (Heap.lt_size e) (I.ok.cab x c hfn hc)))).trans (I.base.keep b o e n hb hx)
    · obtain ⟨sl, e1⟩ := I.base.slot b o e n hb hx
      exact ⟨sl, (hs.2 b (Nat.ne_of_lt (Nat.lt_of_lt_of_le (Heap.lt_size e) (I.ok.cab x c hfn hc)))).trans e1⟩
    · obtain ⟨o', e1⟩ := I.base.there b o e hx
      exact ⟨o', (hs.2 b (Nat.ne_of_lt (Nat.lt_of_lt_of_le (Heap.lt_size e) (I.ok.cab x c hfn hc)))).trans e1⟩
    · by_cases hj : j = i
      · subst hj
        rw [hi] at e1; cases e1
        rw [List.getElem?_set_self hiσ] at e2
        cases e2
        exact ⟨u, r, .inr ⟨.inl hk, c, hc, hc'⟩⟩
      · rw [List.getElem?_set_ne (Ne.symm hj)] at e2
        obtain ⟨u', r', q⟩ := hl j y v' e1 e2 e3
        refine ⟨u', r', ?_⟩
        rcases q with q | ⟨k, c', e, z'⟩
        · exact .inl q
        · refine .inr ⟨k, c', e, z'.sameBut hs ?_⟩
          rintro rfl
          exact hj (nodup_ix hN e1 (I.ok.inj _ _ _ e hc ▸ hi))
    · by_cases hcc : c' = c
      · subst hcc; exact ⟨_, hc'⟩
      · obtain ⟨w2, z2⟩ := I.cell y c' e
        exact ⟨w2, z2.sameBut hs hcc⟩
    · obtain ⟨e, n, ne, nf, d⟩ := I.pin p hp
      refine ⟨(hs.2 p.1 ?_).trans e, n, ne, nf, d⟩
      intro q
      rw [q, hoc] at e
      have q' : oc = p.2 := Option.some.inj e
      exact d w' (by rw [← q']; exact hocd)
theorem store_ok {M : Model} {A : Around} {E : Value → Shared → Prop} {i : Nat} {x : Str} {v : V} {u : Value} {Q : Unit → Shared → Prop} (I : Inv X pins σ H s) (hN : X.N.Nodup) (hi : X.N[i]? = some x) (hx : Loc X.env.scope x) (r : RelV v u)
    (h : ∀ s', Inv X pins (σ.set i (some v)) H s' → Q () s') (hf : X.fn x = true ∨ X.env.scope.names.lookup x = some .local := by first | exact .inl rfl | exact .inr rfl | assumption) : wpAny M A (storeName X.env x u) Q E s :=
  store_ok2 I hN hi hx r (fun s' I' _ => h s' I') hf
/-- behind a call or a block, the state as it is -/
theorem Inv.call' {s' : Shared} {ch : List Addr} (I : Inv X pins σ H s) (ho : s'.os = s.os) (u : Un (frs X.stack) ch H H' s.heap s'.heap) (hok : HOk X.prog X.w H' s'.heap) (hg : AllBare s'.gens)
    (hch : ∀ b ∈ ch, (b ∈ X.ex ∨ X.s₀.heap.objs.size ≤ b) ∧ b ≠ X.env.locals ∧ (∀ x c, X.env.cells.lookup x = some c → c ≠ b) ∧ ∀ p ∈ X.pn ++ pins, p.1 ≠ b) : Inv X pins σ H' s' := by
  obtain ⟨h', g', d', t', o'⟩ := s'
  have e : o' = s.os := ho
  subst e
  exact I.call (g' := g') (t' := t') (d' := d') u hok hg hch
end

/-! ### the judgements -/
/-- an exception: its class, its own dict's address (where it has one), the abstract heap behind it -/
abbrev XK := Value → Option Addr → Hp → Prop
abbrev St := List (Option V)
abbrev VK := V → Hp → Prop
/-- an expression's reading; a test's; an argument list's -/
abbrev TE := St → Hp → VK → Prop
abbrev TT := St → Hp → (Bool → Hp → Prop) → Prop
abbrev TA := St → Hp → (List V → Hp → Prop) → Prop
/-- what is wanted behind a statement -/
structure Ends where
  nx : St → Hp → Prop
  rt : VK
  bk : St → Hp → Prop := fun _ _ => False
  ct : St → Hp → Prop := fun _ _ => False
abbrev TS := Ends → St → Hp → Prop

def EP (X : Cx) (pins : List (Addr × Obj)) (σ : St) (Q : VK) (u : Value) (s' : Shared) : Prop := ∃ v H', Inv X pins σ H' s' ∧ RelV v u ∧ Q v H'
def TP (X : Cx) (pins : List (Addr × Obj)) (σ : St) (Q : Bool → Hp → Prop) (b : Bool) (s' : Shared) : Prop := ∃ H', Inv X pins σ H' s' ∧ Q b H'
def AP (X : Cx) (pins : List (Addr × Obj)) (σ : St) (Q : List V → Hp → Prop) (us : List Value) (s' : Shared) : Prop := ∃ vs H', Inv X pins σ H' s' ∧ Vals vs us ∧ Q vs H'
def SP (X : Cx) (pins : List (Addr × Obj)) (D : Ends) (f : Flow) (s' : Shared) : Prop :=
  match f with
  | .next => ∃ σ' H', Inv X pins σ' H' s' ∧ D.nx σ' H'
  | .brk => ∃ σ' H', Inv X pins σ' H' s' ∧ D.bk σ' H'
  | .cont => ∃ σ' H', Inv X pins σ' H' s' ∧ D.ct σ' H'
  | .ret u => ∃ v σ' H', Inv X pins σ' H' s' ∧ RelV v u ∧ D.rt v H'

def PE (X : Cx) (e : Expr) (t : TE) : Prop :=
  ∀ (pins : List (Addr × Obj)) (s : Shared) (σ : St) (H : Hp) (Q : VK), Inv X pins σ H s → t σ H Q → wpAny (model X.prog X.w) X.A (eval e X.env) (EP X pins σ Q) X.xe s
def PT (X : Cx) (e : Expr) (t : TT) : Prop :=
  ∀ (pins : List (Addr × Obj)) (s : Shared) (σ : St) (H : Hp) (Q : Bool → Hp → Prop), Inv X pins σ H s → t σ H Q → wpAny (model X.prog X.w) X.A (isTrue e X.env (eval e X.env)) (TP X pins σ Q) X.xe s
/-- a test whatever its 'whole' is (and, or) -/
def PW (X : Cx) (e : Expr) (t : TT) : Prop :=
  ∀ (whole : Sem Value) (pins : List (Addr × Obj)) (s : Shared) (σ : St) (H : Hp) (Q : Bool → Hp → Prop), Inv X pins σ H s → t σ H Q → wpAny (model X.prog X.w) X.A (isTrue e X.env whole) (TP X pins σ Q) X.xe s
theorem PW.pt {X : Cx} {e : Expr} {t : TT} (h : PW X e t) : PT X e t := h _
/-- an argument list (no star), from the left -/
def PA (X : Cx) (es : List Expr) (t : TA) : Prop :=
  ∀ (pos : Pos) (pins : List (Addr × Obj)) (s : Shared) (σ : St) (H : Hp) (Q : List V → Hp → Prop), Inv X pins σ H s → t σ H Q → wpAny (model X.prog X.w) X.A (spliced (backTo pos (starEach es X.env))) (AP X pins σ Q) X.xe s
def PS (X : Cx) (st : Stmt) (t : TS) : Prop :=
  ∀ (pins : List (Addr × Obj)) (s : Shared) (σ : St) (H : Hp) (D : Ends), Inv X pins σ H s → t D σ H → wpAny (model X.prog X.w) X.A (exec st X.env) (SP X pins D) X.xe s
def PSs (X : Cx) (st : List Stmt) (t : TS) : Prop :=
  ∀ (pins : List (Addr × Obj)) (s : Shared) (σ : St) (H : Hp) (D : Ends), Inv X pins σ H s → t D σ H → wpAny (model X.prog X.w) X.A (execs st X.env) (SP X pins D) X.xe s
/-- weaken the end -/
theorem thn {α : Type} {t : Sem α} {Q Q' : α → Shared → Prop} {M : Model} {A : Around} {E : Value → Shared → Prop} {s : Shared} (h : wpAny M A t Q E s) (hQ : ∀ a s, Q a s → Q' a s) : wpAny M A t Q' E s := wpAny_mono h hQ fun _ _ x => x
end L2

namespace L2
open PySem PySem.Spec PyProof.Rows
section
variable {X : Cx}

/-! ### names and constants -/
def tVar (i : Nat) : TE := fun σ H Q => ∃ v, σ[i]? = some (some v) ∧ Q v H
def tC (v : V) : TE := fun _ H Q => Q v H
theorem pe_var {i : Nat} {x : Str} {pos : Pos} (hN : X.N[i]? = some x) (hv : Vis X.env.scope x) (hd : (x == ("__debug__" : Str)) = false := by decide) (hcd : (x == ("__classdict__" : Str)) = false := by decide) : PE X (.Name x pos) (tVar i) := by
  intro pins s σ H Q I h
  obtain ⟨v, e, h⟩ := h
  obtain ⟨m, hn, hl⟩ := I.loc
  obtain ⟨u, r, l⟩ := hl i x v hN e hv
  have fin : EP X pins σ Q u s := ⟨v, H, I, r, h⟩
  rcases l with ⟨hk, hm⟩ | ⟨hk, c, hc, hcell⟩
  · exact wpAny_Name (wpAny_loadName_local I.ok.kind hk hn hm fin) hd
  · rcases hk with hk | hk
    · exact wpAny_Name (wpAny_loadName_cell I.ok.kind hk hc hcell fin) hd
    · exact wpAny_Name (wpAny_loadName_free I.ok.kind hk hc hcell fin hcd) hd
theorem pe_int {i j pos} : PE X (.Constant (.int i) j pos) (tC (.int i)) := fun _ _ _ H _ I h => wpAny_Constant_int ⟨.int i, H, I.tok _, ⟨_, rfl⟩, h⟩
theorem pe_bl {b j pos} : PE X (.Constant (.bool b) j pos) (tC (.bl b)) := fun _ _ _ H _ I h => Constant_bool ⟨.bl b, H, I, rfl, h⟩
theorem pe_non {j pos} : PE X (.Constant .none j pos) (tC .non) := fun _ _ _ H _ I h => Constant_none ⟨.non, H, I, rfl, h⟩
theorem pe_str {x j pos} : PE X (.Constant (.str x) j pos) (tC (.str x)) := fun _ _ _ H _ I h => Calls.Constant_str ⟨.str x, H, I.tok _, ⟨_, rfl⟩, h⟩

/-- a global name of the def -/
def Gl (X : Cx) (x : Str) : Prop := X.env.kindOf x = some .globalImplicit
theorem ld_glob {E : Value → Shared → Prop} {pins : List (Addr × Obj)} {s : Shared} {σ : St} {H : Hp} {x : Str} {u : Value} {pos : Pos} {Q : Value → Shared → Prop} (I : Inv X pins σ H s) (hg : Gl X x) (hm : X.mg x = some u) (h : Q u s)
    (hd : (x == ("__debug__" : Str)) = false := by decide) : wpAny (model X.prog X.w) X.A (eval (.Name x pos) X.env) Q E s :=
  Calls.Name_function_global I.ok.kind hg (Calls.loadGlobal_global (by rw [I.ok.glob]; exact I.mod.glob.keeps I.bk) hm h) hd
theorem ld_blt {E : Value → Shared → Prop} {pins : List (Addr × Obj)} {s : Shared} {σ : St} {H : Hp} {x : Str} {u : Value} {pos : Pos} {Q : Value → Shared → Prop} (I : Inv X pins σ H s) (hg : Gl X x) (hm : X.mg x = none) (hv : bootBuiltins x = some u) (h : Q u s)
    (hn : x ≠ "__name__" := by decide) (hd : (x == ("__debug__" : Str)) = false := by decide) : wpAny (model X.prog X.w) X.A (eval (.Name x pos) X.env) Q E s := by
  obtain ⟨mb, h1, h2⟩ := I.mod.blt
  exact Calls.Name_function_global I.ok.kind hg (Calls.loadGlobal_builtin (by rw [I.ok.glob]; exact I.mod.glob.keeps I.bk) hm (by rw [I.ok.blt]; exact h1.keeps I.bk) ((h2 x hn).trans hv) h) hd
/-- a module's constant, a class, a function, as a value -/
theorem pe_glob {x : Str} {v : V} {u : Value} {pos : Pos} (hg : Gl X x) (hm : X.mg x = some u) (r : RelV v u) (hd : (x == ("__debug__" : Str)) = false := by decide) : PE X (.Name x pos) (tC v) :=
  fun _ _ _ H _ I h => ld_glob I hg hm ⟨v, H, I, r, h⟩ hd
theorem pe_bltn {x : Str} {v : V} {u : Value} {pos : Pos} (hg : Gl X x) (hm : X.mg x = none) (hv : bootBuiltins x = some u) (r : RelV v u) (hn : x ≠ "__name__" := by decide) (hd : (x == ("__debug__" : Str)) = false := by decide) : PE X (.Name x pos) (tC v) :=
  fun _ _ _ H _ I h => ld_blt I hg hm hv ⟨v, H, I, r, h⟩ hn hd

/-! ### arithmetic -/
variable {a b : Expr} {ta tb : TE} {pos : Pos}
/-! ### comparisons -/
def PC (X : Cx) (op : CmpOp) (a b : Expr) (t : TE) : Prop :=
  ∀ (pins : List (Addr × Obj)) (s : Shared) (σ : St) (H : Hp) (Q : VK), Inv X pins σ H s → t σ H Q →
    wpAny (model X.prog X.w) X.A (eval a X.env) (fun v s₁ => wpAny (model X.prog X.w) X.A (eval b X.env) (fun u s₂ => wpAny (model X.prog X.w) X.A (compareOp op v u) (EP X pins σ Q) X.xe s₂) X.xe s₁) X.xe s
theorem nobehind (b : Expr) {op : CmpOp} (h : op ≠ .In) (h2 : op ≠ .NotIn) : behindInMarks op b = false := by
  have e1 : (op == CmpOp.In) = false := by cases op <;> first | rfl | exact absurd rfl h
  have e2 : (op == CmpOp.NotIn) = false := by cases op <;> first | rfl | exact absurd rfl h2
  cases b <;> simp [behindInMarks, e1, e2]
/-- a comparison as a value, as a test -/
def tB (t : TE) : TT := fun σ H Q => t σ H fun x H1 => ∃ c, x = .bl c ∧ Q c H1
theorem pt_cmp {op : CmpOp} {t : TE} (h : PC X op a b t) (h1 : behindInMarks op b = false := by first | exact nobehind _ (by decide) (by decide) | rfl) : PT X (.Compare a [op] [b] pos) (tB t) := by
  intro pins s σ H Q I hw
  refine wpAny_isTrue_Compare1 (thn (h pins s σ H _ I hw) fun v s1 h1 => thn h1 fun u s2 h2 => thn h2 fun c s3 ⟨x, H1, I1, r1, q1⟩ => ?_) h1
  obtain ⟨d, rfl, q⟩ := q1
  cases r1
  exact wpAny_truthy_bool ⟨H1, I1, q⟩
/-! ### and, or, not -/
variable {tA tB' : TT} {rest : List Expr}
def tAnd (t u : TT) : TT := fun σ H Q => t σ H fun c H1 => if c = true then u σ H1 Q else Q false H1
def tOr (t u : TT) : TT := fun σ H Q => t σ H fun c H1 => if c = true then Q true H1 else u σ H1 Q
def tNot (t : TT) : TT := fun σ H Q => t σ H fun c H1 => Q (!c) H1
theorem pw_and1 (ha : PT X a tA) : PW X (.BoolOp .And [a] pos) tA := by
  intro wh pins s σ H Q I h
  refine isTrue_and (thn (ha pins s σ H Q I h) fun c s1 e => ?_)
  cases c with
  | true => exact isTrue_and_nil e
  | false => exact e
theorem pw_or1 (ha : PT X a tA) : PW X (.BoolOp .Or [a] pos) tA := by
  intro wh pins s σ H Q I h
  refine isTrue_or (thn (ha pins s σ H Q I h) fun c s1 e => ?_)
  cases c with
  | false => exact isTrue_or_nil e
  | true => exact e
theorem pw_and (ha : PT X a tA) (hb : PW X (.BoolOp .And (b :: rest) pos) tB') : PW X (.BoolOp .And (a :: b :: rest) pos) (tAnd tA tB') := by
  intro wh pins s σ H Q I h
  refine isTrue_and (thn (ha pins s σ H _ I h) fun c s1 ⟨H1, I1, q1⟩ => ?_)
  cases c with
  | true => exact hb wh pins s1 σ H1 Q I1 q1
  | false => exact ⟨H1, I1, q1⟩
theorem pw_or (ha : PT X a tA) (hb : PW X (.BoolOp .Or (b :: rest) pos) tB') : PW X (.BoolOp .Or (a :: b :: rest) pos) (tOr tA tB') := by
  intro wh pins s σ H Q I h
  refine isTrue_or (thn (ha pins s σ H _ I h) fun c s1 ⟨H1, I1, q1⟩ => ?_)
  cases c with
  | true => exact ⟨H1, I1, q1⟩
  | false => exact hb wh pins s1 σ H1 Q I1 q1
theorem pt_not (ha : PT X a tA) : PT X (.UnaryOp .Not a pos) (tNot tA) := by
  intro pins s σ H Q I h
  exact isTrue_not (ha pins s σ H (fun c H1 => Q (!c) H1) I h)
/-- a if t else b -/
def tIf (t : TT) (ta tb : TE) : TE := fun σ H Q => t σ H fun c H1 => if c = true then ta σ H1 Q else tb σ H1 Q
theorem pe_ifExp {c : Expr} (hc : PT X c tA) (ha : PE X a ta) (hb : PE X b tb) : PE X (.IfExp c a b pos) (tIf tA ta tb) := by
  intro pins s σ H Q I h
  refine wpAny_IfExp (thn (hc pins s σ H _ I h) fun d s1 ⟨H1, I1, q1⟩ => ?_)
  cases d with
  | true => exact ha pins s1 σ H1 Q I1 q1
  | false => exact hb pins s1 σ H1 Q I1 q1
end
end L2

namespace L2
open PySem PySem.Spec PyProof.Rows

/-! ### a list, a tuple that is read: tracked, frozen, or an object of the module -/
def SqL (K : PySem.W.Frag) (H : Hp) (a : Addr) (xs : List V) : Prop :=
  Rd H a (.lst xs) ∨
    ∃ (o : Obj) (its : Array Value) (n : Nat), K.lookup a = some o ∧ o.cls = .type "list" ∧ o.dict = none ∧ o.data = .seq its n ∧ its.size ≤ sizeLine ∧ Vals xs its.toList
def SqT (K : PySem.W.Frag) (H : Hp) (a : Addr) (xs : List V) : Prop :=
  Rd H a (.tup xs) ∨
    ∃ (o : Obj) (its : Array Value) (n : Nat), K.lookup a = some o ∧ o.cls = .type "tuple" ∧ o.data = .seq its n ∧ its.size ≤ sizeLine ∧ Vals xs its.toList
def absV : Value → Option V
  | .none => some .non
  | .bool b => some (.bl b)
  | .int i _ => some (.int i)
  | .str x _ => some (.str x)
  | .bytes b _ => some (.byt b)
  | .float b _ => some (.flt b)
  | .ref a => some (.ref a)
  | .type n => some (.ty n)
  | _ => none
theorem RelV.abs {x : V} {u : Value} (r : RelV x u) : absV u = some x := by
  cases x with
  | non => cases r; rfl
  | bl _ => cases r; rfl
  | int _ => obtain ⟨t, rfl⟩ := r; rfl
  | str _ => obtain ⟨t, rfl⟩ := r; rfl
  | byt _ => obtain ⟨t, rfl⟩ := r; rfl
  | flt _ => obtain ⟨t, rfl⟩ := r; rfl
  | ref _ => cases r; rfl
  | ty _ => cases r; rfl
theorem RelV.inj {x y : V} {u : Value} (r : RelV x u) (q : RelV y u) : x = y := Option.some.inj (r.abs.symm.trans q.abs)
theorem Vals.inj : ∀ {xs ys : List V} {us : List Value}, Vals xs us → Vals ys us → xs = ys
  | _, _, _, .nil, .nil => rfl
  | _, _, _, .cons r t, .cons r' t' => by rw [r.inj r', Vals.inj t t']
section
variable {X : Cx} {pins : List (Addr × Obj)} {σ : St} {H : Hp} {s : Shared} {a : Addr} {xs ys : List V}
theorem SqL.of {K : PySem.W.Frag} (h : H a = some (.lst xs)) : SqL K H a xs := .inl (.inl h)
theorem SqT.of {K : PySem.W.Frag} (h : H a = some (.tup xs)) : SqT K H a xs := .inl (.inl h)
theorem Inv.list (I : Inv X pins σ H s) (h : SqL X.K H a xs) : ∃ its : List Value, Vals xs its ∧ PlainL s.heap a its.toArray ∧ xs.length ≤ sizeLine := by
  rcases h with h | ⟨o, its, n, hk, hc, hd, hs, hz, r⟩
  · obtain ⟨z, its, n, r, e⟩ := h.ok I.hok
    exact ⟨its, r, ⟨_, n, e, rfl, rfl, rfl⟩, z⟩
  · refine ⟨its.toList, r, ⟨o, n, I.kIn a o hk, hc, hd, by simpa using hs⟩, ?_⟩
    have e := r.length
    simp only [Array.length_toList] at e
    omega
theorem Inv.tuple (I : Inv X pins σ H s) (h : SqT X.K H a xs) : ∃ its : List Value, Vals xs its ∧ IsTup s.heap a its.toArray ∧ xs.length ≤ sizeLine := by
  rcases h with h | ⟨o, its, n, hk, hc, hs, hz, r⟩
  · obtain ⟨z, its, r, p⟩ := h.ok I.hok
    exact ⟨its, r, p, z⟩
  · refine ⟨its.toList, r, ⟨o, I.kIn a o hk, hc, n, by simpa using hs⟩, ?_⟩
    have e := r.length
    simp only [Array.length_toList] at e
    omega
theorem Inv.list_inj (I : Inv X pins σ H s) (h : SqL X.K H a xs) (h' : SqL X.K H a ys) : xs = ys := by
  obtain ⟨its, r, ⟨o, n, e, _, _, d⟩, _⟩ := I.list h
  obtain ⟨its', r', ⟨o', n', e', _, _, d'⟩, _⟩ := I.list h'
  rw [e] at e'; cases e'
  rw [d] at d'
  injection d' with d1 _
  have : its = its' := by simpa using congrArg Array.toList d1
  subst this
  exact r.inj r'
end

/-! ### another wish about exceptions -/
abbrev Cx.wish (X : Cx) (E : Value → Shared → Prop) : Cx := { X with xe := E }
/-- no exception leaves -/
abbrev Cx.nox (X : Cx) : Cx := X.wish fun _ _ => False
theorem Cx.Ok.wish {X : Cx} (ok : X.Ok) (E : Value → Shared → Prop) : (X.wish E).Ok :=
  ⟨ok.mod, ok.kind, ok.glob, ok.blt, ok.above, ok.inj, ok.has, ok.cab, ok.hd, ok.frames, ok.stk, ok.exf, ok.bs, ok.bsz, ok.noex, ok.exfs, ok.funs, ok.frf⟩
theorem Cx.Ok.unwish {X : Cx} {E : Value → Shared → Prop} (ok : (X.wish E).Ok) : X.Ok :=
  ⟨ok.mod, ok.kind, ok.glob, ok.blt, ok.above, ok.inj, ok.has, ok.cab, ok.hd, ok.frames, ok.stk, ok.exf, ok.bs, ok.bsz, ok.noex, ok.exfs, ok.funs, ok.frf⟩
section
variable {X : Cx} {pins : List (Addr × Obj)} {σ : St} {H : Hp} {s : Shared} {E : Value → Shared → Prop}
theorem Inv.wish (I : Inv X pins σ H s) (E : Value → Shared → Prop) : Inv (X.wish E) pins σ H s := ⟨I.ok.wish E, I.os, I.bare, I.base, I.loc, I.cell, I.free, I.freeC, I.pin, I.hok, I.len⟩
theorem Inv.unwish (I : Inv (X.wish E) pins σ H s) : Inv X pins σ H s := ⟨I.ok.unwish, I.os, I.bare, I.base, I.loc, I.cell, I.free, I.freeC, I.pin, I.hok, I.len⟩
theorem SP.unwish {D : Ends} {f : Flow} {s' : Shared} (h : SP (X.wish E) pins D f s') : SP X pins D f s' := by
  cases f with
  | next => obtain ⟨σ', H', I, q⟩ := h; exact ⟨σ', H', I.unwish, q⟩
  | brk => obtain ⟨σ', H', I, q⟩ := h; exact ⟨σ', H', I.unwish, q⟩
  | cont => obtain ⟨σ', H', I, q⟩ := h; exact ⟨σ', H', I.unwish, q⟩
  | ret u => obtain ⟨v, σ', H', I, r, q⟩ := h; exact ⟨v, σ', H', I.unwish, r, q⟩
theorem PE.nox {e : Expr} {t : TE} (h : PE X.nox e t) : PE X e t := fun pins s σ H Q I hw =>
  wpAny_mono (h pins s σ H Q (I.wish _) hw) (fun _ _ ⟨v, H', I', r, q⟩ => ⟨v, H', I'.unwish, r, q⟩) fun _ _ z => False.elim z
theorem PT.nox {e : Expr} {t : TT} (h : PT X.nox e t) : PT X e t := fun pins s σ H Q I hw =>
  wpAny_mono (h pins s σ H Q (I.wish _) hw) (fun _ _ ⟨H', I', q⟩ => ⟨H', I'.unwish, q⟩) fun _ _ z => False.elim z
theorem PSs.nox {st : List Stmt} {t : TS} (h : PSs X.nox st t) : PSs X st t := fun pins s σ H D I hw =>
  wpAny_mono (h pins s σ H D (I.wish _) hw) (fun _ _ q => q.unwish) fun _ _ z => False.elim z
end

/-! ### blocks and small statements -/
section
variable {X : Cx} {st : Stmt} {rest : List Stmt} {t u : TS} {e : Expr} {te : TE} {pos : Pos}
def tNext : TS := fun D σ H => D.nx σ H
def tSeq (t u : TS) : TS := fun D σ H => t { D with nx := u D } σ H
theorem pss_nil : PSs X [] tNext := fun _ _ σ H _ I h => wpAny_execs_nil ⟨σ, H, I, h⟩
theorem pss_cons (h1 : PS X st t) (h2 : PSs X rest u) : PSs X (st :: rest) (tSeq t u) := by
  intro pins s σ H D I h
  refine wpAny_execs_cons (thn (h1 pins s σ H { D with nx := u D } I h) fun f s1 q => ?_)
  cases f with
  | next =>
    obtain ⟨σ', H', I', q⟩ := q
    exact h2 pins s1 σ' H' D I' q
  | ret v => exact q
  | brk => exact q
  | cont => exact q
theorem pss_one (h1 : PS X st t) : PSs X [st] t := by
  intro pins s σ H D I h
  refine wpAny_execs_cons (thn (h1 pins s σ H D I h) fun f s1 q => ?_)
  cases f with
  | next => exact wpAny_execs_nil q
  | ret v => exact q
  | brk => exact q
  | cont => exact q
/-- in a def's body nothing is shown -/
theorem Inv.quiet {pins : List (Addr × Obj)} {σ : St} {H : Hp} {s : Shared} (I : Inv X pins σ H s) : interactive X.env = false := by simp [interactive, I.ok.kind]
/-- an expression whose value is dropped -/
def tDrop (te : TE) : TS := fun D σ H => te σ H fun _ H1 => D.nx σ H1
theorem ps_expr (he : PE X e te) (hs : swapsWith e none pos.line X.env = pure false := by rfl) : PS X (.Expr e pos) (tDrop te) := by
  intro pins s σ H D I h
  exact wpAny_Expr_any (thn (he pins s σ H _ I h) fun v s1 ⟨x, H1, I1, r1, q1⟩ => ⟨σ, H1, I1, q1⟩) I.quiet hs
def tRet (te : TE) : TS := fun D σ H => te σ H D.rt
theorem ps_ret (he : PE X e te) : PS X (.Return (some e) pos) (tRet te) := by
  intro pins s σ H D I h
  exact wpAny_Return_some (thn (he pins s σ H _ I h) fun v s1 ⟨x, H1, I1, r1, q1⟩ => ⟨x, σ, H1, I1, r1, q1⟩)
def tIfS (c : TT) (t u : TS) : TS := fun D σ H => c σ H fun b H1 => if b = true then t D σ H1 else u D σ H1
theorem ps_if {c : Expr} {a b : List Stmt} {tc : TT} (hc : PT X c tc) (ha : PSs X a t) (hb : PSs X b u) : PS X (.If c a b pos) (tIfS tc t u) := by
  intro pins s σ H D I h
  refine wpAny_If (thn (hc pins s σ H _ I h) fun d s1 ⟨H1, I1, q1⟩ => ?_)
  cases d with
  | true => exact ha pins s1 σ H1 D I1 q1
  | false => exact hb pins s1 σ H1 D I1 q1
end

/-! ### targets -/
abbrev TG := V → St → Hp → (St → Hp → Prop) → Prop
abbrev TGs := List V → St → Hp → (St → Hp → Prop) → Prop
def PG (X : Cx) (target : Expr) (t : TG) : Prop :=
  ∀ (pins : List (Addr × Obj)) (s : Shared) (σ : St) (H : Hp) (v : V) (u : Value) (Q : St → Hp → Prop), Inv X pins σ H s → RelV v u → t v σ H Q →
    wpAny (model X.prog X.w) X.A (assign target X.env u) (fun _ s' => ∃ σ' H', Inv X pins σ' H' s' ∧ Q σ' H') X.xe s
/-- several targets, one after another -/
def PGs (X : Cx) (ts : List Expr) (t : TGs) : Prop :=
  ∀ (pins : List (Addr × Obj)) (s : Shared) (σ : St) (H : Hp) (vs : List V) (us : List Value) (Q : St → Hp → Prop), Inv X pins σ H s → Vals vs us → t vs σ H Q →
    wpAny (model X.prog X.w) X.A (assignInOrder ((assignEach ts X.env).map (·.2)) us) (fun _ s' => ∃ σ' H', Inv X pins σ' H' s' ∧ Q σ' H') X.xe s
/-- o[i] = v, by values -/
abbrev TSet := V → V → V → Hp → (Hp → Prop) → Prop
def PSet (X : Cx) (t : TSet) : Prop :=
  ∀ (pins : List (Addr × Obj)) (s : Shared) (σ : St) (H : Hp) (o i v : V) (ov iv u : Value) (Q : Hp → Prop), Inv X pins σ H s → RelV o ov → RelV i iv → RelV v u → t o i v H Q →
    wpAny (model X.prog X.w) X.A (setItem ov iv u) (fun _ s' => ∃ H', Inv X pins σ H' s' ∧ Q H') X.xe s
/-- a op= b, by values -/
abbrev TIp := V → V → Hp → VK → Prop
def PIp (X : Cx) (op : Operator) (t : TIp) : Prop :=
  ∀ (pins : List (Addr × Obj)) (s : Shared) (σ : St) (H : Hp) (x y : V) (v u : Value) (Q : VK), Inv X pins σ H s → RelV x v → RelV y u → t x y H Q →
    wpAny (model X.prog X.w) X.A (inplaceOp op v u) (EP X pins σ Q) X.xe s
section
variable {X : Cx} {pos : Pos}
def gName (i : Nat) : TG := fun v σ H Q => Q (σ.set i (some v)) H
theorem pg_name {i : Nat} {x : Str} (hN : X.N.Nodup) (hi : X.N[i]? = some x) (hx : Loc X.env.scope x) (hf : X.fn x = true ∨ X.env.scope.names.lookup x = some .local := by first | exact .inl rfl | exact .inr rfl | assumption) : PG X (.Name x pos) (gName i) := by
  intro pins s σ H v u Q I r h
  exact wpAny_assign_Name (store_ok I hN hi hx r (fun s' I' => ⟨_, H, I', h⟩) hf)
def gNil : TGs := fun vs σ H Q => vs = [] ∧ Q σ H
def gCons (t : TG) (u : TGs) : TGs := fun vs σ H Q => ∃ v r, vs = v :: r ∧ t v σ H fun σ' H' => u r σ' H' Q
theorem pgs_nil : PGs X [] gNil := by
  intro pins s σ H vs us Q I r h
  obtain ⟨e, h⟩ := h
  subst e
  cases r
  exact assignInOrder_nil ⟨σ, H, I, h⟩
theorem pgs_cons {e : Expr} {es : List Expr} {t : TG} {u : TGs} (h1 : PG X e t) (h2 : PGs X es u)
    (hs : (assignEach (e :: es) X.env).map (·.2) = assign e X.env :: (assignEach es X.env).map (·.2) := by rfl) : PGs X (e :: es) (gCons t u) := by
  intro pins s σ H vs us Q I r h
  obtain ⟨v, vr, e1, h⟩ := h
  subst e1
  cases r with
  | cons r rr =>
    rw [hs]
    refine assignInOrder_cons (thn (h1 pins s σ H _ _ _ I r h) fun _ s1 ⟨σ1, H1, I1, q1⟩ => ?_)
    exact h2 pins s1 σ1 H1 _ _ Q I1 rr q1
/-- (a, b, ..) = a tuple of that length -/
def gTup (K : PySem.W.Frag) (n : Nat) (t : TGs) : TG := fun v σ H Q => ∃ a xs, v = .ref a ∧ SqT K H a xs ∧ xs.length = n ∧ t xs σ H Q
theorem pg_tup {es : List Expr} {k : Nat} {t : TGs} {n : Nat} (hc : X.calm = true) (h : PGs X es t)
    (hn : (assignEach es X.env).length = n := by rfl) (hst : (assignEach es X.env).findIdx? (·.1) = none := by rfl) : PG X (.Tuple es k pos) (gTup X.K n t) := by
  intro pins s σ H v u Q I r hw
  obtain ⟨a, xs, e1, hq, hl, hw⟩ := hw
  subst e1
  cases r
  obtain ⟨its, rv, ht, hz⟩ := I.tuple hq
  refine assign_Tuple_tuple (I.ok.hd hc) ht (by simp [hn, ← hl, rv.length]) hst fun h' hx => ?_
  have I1 : Inv X pins σ H { s with heap := h' } := I.kept (t' := s.toks) fun b o e => hx b o (Nat.ne_of_lt (Heap.lt_size e)) e
  exact h pins _ σ H xs _ Q I1 (by simpa using rv) hw
/-- target = value -/
def tAsg (te : TE) (g : TG) : TS := fun D σ H => te σ H fun x H1 => g x σ H1 D.nx
/-- name = value -/
theorem ps_set {i : Nat} {x : Str} {e : Expr} {te : TE} {pos' : Pos} (hN : X.N.Nodup) (hi : X.N[i]? = some x) (hx : Loc X.env.scope x) (he : PE X e te) (hs : swapsWith e (some (.Name x pos')) pos.line X.env = pure false := by rfl) (hf : X.fn x = true ∨ X.env.scope.names.lookup x = some .local := by first | exact .inl rfl | exact .inr rfl | assumption) :
    PS X (.Assign [.Name x pos'] e pos) (tAsg te (gName i)) := by
  intro pins s σ H D I h
  refine wpAny_Assign_Name (thn (he pins s σ H _ I h) fun v s1 ⟨y, H1, I1, r1, q1⟩ => ?_) hs
  exact store_ok I1 hN hi hx r1 (fun s2 I2 => ⟨_, H1, I2, q1⟩) hf
end

/-! ### while -/
section
variable {X : Cx} {pos : Pos}
end

/-! ### what a loop or a comprehension walks -/
/-- at turn i: it yields x (the heap may grow), or it stops -/
structure It where
  go : Nat → Hp → Prop
  yld : Nat → Hp → V → Hp → Prop
  stop : Nat → Hp → Prop
/-- the iterator's own objects may turn: they are not the frame's, not pinned, younger than the entry (or a comprehension's own) -/
def FpOk (X : Cx) (pins : List (Addr × Obj)) (H : Hp) (b : Addr) : Prop :=
  H b = none ∧ b ≠ X.env.locals ∧ b ∉ X.fs ∧ (b ∈ X.ex ∨ X.s₀.heap.objs.size ≤ b) ∧ (∀ x c, X.env.cells.lookup x = some c → c ≠ b) ∧ ∀ p ∈ X.pn ++ pins, p.1 ≠ b
theorem Inv.fpOk {X : Cx} {pins : List (Addr × Obj)} {σ : St} {H H' : Hp} {s : Shared} {b : Addr} (I : Inv X pins σ H s) (hb : s.heap.objs.size ≤ b) (hn : H' b = none) : FpOk X pins H' b := by
  refine ⟨hn, Nat.ne_of_gt (Nat.lt_of_lt_of_le I.lt hb), I.nofs hb, .inr (Nat.le_trans I.sz hb), fun x c e z => ?_, fun p hp z => ?_⟩
  · obtain ⟨v, q⟩ := I.cell x c e
    exact absurd (Nat.lt_of_lt_of_le q.lt (by rw [z]; exact hb)) (Nat.lt_irrefl _)
  · exact absurd (Nat.lt_of_lt_of_le (Heap.lt_size (I.pin p hp).1) (by rw [z]; exact hb)) (Nat.lt_irrefl _)
structure Turn (P : Program) (w : World) (K : PySem.W.Frag) (tg : Expr) (J : It) (fp : List Addr) (it : Addr) (tn : Nat → Heap → Prop) : Prop where
  mem : it ∈ fp
  obj : ∀ i h, tn i h → ∀ b ∈ fp, ∃ o, h.get? b = some o ∧ ∀ v, o.data ≠ .cell v
  keep : ∀ i h h', tn i h → (∀ b ∈ fp, ∀ o, h.get? b = some o → h'.get? b = some o) → tn i h'
  item : ∀ (X : Cx), X.prog = P → X.w = w → X.K = K → X.calm = true → ∀ (i : Nat) (pins : List (Addr × Obj)) (s : Shared) (σ : St) (H : Hp) (E : Value → Shared → Prop), Inv X pins σ H s → (∀ b ∈ fp, FpOk X pins H b) → tn i s.heap → J.go i H →
    wpAny (model P w) X.A (pyNext (.ref it)) (fun r s1 => ∃ u, r = some u ∧
      wpAny (model P w) X.A (letOwnedTupleGo tg (.ref it) u) (fun _ s2 => ∃ x H', Inv X pins σ H' s2 ∧ RelV x u ∧ J.yld i H x H' ∧ tn (i + 1) s2.heap ∧ ∀ b ∈ fp, H' b = none) E s1) E s
  done : ∀ (X : Cx), X.prog = P → X.w = w → X.K = K → X.calm = true → ∀ (i : Nat) (pins : List (Addr × Obj)) (s : Shared) (σ : St) (H : Hp) (E : Value → Shared → Prop), Inv X pins σ H s → (∀ b ∈ fp, FpOk X pins H b) → tn i s.heap → J.stop i H →
    wpAny (model P w) X.A (pyNext (.ref it)) (fun r s1 => r = none ∧ Inv X pins σ H s1) E s
  self : ∀ (A : Around) (i : Nat) (s : Shared) (Q : Value → Shared → Prop) (E : Value → Shared → Prop), tn i s.heap → Q (.ref it) s → wpAny (model P w) A (pyIter (.ref it)) Q E s
abbrev TI := St → Hp → (It → Hp → Prop) → Prop
/-- an iterator has come -/
def PIE (X : Cx) (pins : List (Addr × Obj)) (σ : St) (tg : Expr) (R : It → Hp → Prop) (itv : Value) (s2 : Shared) : Prop :=
  ∃ (it : Addr) (fp : List Addr) (tn : Nat → Heap → Prop) (J : It) (H' : Hp), itv = .ref it ∧ Inv X pins σ H' s2 ∧ Turn X.prog X.w X.K tg J fp it tn ∧ tn 0 s2.heap ∧ (∀ b ∈ fp, FpOk X pins H' b) ∧ R J H'
def PI (X : Cx) (tg iter : Expr) (wi : TI) : Prop :=
  ∀ (pins : List (Addr × Obj)) (s : Shared) (σ : St) (H : Hp) (R : It → Hp → Prop), Inv X pins σ H s → wi σ H R →
    wpAny (model X.prog X.w) X.A (eval iter X.env) (fun v s1 => wpAny (model X.prog X.w) X.A (pyIter v) (PIE X pins σ tg R) X.xe s1) X.xe s

/-- the step ahead of the store is nothing for an iterator that keeps no tuple -/
theorem go_of {M : Model} {A : Around} {E : Value → Shared → Prop} {s : Shared} {tg : Expr} {it : Addr} {u : Value} {o : Obj} {n : String} {vs : Array Value} {Q : Unit → Shared → Prop} (ho : s.heap.get? it = some o) (hc : o.cls = .type n) (hd : o.data = .fields vs)
    (hn : ["enumerate", "zip", "dict_itemiterator", "dict_reverseitemiterator", "odict_iterator", "itertools.zip_longest", "itertools.pairwise"].contains n = false) (hQ : Q () s) : wpAny M A (letOwnedTupleGo tg (.ref it) u) Q E s := by
  unfold letOwnedTupleGo
  cases tg <;> first
    | exact wpAny_pure hQ
    | (cases u <;> first
        | exact wpAny_pure hQ
        | (refine wpAny_bind (wpAny_load ho ?_)
           rw [hc, hd]
           show wpAny M A (if (["enumerate", "zip", "dict_itemiterator", "dict_reverseitemiterator", "odict_iterator", "itertools.zip_longest", "itertools.pairwise"].contains n && vs[0]? == some (rawInt _)) = true then _ else _) Q E s
           rw [if_neg (by intro h; rw [hn, Bool.false_and] at h; cases h)]
           exact wpAny_pure hQ))

/-- the list at a, as it stands at each turn (a loop may append to it) -/
def Itl (K : PySem.W.Frag) (a : Addr) : It :=
  ⟨fun i H => ∃ xs x, SqL K H a xs ∧ xs[i]? = some x, fun i H x H' => H' = H ∧ ∀ xs, SqL K H a xs → xs[i]? = some x, fun i H => ∃ xs, SqL K H a xs ∧ xs.length ≤ i⟩
/-- lo, lo + 1, .. (n of them) -/
def Itr (lo : Int) (n : Nat) : It := ⟨fun i _ => i < n, fun i H x H' => H' = H ∧ x = .int (lo + i), fun i _ => n ≤ i⟩
theorem turn_list {P : Program} {w : World} {K : PySem.W.Frag} {tg : Expr} (a it : Addr) : Turn P w K tg (Itl K a) [it] it (fun i h => h.IsListIter it a i) where
  mem := by simp
  obj := fun i h st b hb => by
    have e : b = it := by simpa using hb
    subst e
    obtain ⟨o, e, c, d⟩ := st
    exact ⟨o, e, fun v z => by rw [d] at z; cases z⟩
  keep := fun i h h' st k => st.at fun o e => k it (by simp) o e
  item := by
    intro X hP hw hK hc i pins s σ H E I hf st hg
    subst hP hw hK
    obtain ⟨xs, x, hq, hx⟩ := hg
    obtain ⟨its, rv, p, hz⟩ := I.list hq
    obtain ⟨u, hu, ru⟩ := rv.get hx
    obtain ⟨f0, f1, f2, f3, f4, f5⟩ := hf it (by simp)
    refine wpAny_pyNext_list_item st p.isList (x := u) (by simpa using hu) fun h' st' sb => ?_
    have I1 : Inv X pins σ H { s with heap := h' } := I.turned (t' := s.toks) (fun b o hb e => (sb.2 b hb).trans e) f0 f1 f3 f4 f5
    obtain ⟨o, e, c, d⟩ := id st'
    exact ⟨u, rfl, go_of (s := { s with heap := h' }) e c d (by decide) ⟨x, H, I1, ru, ⟨rfl, fun ys hy => by rw [I.list_inj hy hq]; exact hx⟩, st', fun b hb => (hf b hb).1⟩⟩
  done := by
    intro X hP hw hK hc i pins s σ H E I hf st hg
    subst hP hw hK
    obtain ⟨xs, hq, hx⟩ := hg
    obtain ⟨its, rv, p, hz⟩ := I.list hq
    obtain ⟨f0, f1, f2, f3, f4, f5⟩ := hf it (by simp)
    have hl := rv.length
    exact wpAny_pyNext_list_end (I.ok.hd hc) st p.isList (by simp; omega) fun h' eb => ⟨rfl, I.turned (t' := s.toks) (fun b o hb e => eb b o hb e) f0 f1 f3 f4 f5⟩
  self := fun _ _ _ _ _ st h => wpAny_pyIter_listiter st h
theorem turn_range {P : Program} {w : World} {K : PySem.W.Frag} {tg : Expr} (it : Addr) (lo : Int) (n : Nat) : Turn P w K tg (Itr lo n) [it] it (fun i h => IsRangeIter h it (lo + (i : Nat) * 1) ((n : Int) - (i : Nat)) 1) where
  mem := by simp
  obj := fun i h st b hb => by
    have e : b = it := by simpa using hb
    subst e
    exact ⟨_, st, fun v z => by
      have z' : Data.fields _ = Data.cell v := z
      cases z'⟩
  keep := fun i h h' st k => k it (by simp) _ st
  item := by
    intro X hP hw hK hc i pins s σ H E I hf st hg
    subst hP hw hK
    obtain ⟨f0, f1, f2, f3, f4, f5⟩ := hf it (by simp)
    have W := Walks.range (prog := X.prog) (w := X.w) (I.ok.hd hc) it lo 1 n
    refine W.item i s _ _ hg st fun v h' tk hv st' kk => ?_
    obtain ⟨t, rfl⟩ := hv
    have I1 : Inv X pins σ H { s with heap := h', toks := tk } := I.turned (fun b o hb e => kk b o (by simpa using hb) e) f0 f1 f3 f4 f5
    refine ⟨_, rfl, go_of (s := { s with heap := h', toks := tk }) (n := "range_iterator") st' rfl rfl (by decide) ⟨.int (lo + i), H, I1, ⟨t, ?_⟩, ⟨rfl, rfl⟩, st', fun b hb => (hf b hb).1⟩⟩
    rw [Int.mul_one]
  done := by
    intro X hP hw hK hc i pins s σ H E I hf st hg
    subst hP hw hK
    obtain ⟨f0, f1, f2, f3, f4, f5⟩ := hf it (by simp)
    exact wpAny_pyNext_range_end (I.ok.hd hc) st (by have : n ≤ i := hg; omega) fun h' eb => ⟨rfl, I.turned (t' := s.toks) (fun b o hb e => eb b o hb e) f0 f1 f3 f4 f5⟩
  self := fun _ _ _ _ _ st h => wpAny_pyIter_rangeiter st h
end L2

namespace L2
open PySem PySem.Spec PyProof.Rows
section
variable {X : Cx} {tg : Expr}
def iList (K : PySem.W.Frag) (tl : TE) : TI := fun σ H R => tl σ H fun x H1 => ∃ a, x = .ref a ∧ (∃ xs, SqL K H1 a xs) ∧ R (Itl K a) H1
theorem pi_list {l : Expr} {tl : TE} (hl : PE X l tl) : PI X tg l (iList X.K tl) := by
  intro pins s σ H R I h
  refine thn (hl pins s σ H _ I h) fun v s1 ⟨x, H1, I1, r1, q1⟩ => ?_
  obtain ⟨a, e, ⟨xs, hq⟩, q⟩ := q1
  subst e
  cases r1
  obtain ⟨its, rv, p, hz⟩ := I1.list hq
  refine wpAny_pyIter_list p.isList ?_
  refine ⟨s1.heap.objs.size, [s1.heap.objs.size], _, _, H1, rfl, I1.kept (t' := s1.toks) fun b o e => Heap.get?_push_of_some _ e, turn_list a _, ⟨_, Heap.get?_push_size _ rfl, rfl, rfl⟩, fun b hb => ?_, q⟩
  have e : b = s1.heap.objs.size := by simpa using hb
  subst e
  exact I1.fpOk (Nat.le_refl _) (I1.hok.fresh (Nat.le_refl _))
/-- a range object just made, walked -/
theorem range_it {pins : List (Addr × Obj)} {σ : St} {H : Hp} {s : Shared} {R : It → Hp → Prop} {E : Value → Shared → Prop} {lo hi : Int} {t u v : Tok} {tk : Nat} (I : Inv X pins σ H s) (h1 : -(2 ^ 62) ≤ lo) (h2 : lo < 2 ^ 62) (h3 : -(2 ^ 62) ≤ hi) (h4 : hi < 2 ^ 62)
    (q : R (Itr lo (hi - lo).toNat) H) : wpAny (model X.prog X.w) X.A (pyIter (.ref s.heap.objs.size)) (PIE X pins σ tg R) E { s with heap := s.heap.push { cls := .type "range", data := .fields #[.int lo t, .int hi u, .int 1 v] }, toks := tk } := by
  refine wpAny_pyIter_range (IsRange.new ..) (small_one h1 h2 h3 h4) ?_
  have I1 : Inv X pins σ H { s with heap := s.heap.push { cls := .type "range", data := .fields #[.int lo t, .int hi u, .int 1 v] }, toks := tk } := I.kept fun b o e => Heap.get?_push_of_some _ e
  refine ⟨(s.heap.push { cls := .type "range", data := .fields #[.int lo t, .int hi u, .int 1 v] }).objs.size, [(s.heap.push { cls := .type "range", data := .fields #[.int lo t, .int hi u, .int 1 v] }).objs.size], _, _, H, rfl,
    I1.kept (t' := tk) fun b o e => Heap.get?_push_of_some _ e, turn_range _ lo (hi - lo).toNat, ?_, fun b hb => ?_, q⟩
  · have e1 : lo + ((0 : Nat) : Int) * 1 = lo := by simp
    have e2 : (((hi - lo).toNat : Nat) : Int) - ((0 : Nat) : Int) = Builtin.Range.rangeSize lo hi 1 := by rw [rangeSize_one]; split <;> omega
    show IsRangeIter _ _ (lo + ((0 : Nat) : Int) * 1) ((((hi - lo).toNat : Nat) : Int) - ((0 : Nat) : Int)) 1
    rw [e1, e2]
    exact Heap.get?_push_size _ rfl
  · have e : b = (s.heap.push { cls := .type "range", data := .fields #[.int lo t, .int hi u, .int 1 v] }).objs.size := by simpa using hb
    subst e
    exact I1.fpOk (Nat.le_refl _) (I1.hok.fresh (Nat.le_refl _))
def iRng1 (ta : TA) : TI := fun σ H R => ta σ H fun vs H1 => ∃ j : Int, vs = [.int j] ∧ -(2 ^ 62) ≤ j ∧ j < 2 ^ 62 ∧ R (Itr 0 j.toNat) H1
def iRng2 (ta : TA) : TI := fun σ H R => ta σ H fun vs H1 => ∃ i j : Int, vs = [.int i, .int j] ∧ (-(2 ^ 62) ≤ i ∧ i < 2 ^ 62 ∧ -(2 ^ 62) ≤ j ∧ j < 2 ^ 62) ∧ R (Itr i (j - i).toNat) H1
theorem pi_range1 {a : Expr} {ta : TA} {p pos : Pos} (hg : Gl X "range") (hm : X.mg "range" = none) (ha : PA X [a] ta) (hs : starEach [a] X.env = [(false, eval a X.env)] := by rfl) : PI X tg (.Call (.Name "range" p) [a] [] pos) (iRng1 ta) := by
  intro pins s σ H R I h
  refine Call_ (ld_blt I hg hm boot_range (PyProof.Rows.callWith_type1 (thn (ha pos pins s σ H _ I h) fun us s1 ⟨vs, H1, I1, r1, q1⟩ => ?_) hs rfl))
  obtain ⟨j, e, q1, q2, q⟩ := q1
  subst e
  cases r1 with
  | cons r rr =>
    cases rr
    obtain ⟨t, rfl⟩ := r
    exact call_range_1 (range_it I1 (by omega) (by omega) q1 q2 (by simpa using q))
theorem pi_range2 {a b : Expr} {ta : TA} {p pos : Pos} (hg : Gl X "range") (hm : X.mg "range" = none) (ha : PA X [a, b] ta) (hs : starEach [a, b] X.env = [(false, eval a X.env), (false, eval b X.env)] := by rfl) (hs2 : starEach [b] X.env = [(false, eval b X.env)] := by rfl) :
    PI X tg (.Call (.Name "range" p) [a, b] [] pos) (iRng2 ta) := by
  intro pins s σ H R I h
  refine Call_ (ld_blt I hg hm boot_range (PyProof.Rows.callWith_type1 (thn (ha pos pins s σ H _ I h) fun us s1 ⟨vs, H1, I1, r1, q1⟩ => ?_) (by rw [hs, hs2]) (by rw [hs2]; rfl)))
  obtain ⟨i, j, e, ⟨q1, q2, q3, q4⟩, q⟩ := q1
  subst e
  cases r1 with
  | cons r rr =>
    cases rr with
    | cons r' rr =>
      cases rr
      obtain ⟨t, rfl⟩ := r
      obtain ⟨t', rfl⟩ := r'
      exact call_range_2 (range_it I1 q1 q2 q3 q4 q)

/-! ### for -/
/-- W: the invariant by the turn and a measure; N: what the body is to reach -/
def tFor (wi : TI) (g : TG) (tb : TS) : TS := fun D σ H => wi σ H fun J H1 => ∃ W : Nat → Nat → St → Hp → Prop, (∃ m, W 0 m σ H1) ∧ ∀ i m σ H, W i m σ H →
  (J.stop i H ∧ D.nx σ H) ∨ (J.go i H ∧ ∃ N : St → Hp → Prop, (∀ σ' H', N σ' H' → ∃ m', m' < m ∧ W (i + 1) m' σ' H') ∧ ∀ x H', J.yld i H x H' → g x σ H' fun σ2 H2 => tb { D with nx := N, ct := N, bk := D.nx } σ2 H2)
/-- the records at fp as they stand -/
def pinsAt (fp : List Addr) (h : Heap) : List (Addr × Obj) := fp.filterMap fun b => (h.get? b).map fun o => (b, o)
theorem mem_pinsAt {fp : List Addr} {h : Heap} {b : Addr} {o : Obj} (hb : b ∈ fp) (e : h.get? b = some o) : (b, o) ∈ pinsAt fp h := List.mem_filterMap.mpr ⟨b, hb, by rw [e]; rfl⟩
theorem of_pinsAt {fp : List Addr} {h : Heap} {p : Addr × Obj} (hp : p ∈ pinsAt fp h) : p.1 ∈ fp ∧ h.get? p.1 = some p.2 := by
  obtain ⟨b, hb, e⟩ := List.mem_filterMap.mp hp
  cases q : h.get? b with
  | none => rw [q] at e; cases e
  | some o =>
    rw [q] at e
    have e' : (b, o) = p := Option.some.inj e
    subst e'
    exact ⟨hb, q⟩
theorem Inv.pinned {pins : List (Addr × Obj)} {σ : St} {H : Hp} {s : Shared} {fp : List Addr} (I : Inv X pins σ H s) (hf : ∀ b ∈ fp, FpOk X pins H b) (ho : ∀ b ∈ fp, ∃ o, s.heap.get? b = some o ∧ ∀ v, o.data ≠ .cell v) : Inv X (pins ++ pinsAt fp s.heap) σ H s :=
  I.pins_of fun p hp => (List.mem_append.mp hp).elim (fun z => I.pin p (List.mem_append_right _ z)) fun z => by
    obtain ⟨hb, e⟩ := of_pinsAt z
    obtain ⟨f0, f1, f2, _⟩ := hf p.1 hb
    obtain ⟨o, e', d⟩ := ho p.1 hb
    rw [e] at e'; cases e'
    exact ⟨e, f0, f1, f2, d⟩
theorem Inv.unpinned {pins pl : List (Addr × Obj)} {σ : St} {H : Hp} {s : Shared} (I : Inv X (pins ++ pl) σ H s) : Inv X pins σ H s := I.pins_of fun p hp => I.pin p (List.mem_append_right _ (List.mem_append_left _ hp))
theorem ps_for {iter : Expr} {body : List Stmt} {wi : TI} {g : TG} {tb : TS} {pos : Pos} (hp : PassesOwn (model X.prog X.w) X.A X.env X.xe) (hc : X.calm = true) (hi : PI X tg iter wi) (hg : PG X tg g) (hb : PSs X body tb)
    (hs : ∀ x, foldedSetIterable iter X.env x = pure x := by intro _; rfl) : PS X (.For tg iter body [] pos) (tFor wi g tb) := by
  intro pins s σ H D I h
  refine wpAny_For (thn (hi pins s σ H _ I h) fun v s1 h1 => thn h1 fun itv s2 h2 => ?_) hs
  obtain ⟨it, fp, tn, J, H2, e, I2, T, st2, f2, W, ⟨m0, w0⟩, turn⟩ := h2
  subst e
  -- what stays true of the iterator's objects through the loop
  have stat : ∀ {H' : Hp}, (∀ b ∈ fp, H' b = none) → ∀ b ∈ fp, FpOk X pins H' b := fun hn b hb => ⟨hn b hb, (f2 b hb).2⟩
  refine codeAny_forLoop_any (fun n s' => ∃ i σ' H', Inv X pins σ' H' s' ∧ tn i s'.heap ∧ (∀ b ∈ fp, H' b = none) ∧ W i n σ' H') ?_ m0 ⟨0, σ, H2, I2, st2, fun b hb => (f2 b hb).1, w0⟩
  rintro n s3 ⟨i, σ3, H3, I3, st3, fr3, w3⟩
  rcases turn i n σ3 H3 w3 with ⟨stop, qn⟩ | ⟨go, N, hN, step⟩
  · refine wpAny_passesOwn hp (thn (T.done X rfl rfl rfl hc i pins s3 σ3 H3 X.xe I3 (stat fr3) st3 stop) fun r s4 ⟨hr, I4⟩ => ?_)
    subst hr
    exact wpAny_execs_nil ⟨σ3, H3, I4, qn⟩
  · refine wpAny_passesOwn hp (thn (T.item X rfl rfl rfl hc i pins s3 σ3 H3 X.xe I3 (stat fr3) st3 go) fun r s4 ⟨u, hr, h4⟩ => ?_)
    subst hr
    refine wpAny_passesOwn hp (thn h4 fun _ s5 ⟨x, H5, I5, r5, y5, st5, fr5⟩ => ?_)
    have I5' := I5.pinned (stat fr5) (T.obj _ _ st5)
    refine wpAny_passesOwn hp (thn (hg _ s5 σ3 H5 x u _ I5' r5 (step x H5 y5)) fun _ s6 ⟨σ6, H6, I6, q6⟩ => ?_)
    refine wpAny_passesOwn hp (thn (hb _ s6 σ6 H6 _ I6 q6) fun f s7 q7 => ?_)
    have again : ∀ {σ7 : St} {H7 : Hp}, Inv X (pins ++ pinsAt fp s5.heap) σ7 H7 s7 → N σ7 H7 → ∃ m, m < n ∧ ∃ i σ' H', Inv X pins σ' H' s7 ∧ tn i s7.heap ∧ (∀ b ∈ fp, H' b = none) ∧ W i m σ' H' := fun {σ7 H7} I7 n7 => by
      obtain ⟨m', hm, w7⟩ := hN σ7 H7 n7
      refine ⟨m', hm, i + 1, σ7, H7, I7.unpinned, T.keep _ _ _ st5 fun b hb o e => (I7.pin (b, o) (List.mem_append_right _ (List.mem_append_right _ (mem_pinsAt hb e)))).1, fun b hb => ?_, w7⟩
      obtain ⟨o, e, d⟩ := T.obj _ _ st5 b hb
      exact (I7.pin (b, o) (List.mem_append_right _ (List.mem_append_right _ (mem_pinsAt hb e)))).2.1
    cases f with
    | next => obtain ⟨σ7, H7, I7, n7⟩ := q7; exact again I7 n7
    | cont => obtain ⟨σ7, H7, I7, n7⟩ := q7; exact again I7 n7
    | brk => obtain ⟨σ7, H7, I7, q7⟩ := q7; exact ⟨σ7, H7, I7.unpinned, q7⟩
    | ret v => obtain ⟨x7, σ7, H7, I7, r7, q7⟩ := q7; exact ⟨x7, σ7, H7, I7.unpinned, r7, q7⟩
end

/-! ### the forms one uses -/
/-- over a list that the body leaves as it is -/
theorem for_list {K : PySem.W.Frag} {a : Addr} {xs : List V} {g : TG} {tb : TS} {D : Ends} {σ : St} {H : Hp} (Pv : Nat → St → Hp → Prop) (h0 : Pv 0 σ H) (hl : ∀ i σ H, i ≤ xs.length → Pv i σ H → SqL K H a xs)
    (hs : ∀ i x σ H, xs[i]? = some x → Pv i σ H → g x σ H fun σ2 H2 => tb { D with nx := Pv (i + 1), ct := Pv (i + 1), bk := D.nx } σ2 H2) (hd : ∀ σ H, Pv xs.length σ H → D.nx σ H) :
    ∃ W : Nat → Nat → St → Hp → Prop, (∃ m, W 0 m σ H) ∧ ∀ i m σ H, W i m σ H →
      ((Itl K a).stop i H ∧ D.nx σ H) ∨ ((Itl K a).go i H ∧ ∃ N : St → Hp → Prop, (∀ σ' H', N σ' H' → ∃ m', m' < m ∧ W (i + 1) m' σ' H') ∧ ∀ x H', (Itl K a).yld i H x H' → g x σ H' fun σ2 H2 => tb { D with nx := N, ct := N, bk := D.nx } σ2 H2) := by
  refine ⟨fun i m σ H => m = xs.length - i ∧ i ≤ xs.length ∧ Pv i σ H, ⟨xs.length, by simp, Nat.zero_le _, h0⟩, ?_⟩
  rintro i m σ H ⟨rfl, hi, p⟩
  have q := hl i σ H hi p
  by_cases hlt : i < xs.length
  · refine .inr ⟨⟨xs, xs[i], q, by simp [hlt]⟩, Pv (i + 1), fun σ' H' p' => ⟨xs.length - (i + 1), by omega, rfl, hlt, p'⟩, fun x H' y => ?_⟩
    obtain ⟨e, y⟩ := y
    subst e
    exact hs i x σ _ (y xs q) p
  · have e : i = xs.length := by omega
    subst e
    exact .inl ⟨⟨xs, q, Nat.le_refl _⟩, hd σ H p⟩
theorem for_range {lo : Int} {n : Nat} {g : TG} {tb : TS} {D : Ends} {σ : St} {H : Hp} (Pv : Nat → St → Hp → Prop) (h0 : Pv 0 σ H)
    (hs : ∀ i σ H, i < n → Pv i σ H → g (.int (lo + i)) σ H fun σ2 H2 => tb { D with nx := Pv (i + 1), ct := Pv (i + 1), bk := D.nx } σ2 H2) (hd : ∀ σ H, Pv n σ H → D.nx σ H) :
    ∃ W : Nat → Nat → St → Hp → Prop, (∃ m, W 0 m σ H) ∧ ∀ i m σ H, W i m σ H →
      ((Itr lo n).stop i H ∧ D.nx σ H) ∨ ((Itr lo n).go i H ∧ ∃ N : St → Hp → Prop, (∀ σ' H', N σ' H' → ∃ m', m' < m ∧ W (i + 1) m' σ' H') ∧ ∀ x H', (Itr lo n).yld i H x H' → g x σ H' fun σ2 H2 => tb { D with nx := N, ct := N, bk := D.nx } σ2 H2) := by
  refine ⟨fun i m σ H => m = n - i ∧ i ≤ n ∧ Pv i σ H, ⟨n, by simp, Nat.zero_le _, h0⟩, ?_⟩
  rintro i m σ H ⟨rfl, hi, p⟩
  by_cases hlt : i < n
  · refine .inr ⟨hlt, Pv (i + 1), fun σ' H' p' => ⟨n - (i + 1), by omega, rfl, hlt, p'⟩, fun x H' y => ?_⟩
    obtain ⟨e, y⟩ := y
    subst e y
    exact hs i σ _ hlt p
  · have e : i = n := by omega
    subst e
    exact .inl ⟨Nat.le_refl _, hd σ H p⟩
end L2

namespace L2
open PySem PySem.Spec PyProof.Rows

abbrev R2 := V → V → Hp → VK → Prop
/-- a two-place operation on values: f is binaryOp op, inplaceOp op or compareOp op -/
def OpR (X : Cx) (f : Value → Value → Sem Value) (r : R2) : Prop :=
  ∀ (pins : List (Addr × Obj)) (s : Shared) (σ : St) (H : Hp) (x y : V) (v u : Value) (Q : VK), Inv X pins σ H s → RelV x v → RelV y u → r x y H Q →
    wpAny (model X.prog X.w) X.A (f v u) (EP X pins σ Q) X.xe s
/-- a one-place operation -/
def UnR (X : Cx) (f : Value → Sem Value) (r : V → Hp → VK → Prop) : Prop :=
  ∀ (pins : List (Addr × Obj)) (s : Shared) (σ : St) (H : Hp) (x : V) (v : Value) (Q : VK), Inv X pins σ H s → RelV x v → r x H Q →
    wpAny (model X.prog X.w) X.A (f v) (EP X pins σ Q) X.xe s
/-- a call of a value that is known (a builtin, a type) with values -/
def CallR (X : Cx) (f : Value) (r : List V → Hp → VK → Prop) : Prop :=
  ∀ (pins : List (Addr × Obj)) (s : Shared) (σ : St) (H : Hp) (xs : List V) (us : List Value) (Q : VK), Inv X pins σ H s → Vals xs us → r xs H Q →
    wpAny (model X.prog X.w) X.A (call f us) (EP X pins σ Q) X.xe s
/-- a value's truth -/
def TruR (X : Cx) (r : V → Hp → (Bool → Hp → Prop) → Prop) : Prop :=
  ∀ (pins : List (Addr × Obj)) (s : Shared) (σ : St) (H : Hp) (x : V) (v : Value) (Q : Bool → Hp → Prop), Inv X pins σ H s → RelV x v → r x H Q →
    wpAny (model X.prog X.w) X.A (truthy v) (TP X pins σ Q) X.xe s

def tOp (r : R2) (ta tb : TE) : TE := fun σ H Q => ta σ H fun x H1 => tb σ H1 fun y H2 => r x y H2 Q
def tUn (r : V → Hp → VK → Prop) (ta : TE) : TE := fun σ H Q => ta σ H fun x H1 => r x H1 Q
/-- ints in, under C, and a value out -/
def rI (C : Int → Int → Prop) (g : Int → Int → V) : R2 := fun x y H Q => ∃ i j, x = .int i ∧ y = .int j ∧ C i j ∧ Q (g i j) H
def rI0 (g : Int → Int → V) : R2 := fun x y H Q => ∃ i j, x = .int i ∧ y = .int j ∧ Q (g i j) H
def rU (g : Int → V) : V → Hp → VK → Prop := fun x H Q => ∃ i, x = .int i ∧ Q (g i) H

section
variable {X : Cx} {a b c : Expr} {ta tb tc : TE} {pos : Pos}

theorem binT (ha : PE X a ta) (hb : PE X b tb) {pins : List (Addr × Obj)} {s : Shared} {σ : St} {H : Hp} {R : V → V → Hp → Prop} (I : Inv X pins σ H s)
    (h : ta σ H fun x H1 => tb σ H1 fun y H2 => R x y H2) {Q : Value → Shared → Prop} {f : Value → Value → Sem Value}
    (hf : ∀ v u s2 x y H2, Inv X pins σ H2 s2 → RelV x v → RelV y u → R x y H2 → wpAny (model X.prog X.w) X.A (f v u) Q X.xe s2) :
    wpAny (model X.prog X.w) X.A (eval a X.env) (fun v s₁ => wpAny (model X.prog X.w) X.A (eval b X.env) (fun u s₂ => wpAny (model X.prog X.w) X.A (f v u) Q X.xe s₂) X.xe s₁) X.xe s := by
  refine thn (ha pins s σ H _ I h) fun v s1 ⟨x, H1, I1, r1, q1⟩ => ?_
  refine thn (hb pins s1 σ H1 _ I1 q1) fun u s2 ⟨y, H2, I2, r2, q2⟩ => ?_
  exact hf v u s2 x y H2 I2 r1 r2 q2

theorem pe_op {op : Operator} {r : R2} (ho : OpR X (binaryOp op) r) (ha : PE X a ta) (hb : PE X b tb) : PE X (.BinOp a op b pos) (tOp r ta tb) := by
  intro pins s σ H Q I h
  exact wpAny_BinOp (binT ha hb I h fun v u s2 x y H2 I2 rx ry q => ho pins s2 σ H2 x y v u Q I2 rx ry q)
theorem pe_un {op : UnaryOp} {r : V → Hp → VK → Prop} (ho : UnR X (unaryOp op) r) (ha : PE X a ta) : PE X (.UnaryOp op a pos) (tUn r ta) := by
  intro pins s σ H Q I h
  exact UnaryOp_ (thn (ha pins s σ H _ I h) fun v s1 ⟨x, H1, I1, r1, q1⟩ => ho pins s1 σ H1 x v Q I1 r1 q1)
/-! ### ints -/
theorem opI {f : Value → Value → Sem Value} {C : Int → Int → Prop} {g : Int → Int → Int}
    (rule : ∀ (i j : Int) (t u : Tok) (s : Shared) (Q : Value → Shared → Prop) (E : Value → Shared → Prop), C i j → Q (.int (g i j) s.toks) { s with toks := s.toks + 1 } → wpAny (model X.prog X.w) X.A (f (.int i t) (.int j u)) Q E s) :
    OpR X f (rI C fun i j => .int (g i j)) := by
  intro pins s σ H x y v u Q I rx ry h
  obtain ⟨i, j, rfl, rfl, hc, q⟩ := h
  obtain ⟨t, rfl⟩ := rx
  obtain ⟨t', rfl⟩ := ry
  exact rule i j t t' s _ _ hc ⟨.int (g i j), H, I.tok _, ⟨_, rfl⟩, q⟩
theorem opI0 {f : Value → Value → Sem Value} {g : Int → Int → Int}
    (rule : ∀ (i j : Int) (t u : Tok) (s : Shared) (Q : Value → Shared → Prop) (E : Value → Shared → Prop), Q (.int (g i j) s.toks) { s with toks := s.toks + 1 } → wpAny (model X.prog X.w) X.A (f (.int i t) (.int j u)) Q E s) :
    OpR X f (rI0 fun i j => .int (g i j)) := by
  intro pins s σ H x y v u Q I rx ry h
  obtain ⟨i, j, rfl, rfl, q⟩ := h
  obtain ⟨t, rfl⟩ := rx
  obtain ⟨t', rfl⟩ := ry
  exact rule i j t t' s _ _ ⟨.int (g i j), H, I.tok _, ⟨_, rfl⟩, q⟩
theorem opB0 {f : Value → Value → Sem Value} {g : Int → Int → Bool}
    (rule : ∀ (i j : Int) (t u : Tok) (s : Shared) (Q : Value → Shared → Prop) (E : Value → Shared → Prop), Q (.bool (g i j)) s → wpAny (model X.prog X.w) X.A (f (.int i t) (.int j u)) Q E s) :
    OpR X f (rI0 fun i j => .bl (g i j)) := by
  intro pins s σ H x y v u Q I rx ry h
  obtain ⟨i, j, rfl, rfl, q⟩ := h
  obtain ⟨t, rfl⟩ := rx
  obtain ⟨t', rfl⟩ := ry
  exact rule i j t t' s _ _ ⟨.bl (g i j), H, I, rfl, q⟩

def CDiv (i j : Int) : Prop := 0 < j ∧ j < 1073741824
def CPow (i j : Int) : Prop := 0 ≤ j ∧ j ≤ 1000000 ∧ i.natAbs < 2 ^ 64
def CMul (i j : Int) : Prop := (-(2 ^ 64) < i ∧ i < 2 ^ 64) ∨ (-(2 ^ 64) < j ∧ j < 2 ^ 64)
theorem CMul.ok {i j : Int} (h : CMul i j) : IntMulOk i j := by
  rcases h with ⟨h1, h2⟩ | ⟨h1, h2⟩
  · exact .of_left (intBits_le_64 h1 h2)
  · exact .of_right (intBits_le_64 h1 h2)
theorem two_pow_nn (k : Nat) : (0 : Int) ≤ 2 ^ k := by
  rw [two_pow_cast]
  exact Int.natCast_nonneg _

theorem op_add : OpR X (binaryOp .Add) (rI0 fun i j => .int (i + j)) := opI0 fun _ _ _ _ _ _ _ q => add_int q
theorem op_sub : OpR X (binaryOp .Sub) (rI0 fun i j => .int (i - j)) := opI0 fun _ _ _ _ _ _ _ q => sub_int q
theorem op_mul : OpR X (binaryOp .Mult) (rI CMul fun i j => .int (i * j)) := opI fun _ _ _ _ _ _ _ hc q => mul_int q hc.ok
/-- // by a positive divisor -/
theorem op_fdiv : OpR X (binaryOp .FloorDiv) (rI CDiv fun i j => .int (i / j)) := opI fun i j _ _ _ _ _ hc q => by
  have h1 : (0 : Int) < j := hc.1
  have h2 : j < 1073741824 := hc.2
  exact floordiv_int (by omega) (by rw [Int.fdiv_eq_ediv_of_nonneg i (by omega)]; exact q) (.inl (PyProof.noPylong_small (by omega)))
/-- % by a positive divisor of any size -/
theorem op_mod : OpR X (binaryOp .Mod) (rI (fun _ j => 0 < j) fun i j => .int (i % j)) := opI fun i j _ _ _ _ _ hc q => by
  have h1 : (0 : Int) < j := hc
  exact mod_int' (by omega) (by rw [Int.fmod_eq_emod_of_nonneg i (by omega)]; exact q)
theorem op_pow : OpR X (binaryOp .Pow) (rI CPow fun i j => .int (i ^ j.toNat)) := opI fun _ _ _ _ _ _ _ hc q => pow_int_small hc.1 hc.2.1 hc.2.2 q
theorem op_shl : OpR X (binaryOp .LShift) (rI CPow fun i j => .int (i * 2 ^ j.toNat)) := opI fun _ _ _ _ _ _ _ hc q => lshift_int_small hc.1 hc.2.1 hc.2.2 q
theorem op_shr : OpR X (binaryOp .RShift) (rI (fun _ j => 0 ≤ j) fun i j => .int (i / 2 ^ j.toNat)) := opI fun i j _ _ _ _ _ hc q =>
  rshift_int hc (by rw [Int.fdiv_eq_ediv_of_nonneg i (two_pow_nn _)]; exact q)
theorem op_and : OpR X (binaryOp .BitAnd) (rI0 fun i j => .int (Builtin.bitAnd i j)) := opI0 fun _ _ _ _ _ _ _ q => and_int q
theorem op_or : OpR X (binaryOp .BitOr) (rI0 fun i j => .int (Builtin.bitOr i j)) := opI0 fun _ _ _ _ _ _ _ q => or_int q
theorem op_xor : OpR X (binaryOp .BitXor) (rI0 fun i j => .int (Builtin.bitXor i j)) := opI0 fun _ _ _ _ _ _ _ q => xor_int q

theorem unI {f : Value → Sem Value} {g : Int → Int}
    (rule : ∀ (i : Int) (t : Tok) (s : Shared) (Q : Value → Shared → Prop) (E : Value → Shared → Prop), Q (.int (g i) s.toks) { s with toks := s.toks + 1 } → wpAny (model X.prog X.w) X.A (f (.int i t)) Q E s) :
    UnR X f (rU fun i => .int (g i)) := by
  intro pins s σ H x v Q I rx h
  obtain ⟨i, rfl, q⟩ := h
  obtain ⟨t, rfl⟩ := rx
  exact rule i t s _ _ ⟨.int (g i), H, I.tok _, ⟨_, rfl⟩, q⟩
theorem un_neg : UnR X (unaryOp .USub) (rU fun i => .int (-i)) := unI fun _ _ _ _ _ q => neg_int q
/-! ### bools among ints: n += (a < b) -/
end

/-! ### comparisons -/
/-- the scalars that == tells apart as data does -/
def scal : V → V → Bool
  | .non, .non => true | .non, .int _ => true | .int _, .non => true | .non, .bl _ => true | .bl _, .non => true | .non, .str _ => true | .str _, .non => true
  | .int _, .int _ => true | .bl _, .bl _ => true | .str _, .str _ => true | .byt _, .byt _ => true
  | .int _, .str _ => true | .str _, .int _ => true | .bl _, .str _ => true | .str _, .bl _ => true
  | _, _ => false
def rEq : R2 := fun x y H Q => scal x y = true ∧ Q (.bl (decide (x = y))) H
def rNe : R2 := fun x y H Q => scal x y = true ∧ Q (.bl (!decide (x = y))) H

theorem dec_int {i j : Int} : decide (V.int i = V.int j) = (i == j) := by
  rw [Bool.eq_iff_iff]
  simp
theorem dec_bl {i j : Bool} : decide (V.bl i = V.bl j) = (i == j) := by
  rw [Bool.eq_iff_iff]
  simp
theorem dec_str {i j : Str} : decide (V.str i = V.str j) = (i == j) := by
  rw [Bool.eq_iff_iff]
  simp
theorem dec_byt {i j : Array UInt8} : decide (V.byt i = V.byt j) = (i.toList == j.toList) := by
  rw [Bool.eq_iff_iff]
  cases i
  cases j
  simp

section
variable {X : Cx} {a b c : Expr} {ta tb tc : TE} {pos : Pos}
theorem fin_bl {pins : List (Addr × Obj)} {σ : St} {H : Hp} {s : Shared} {Q : VK} {k k' : Bool} (I : Inv X pins σ H s) (q : Q (.bl k) H) (e : k = k') : EP X pins σ Q (.bool k') s := by
  subst e
  exact ⟨.bl k, H, I, rfl, q⟩
theorem op_eq : OpR X (compareOp .Eq) rEq := by
  intro pins s σ H x y v u Q I rx ry h
  obtain ⟨hs, q⟩ := h
  cases x with
  | non =>
    cases rx
    cases y with
    | non => cases ry; exact PySem.EqNone.eq_none_none (fin_bl I q (by simp))
    | bl j => cases ry; exact PySem.EqNone.eq_none_bool (fin_bl I q (by simp))
    | int j => obtain ⟨t', rfl⟩ := ry; exact PySem.EqNone.eq_none_int (fin_bl I q (by simp))
    | str j => obtain ⟨t', rfl⟩ := ry; exact PySem.EqNone.eq_none_str (fin_bl I q (by simp))
    | _ => exact absurd (show false = true from hs) Bool.false_ne_true
  | bl i =>
    cases rx
    cases y with
    | non => cases ry; exact PySem.EqNone.eq_bool_none (fin_bl I q (by simp))
    | bl j => cases ry; exact eq_bool (fin_bl I q dec_bl)
    | str j => obtain ⟨t', rfl⟩ := ry; exact PySem.EqMixed.eq_bool_str (fin_bl I q (by simp))
    | _ => exact absurd (show false = true from hs) Bool.false_ne_true
  | int i =>
    obtain ⟨t, rfl⟩ := rx
    cases y with
    | non => cases ry; exact PySem.EqNone.eq_int_none (fin_bl I q (by simp))
    | int j => obtain ⟨t', rfl⟩ := ry; exact eq_int (fin_bl I q dec_int)
    | str j => obtain ⟨t', rfl⟩ := ry; exact PySem.EqMixed.eq_int_str (fin_bl I q (by simp))
    | _ => exact absurd (show false = true from hs) Bool.false_ne_true
  | str i =>
    obtain ⟨t, rfl⟩ := rx
    cases y with
    | non => cases ry; exact PySem.EqNone.eq_str_none (fin_bl I q (by simp))
    | bl j => cases ry; exact PySem.EqMixed.eq_str_bool (fin_bl I q (by simp))
    | int j => obtain ⟨t', rfl⟩ := ry; exact PySem.EqMixed.eq_str_int (fin_bl I q (by simp))
    | str j => obtain ⟨t', rfl⟩ := ry; exact eq_str (fin_bl I q dec_str)
    | _ => exact absurd (show false = true from hs) Bool.false_ne_true
  | byt i =>
    obtain ⟨t, rfl⟩ := rx
    cases y with
    | byt j => obtain ⟨t', rfl⟩ := ry; exact PySem.W.eq_bytes (fin_bl I q dec_byt)
    | _ => exact absurd (show false = true from hs) Bool.false_ne_true
  | _ => cases y <;> exact absurd (show false = true from hs) Bool.false_ne_true
theorem op_ne : OpR X (compareOp .NotEq) rNe := by
  intro pins s σ H x y v u Q I rx ry h
  obtain ⟨hs, q⟩ := h
  cases x with
  | non =>
    cases rx
    cases y with
    | non => cases ry; exact PySem.EqNone.ne_none_none (fin_bl I q (by simp))
    | bl j => cases ry; exact PySem.EqNone.ne_none_bool (fin_bl I q (by simp))
    | int j => obtain ⟨t', rfl⟩ := ry; exact PySem.EqNone.ne_none_int (fin_bl I q (by simp))
    | str j => obtain ⟨t', rfl⟩ := ry; exact PySem.EqNone.ne_none_str (fin_bl I q (by simp))
    | _ => exact absurd (show false = true from hs) Bool.false_ne_true
  | bl i =>
    cases rx
    cases y with
    | non => cases ry; exact PySem.EqNone.ne_bool_none (fin_bl I q (by simp))
    | bl j => cases ry; exact ne_bool (fin_bl I q (congrArg not dec_bl))
    | str j => obtain ⟨t', rfl⟩ := ry; exact PySem.EqMixed.ne_bool_str (fin_bl I q (by simp))
    | _ => exact absurd (show false = true from hs) Bool.false_ne_true
  | int i =>
    obtain ⟨t, rfl⟩ := rx
    cases y with
    | non => cases ry; exact PySem.EqNone.ne_int_none (fin_bl I q (by simp))
    | int j => obtain ⟨t', rfl⟩ := ry; exact ne_int (fin_bl I q (congrArg not dec_int))
    | str j => obtain ⟨t', rfl⟩ := ry; exact PySem.EqMixed.ne_int_str (fin_bl I q (by simp))
    | _ => exact absurd (show false = true from hs) Bool.false_ne_true
  | str i =>
    obtain ⟨t, rfl⟩ := rx
    cases y with
    | non => cases ry; exact PySem.EqNone.ne_str_none (fin_bl I q (by simp))
    | bl j => cases ry; exact PySem.EqMixed.ne_str_bool (fin_bl I q (by simp))
    | int j => obtain ⟨t', rfl⟩ := ry; exact PySem.EqMixed.ne_str_int (fin_bl I q (by simp))
    | str j => obtain ⟨t', rfl⟩ := ry; exact ne_str (fin_bl I q (congrArg not dec_str))
    | _ => exact absurd (show false = true from hs) Bool.false_ne_true
  | byt i =>
    obtain ⟨t, rfl⟩ := rx
    cases y with
    | byt j => obtain ⟨t', rfl⟩ := ry; exact PySem.W.ne_bytes (fin_bl I q (congrArg not dec_byt))
    | _ => exact absurd (show false = true from hs) Bool.false_ne_true
  | _ => cases y <;> exact absurd (show false = true from hs) Bool.false_ne_true

theorem op_lt : OpR X (compareOp .Lt) (rI0 fun i j => .bl (decide (i < j))) := opB0 fun _ _ _ _ _ _ _ q => lt_int q
theorem op_le : OpR X (compareOp .LtE) (rI0 fun i j => .bl (decide (i ≤ j))) := opB0 fun _ _ _ _ _ _ _ q => le_int q
theorem op_ge : OpR X (compareOp .GtE) (rI0 fun i j => .bl (decide (j ≤ i))) := opB0 fun _ _ _ _ _ _ _ q => ge_int q
/-- two rules for one operation: by cases -/
theorem OpR.or {f : Value → Value → Sem Value} {r r' : R2} (h : OpR X f r) (h' : OpR X f r') : OpR X f (fun x y H Q => r x y H Q ∨ r' x y H Q) := by
  intro pins s σ H x y v u Q I rx ry q
  rcases q with q | q
  · exact h pins s σ H x y v u Q I rx ry q
  · exact h' pins s σ H x y v u Q I rx ry q

theorem nomark (b : Expr) {op : CmpOp} (h : op ≠ .In := by decide) (h2 : op ≠ .NotIn := by decide) : behindInMarks op b = false := by
  have e1 : (op == CmpOp.In) = false := by cases op <;> first | rfl | exact absurd rfl h
  have e2 : (op == CmpOp.NotIn) = false := by cases op <;> first | rfl | exact absurd rfl h2
  cases b <;> simp [behindInMarks, e1, e2]
/-- a comparison as a value; hm: nomark b, or (for in, not in) by with_unfolding_all rfl -/
theorem pe_cmpR {op : CmpOp} {r : R2} (ho : OpR X (compareOp op) r) (ha : PE X a ta) (hb : PE X b tb) (hm : behindInMarks op b = false) : PE X (.Compare a [op] [b] pos) (tOp r ta tb) := by
  intro pins s σ H Q I h
  exact wpAny_Compare1 (binT ha hb I h fun v u s2 x y H2 I2 rx ry q => ho pins s2 σ H2 x y v u Q I2 rx ry q) hm
/-- a reading of a value as a test -/
def tTest (t : TE) : TT := fun σ H Q => t σ H fun x H' => ∃ k, x = .bl k ∧ Q k H'
theorem pt_cmpR {op : CmpOp} {r : R2} (ho : OpR X (compareOp op) r) (ha : PE X a ta) (hb : PE X b tb) (hm : behindInMarks op b = false) : PT X (.Compare a [op] [b] pos) (tTest (tOp r ta tb)) := by
  intro pins s σ H Q I h
  refine wpAny_isTrue_Compare1 (thn (ha pins s σ H _ I h) fun v s1 ⟨x, H1, I1, r1, q1⟩ => thn (hb pins s1 σ H1 _ I1 q1) fun u s2 ⟨y, H2, I2, r2, q2⟩ =>
    thn (ho pins s2 σ H2 x y v u _ I2 r1 r2 q2) fun c s3 ⟨z, H3, I3, r3, k, e, q3⟩ => ?_) hm
  subst e
  cases r3
  exact wpAny_truthy_bool ⟨H3, I3, q3⟩
/-- a op1 b op2 c -/
def tChain (r r' : R2) (ta tb tc : TE) : TE := fun σ H Q => ta σ H fun x H1 => tb σ H1 fun y H2 => r x y H2 fun z H3 => ∃ k, z = .bl k ∧
  (if k = true then tc σ H3 fun w' H4 => r' y w' H4 Q else Q (.bl false) H3)
theorem pe_chain {op op' : CmpOp} {r r' : R2} (ho : OpR X (compareOp op) r) (ho' : OpR X (compareOp op') r') (ha : PE X a ta) (hb : PE X b tb) (hc : PE X c tc)
    (hm : lastMarks [op, op'] [b, c] = false := by with_unfolding_all rfl) : PE X (.Compare a [op, op'] [b, c] pos) (tChain r r' ta tb tc) := by
  intro pins s σ H Q I h
  refine Compare_chain (thn (ha pins s σ H _ I h) fun v s1 ⟨x, H1, I1, r1, q1⟩ => chain_link (thn (hb pins s1 σ H1 _ I1 q1) fun u s2 ⟨y, H2, I2, r2, q2⟩ =>
    thn (ho pins s2 σ H2 x y v u _ I2 r1 r2 q2) fun d s3 ⟨z, H3, I3, r3, k, e, q3⟩ => ?_)) hm
  subst e
  cases r3
  refine wpAny_truthy_bool ?_
  cases k with
  | false => exact ite_ff ⟨.bl false, H3, I3, rfl, q3⟩
  | true => exact ite_tt (chain_last (thn (hc pins s3 σ H3 _ I3 q3) fun w' s4 ⟨z', H4, I4, r4, q4⟩ => ho' pins s4 σ H4 y z' u w' Q I4 r2 r4 q4))
/-! ### truth -/
/-- a value's truth by the abstract heap -/
def TruV (K : PySem.W.Frag) (x : V) (H : Hp) (k : Bool) : Prop :=
  match x with
  | .non => k = false
  | .bl b => k = b
  | .int i => k = (i != 0)
  | .str y => y.length ≤ sizeLine ∧ k = ((y.length : Int) != 0)
  | .byt y => y.size ≤ sizeLine ∧ k = ((y.size : Int) != 0)
  | .ref p => (∃ xs, SqL K H p xs ∧ k = !xs.isEmpty) ∨ (∃ xs, SqT K H p xs ∧ k = !xs.isEmpty) ∨ ∃ kvs, H p = some (.dK kvs) ∧ k = !kvs.isEmpty
  | _ => False
theorem isEmpty_kv {κ : Type} {kvs : List (κ × V)} {vs : List (κ × Value)} (r : KV kvs vs) : (!vs.isEmpty) = !kvs.isEmpty := by
  cases r <;> rfl
theorem isEmpty_of {xs : List V} {its : List Value} (r : Vals xs its) : (!its.toArray.isEmpty) = !xs.isEmpty := by
  cases r <;> simp
theorem line63 : (sizeLine : Nat) < 2 ^ 63 := by rw [sizeLine_eq]; decide
theorem tru_ok : TruR X (fun x H Q => ∃ k, TruV X.K x H k ∧ Q k H) := by
  intro pins s σ H x v Q I rx h
  obtain ⟨k, e, q⟩ := h
  have hl := line63
  have hs : sizeLine = 16777216 := sizeLine_eq
  cases x with
  | non =>
    cases rx
    have e' : k = false := e
    subst e'
    exact truthy_none ⟨H, I, q⟩
  | bl b =>
    cases rx
    have e' : k = b := e
    subst e'
    exact wpAny_truthy_bool ⟨H, I, q⟩
  | int i =>
    obtain ⟨t, rfl⟩ := rx
    have e' : k = (i != 0) := e
    subst e'
    exact PySem.P.truthy_int ⟨H, I, q⟩
  | str y =>
    obtain ⟨t, rfl⟩ := rx
    obtain ⟨hy, e'⟩ : y.length ≤ sizeLine ∧ k = ((y.length : Int) != 0) := e
    subst e'
    exact PySem.P.truthy_str (by omega) ⟨H, I.tok _, q⟩
  | byt y =>
    obtain ⟨t, rfl⟩ := rx
    obtain ⟨hy, e'⟩ : y.size ≤ sizeLine ∧ k = ((y.size : Int) != 0) := e
    subst e'
    exact PySem.W.truthy_bytes (by omega) ⟨H, I.tok _, q⟩
  | ref p =>
    cases rx
    have e' : (∃ xs, SqL X.K H p xs ∧ k = !xs.isEmpty) ∨ (∃ xs, SqT X.K H p xs ∧ k = !xs.isEmpty) ∨ ∃ kvs, H p = some (.dK kvs) ∧ k = !kvs.isEmpty := e
    rcases e' with ⟨xs, hx, e'⟩ | ⟨xs, hx, e'⟩ | ⟨kvs, hx, e'⟩
    · subst e'
      obtain ⟨its, r, pl, hz⟩ := I.list hx
      have hlen := r.length
      exact wpAny_truthy_list pl.isList (by simp only [List.size_toArray]; omega) ⟨H, I.tok _, by rw [isEmpty_of r]; exact q⟩
    · subst e'
      obtain ⟨its, r, pl, hz⟩ := I.tuple hx
      have hlen := r.length
      exact truthy_tuple pl (by simp only [List.size_toArray]; omega) ⟨H, I.tok _, by rw [isEmpty_of r]; exact q⟩
    · subst e'
      obtain ⟨hz, hS, vs, r, m⟩ : kvs.length ≤ sizeLine ∧ (p == sysModules) = false ∧ ∃ vs, KV kvs vs ∧ s.heap.DictOf (mixKind X.prog X.w) p vs := I.hok p _ hx
      have hlen : kvs.length = vs.length := Paired.length r
      exact wpAny_truthy_dict hS m (by omega) ⟨H, I.tok _, by rw [isEmpty_kv r]; exact q⟩
  | _ => exact (show False from e).elim
/-- any expression whose test is its value's truth (a name, a call, a subscript, a field ..: he by fun _ => rfl) -/
theorem pt_truth (ha : PE X a ta) (he : ∀ whole, isTrue a X.env whole = (do let v ← whole; standAt a.pos; holding [v] (truthy v))) :
    PT X a (fun σ H Q => ta σ H fun x H' => ∃ k, TruV X.K x H' k ∧ Q k H') := by
  intro pins s σ H Q I h
  exact isTrue_plain (thn (ha pins s σ H _ I h) fun v s1 ⟨x, H1, I1, r1, q1⟩ => tru_ok pins s1 σ H1 x v Q I1 r1 q1) (he _)

/-! ### strs and bytes -/
theorem op_add_str : OpR X (binaryOp .Add) (fun x y H Q => ∃ i j, x = .str i ∧ y = .str j ∧ i.length + j.length ≤ sizeLine ∧ Q (.str (i ++ j)) H) := by
  intro pins s σ H x y v u Q I rx ry h
  obtain ⟨i, j, rfl, rfl, hz, q⟩ := h
  obtain ⟨t, rfl⟩ := rx
  obtain ⟨t', rfl⟩ := ry
  exact add_str (fun t' tk => ⟨.str (i ++ j), H, I.tok _, ⟨_, rfl⟩, q⟩) hz
/-! ### scalar builtins, by CallR -/
theorem vals1 {x : V} {us : List Value} (r : Vals [x] us) : ∃ u, us = [u] ∧ RelV x u := by
  cases r with
  | cons r1 r2 => cases r2; exact ⟨_, rfl, r1⟩
theorem vals2 {x y : V} {us : List Value} (r : Vals [x, y] us) : ∃ u w', us = [u, w'] ∧ RelV x u ∧ RelV y w' := by
  cases r with
  | cons r1 r2 =>
    cases r2 with
    | cons r3 r4 => cases r4; exact ⟨_, _, rfl, r1, r3⟩
theorem call_max2 (hc : X.calm = true) : CallR X (.builtin "max") (fun xs H Q => ∃ i j, xs = [.int i, .int j] ∧ Q (.int (if j > i then j else i)) H) := by
  intro pins s σ H xs us Q I r h
  obtain ⟨i, j, rfl, q⟩ := h
  obtain ⟨u, w', rfl, ⟨t, rfl⟩, ⟨t', rfl⟩⟩ := vals2 r
  refine max_two_ints (I.ok.hd hc) fun h' tk k => ⟨_, H, I.kept k, ?_, q⟩
  by_cases hj : j > i
  · rw [if_pos hj, if_pos hj]; exact ⟨_, rfl⟩
  · rw [if_neg hj, if_neg hj]; exact ⟨_, rfl⟩
theorem call_min2 (hc : X.calm = true) : CallR X (.builtin "min") (fun xs H Q => ∃ i j, xs = [.int i, .int j] ∧ Q (.int (if j < i then j else i)) H) := by
  intro pins s σ H xs us Q I r h
  obtain ⟨i, j, rfl, q⟩ := h
  obtain ⟨u, w', rfl, ⟨t, rfl⟩, ⟨t', rfl⟩⟩ := vals2 r
  refine min_two_ints (I.ok.hd hc) fun h' tk k => ⟨_, H, I.kept k, ?_, q⟩
  by_cases hj : j < i
  · rw [if_pos hj, if_pos hj]; exact ⟨_, rfl⟩
  · rw [if_neg hj, if_neg hj]; exact ⟨_, rfl⟩
end
end L2

namespace L2
open PySem PySem.Spec PyProof.Rows

/-! ### an instance, its attributes a map -/
structure ObjM (h : Heap) (x dx C : Addr) (mA : Str → Option Value) : Prop where
  obj : h.get? x = some (PySem.W.instObj C dx)
  ns : h.Ns1 dx mA
  ne : dx ≠ x

theorem lookIn_ns {h : Heap} {dx : Addr} {mA : Str → Option Value} (n : h.Ns1 dx mA) : ∃ od, h.get? dx = some od ∧ ∀ name, PySem.W.lookIn name od = some (mA name) := by
  obtain ⟨o, es, ep, ho, hd, hk, _, hm⟩ := n
  refine ⟨o, ho, fun name => ?_⟩
  have e := hm name
  unfold nsFind findBy at e
  rw [← Array.find?_toList] at e
  unfold PySem.W.lookIn
  rw [hd]
  dsimp only
  split
  · rename_i y q
    rw [q] at e
    exact congrArg some e
  · rename_i q
    rw [q] at e
    have a : es.toList.any (·.refKey) = false := by
      rw [List.any_eq_false]
      intro y hy
      obtain ⟨z, t, hkey⟩ := hk y (Array.mem_toList_iff.mp hy)
      simp [DictEntry.refKey, hkey]
    have a' : ¬ es.toList.any (·.refKey) = true := by rw [a]; exact Bool.false_ne_true
    rw [if_neg a']
    exact congrArg some e

theorem ObjM.look {h : Heap} {x dx C : Addr} {mA : Str → Option Value} (I : ObjM h x dx C mA) : ∃ od, PySem.W.InstAt h x (PySem.W.instObj C dx) C (some od) ∧ ∀ name, PySem.W.lookIn name od = some (mA name) :=
  let ⟨od, ho, hl⟩ := lookIn_ns I.ns
  ⟨od, ⟨I.obj, rfl, rfl, ho⟩, hl⟩

section
variable {prog : Program} {w : World} {A : Around} {E : Value → Shared → Prop} {s : Shared} {K : PySem.W.Frag} {x dx C f : Addr} {mA : Str → Option Value} {name : Str} {v : Value}

theorem get_map {expr : Bool} {Q : Value → Shared → Prop} (X : K.In s.heap) (I : ObjM s.heap x dx C mA) (hg : PySem.W.plainGet K C name = true) (hh : PySem.W.hasDictIn K C = true)
    (ha : PySem.W.findIn K (.ref C) name = some none) (hv : mA name = some v) (hv' : PySem.W.handedIn v = true) (h : Q v { s with toks := s.toks + 1 }) :
    wpAny (model prog w) A (getAttr (.ref x) name expr) Q E s := by
  obtain ⟨od, J, hl⟩ := I.look
  exact PySem.W.get_value X J (PySem.W.plainGet_of hg).1 (PySem.W.findObj_own hh ha rfl (by rw [hl, hv])) hv' h

theorem get_meth {pl : Sem Bool} {Q : Value × List Value → Shared → Prop} (X : K.In s.heap) (I : ObjM s.heap x dx C mA) (hg : PySem.W.plainGet K C name = true)
    (hf : PySem.W.findIn K (.ref C) name = some (some (.ref f))) (ht : PySem.W.isFn K (.ref f) = true) (hv : mA name = none) (h : Q (.ref f, [.ref x]) s) :
    wpAny (model prog w) A (getMethod (.ref x) name pl) Q E s := by
  obtain ⟨od, J, hl⟩ := I.look
  exact PySem.W.method_fn X J (PySem.W.plainGet_of hg).1 (PySem.W.plainGet_of hg).2 hf (beq_iff_eq.mp ht) (by show (PySem.W.lookIn name od).map (·.isSome) = some false; rw [hl, hv]; rfl) h

theorem set_map {ns : List Str} {Q : Unit → Shared → Prop} (X : K.In s.heap) (I : ObjM s.heap x dx C mA)
    (hs : PySem.W.findIn K (.ref C) "__setattr__" = some (some (.builtin "object.__setattr__"))) (hp : PySem.W.plainOver K C = true) (ht : PySem.W.takerIn K C name = some none) (hh : PySem.W.hasDictIn K C = true)
    (hw : PySem.Within mA ns) (hsz : ns.length ≤ sizeLine)
    (h : ∀ h', ObjM h' x dx C (fun y => if y = name then some v else mA y) → Heap.SameBut dx s.heap h' → Q () { s with heap := h', toks := s.toks + 2 }) :
    wpAny (model prog w) A (setAttr (.ref x) name v) Q E s := by
  obtain ⟨od, J, hl⟩ := I.look
  refine PySem.W.set_plain X J hs (PySem.W.osa_open (s := { s with toks := s.toks + 1 }) (r := none) X J hp ht fun b => ?_)
  obtain ⟨cd, hc, hd'⟩ := PySem.W.any_some hh
  have hx : s.heap.get? x = some ⟨.ref C, some dx, .plain, #[]⟩ := I.obj
  refine wpAny_bind (wpAny_pure (wpAny_bind (wpAny_bind (wpAny_loadPart hx (wpAny_bind (PySem.W.Looks.here (s := { s with toks := s.toks + 1 }) (PySem.W.looks_clsIn X hc) ?_))))))
  rw [hd']
  refine wpAny_pure (a := some dx) (wpAny_bind (wpAny_pure (wpAny_bind ?_)))
  refine wpAny_nsSet1 (s := { s with toks := s.toks + 1 }) I.ns fun h' hn2 hs2 => ?_
  obtain ⟨oD, esD, epD, hoD, hdD, hcD⟩ := hn2.count (PySem.Within.cons name v hw)
  refine wpAny_bind (wpAny_lookBehind hoD (by rw [hdD]; exact pastItsLine_dict (Nat.le_trans hcD (by rw [List.length_cons]; omega))) ?_)
  exact wpAny_pure (h _ ⟨(hs2.2 _ (Ne.symm I.ne)).trans I.obj, hn2, I.ne⟩ hs2)

/-- C(..): the dict at the heap's end, the instance behind it; then its __init__ -/
theorem make_map {R : Result → Shared → Prop} {vs : List Value} {kw : List (Str × Value)} (X : K.In s.heap) (hm : PySem.W.makesIn K C = true)
    (hi : PySem.W.findIn K (.ref C) "__init__" = some (some (.ref f))) (hf : PySem.W.typeIn K (.ref f) = some (.type "function"))
    (h : codeAny (model prog w) (A.under (.builtin "type.__call__" ⟨.ref C :: vs, kw⟩)) (.call (.ref f) ⟨.ref (s.heap.objs.size + 1) :: vs, kw⟩) (PySem.W.InitBack (s.heap.objs.size + 1) R)
      { s with heap := (s.heap.push PySem.W.emptyDict).push (PySem.W.instObj C s.heap.objs.size) }) :
    codeAny (model prog w) A (.call (.ref C) ⟨vs, kw⟩) R s := by
  obtain ⟨hh, g, d, t, os⟩ := s
  exact PySem.W.make_core (PySem.W.makes_of X hm) (PySem.W.looks_findIn X hi) (fun self => PySem.W.bind_fn X self hf) (.inl rfl) h
end

/-! ### the attributes as a list of pairs -/
def putF (f : Str) (v : V) : List (Str × V) → List (Str × V)
  | [] => [(f, v)]
  | (g, x) :: r => if g = f then (g, v) :: r else (g, x) :: putF f v r
theorem lookup_putF (f g : Str) (v : V) : ∀ fs : List (Str × V), (putF f v fs).lookup g = if g = f then some v else fs.lookup g
  | [] => by
    show List.lookup g [(f, v)] = _
    by_cases h : g = f
    · have hb : (g == f) = true := beq_iff_eq.mpr h
      simp only [List.lookup, hb, if_pos h]
    · have hb : (g == f) = false := beq_eq_false_iff_ne.mpr h
      simp only [List.lookup, hb, if_neg h]
  | (k, x) :: r => by
    have ih := lookup_putF f g v r
    rw [show putF f v ((k, x) :: r) = (if k = f then (k, v) :: r else (k, x) :: putF f v r) from rfl]
    by_cases hk : k = f
    · rw [if_pos hk]
      by_cases h : g = k
      · have hb : (g == k) = true := beq_iff_eq.mpr h
        simp only [List.lookup, hb, if_pos (h.trans hk)]
      · have hb : (g == k) = false := beq_eq_false_iff_ne.mpr h
        simp only [List.lookup, hb, if_neg (fun e : g = f => h (e.trans hk.symm))]
    · rw [if_neg hk]
      by_cases h : g = k
      · have hb : (g == k) = true := beq_iff_eq.mpr h
        simp only [List.lookup, hb, if_neg (fun e : g = f => hk (h.symm.trans e))]
      · have hb : (g == k) = false := beq_eq_false_iff_ne.mpr h
        simp only [List.lookup, hb]
        exact ih
theorem keys_putF (f : Str) (v : V) : ∀ fs : List (Str × V), f ∈ (putF f v fs).map (·.1) ∧ ∀ g, g ∈ fs.map (·.1) → g ∈ (putF f v fs).map (·.1)
  | [] => ⟨by simp [putF], fun g h => by simp at h⟩
  | (k, x) :: r => by
    obtain ⟨i1, i2⟩ := keys_putF f v r
    rw [show putF f v ((k, x) :: r) = (if k = f then (k, v) :: r else (k, x) :: putF f v r) from rfl]
    by_cases hk : k = f
    · rw [if_pos hk]
      subst hk
      exact ⟨by simp, fun g h => by simpa using h⟩
    · rw [if_neg hk]
      refine ⟨?_, fun g h => ?_⟩
      · rw [List.map_cons]
        exact List.mem_cons_of_mem _ i1
      · rw [List.map_cons] at h ⊢
        rcases List.mem_cons.mp h with e | e
        · exact List.mem_cons.mpr (.inl e)
        · exact List.mem_cons_of_mem _ (i2 g e)
theorem length_putF (f : Str) (v : V) : ∀ fs : List (Str × V), (putF f v fs).length ≤ fs.length + 1
  | [] => by simp [putF]
  | (k, x) :: r => by
    have ih := length_putF f v r
    rw [show putF f v ((k, x) :: r) = (if k = f then (k, v) :: r else (k, x) :: putF f v r) from rfl]
    by_cases hk : k = f
    · rw [if_pos hk, List.length_cons, List.length_cons]; omega
    · rw [if_neg hk, List.length_cons, List.length_cons]; omega

theorem RelO.some_of {v : V} {o : Option Value} (r : RelO (some v) o) : ∃ u, o = some u ∧ RelV v u := by
  cases o with
  | none => exact (show False from r).elim
  | some u => exact ⟨u, rfl, r⟩
theorem RelO.none_of {o : Option Value} (r : RelO none o) : o = none := by
  cases o with
  | none => rfl
  | some u => exact (show False from r).elim
theorem handed_of {v : V} {u : Value} (r : RelV v u) : PySem.W.handedIn u = true := by
  cases v with
  | non => cases (show u = Value.none from r); rfl
  | bl b => cases (show u = Value.bool b from r); rfl
  | int i => obtain ⟨t, e⟩ := (show ∃ t, u = Value.int i t from r); cases e; rfl
  | str x => obtain ⟨t, e⟩ := (show ∃ t, u = Value.str x t from r); cases e; rfl
  | byt b => obtain ⟨t, e⟩ := (show ∃ t, u = Value.bytes b t from r); cases e; rfl
  | flt b => obtain ⟨t, e⟩ := (show ∃ t, u = Value.float b t from r); cases e; rfl
  | ref a => cases (show u = Value.ref a from r); rfl
  | ty n => cases (show u = Value.type n from r); rfl

section
variable {P : Program} {w : World} {H H' : Hp} {h h' : Heap} {a C dx : Addr} {fs fs' : List (Str × V)}
theorem ins_get (hok : HOk P w H h) (e : H a = some (.ins C dx fs)) : ∃ mA, ObjM h a dx C mA ∧ (∀ f, RelO (fs.lookup f) (mA f)) ∧ PySem.Within mA (fs.map (·.1)) ∧ fs.length ≤ 1000 ∧ H dx = some (.own a) := by
  obtain ⟨d, z, ne, ob, mA, n, r, q⟩ := (show ObjOk P w H h a (.ins C dx fs) from hok a _ e)
  exact ⟨mA, ⟨ob, n, ne⟩, r, q, z, d⟩
end

/-! ### what of the text a class must have -/
structure Cls (K : PySem.W.Frag) (C : Addr) : Prop where
  pg : PySem.W.plainGet K C Str.empty = true
  hd : PySem.W.hasDictIn K C = true
  po : PySem.W.plainOver K C = true
  sa : PySem.W.findIn K (.ref C) "__setattr__" = some (some (.builtin "object.__setattr__"))
theorem Cls.get {K : PySem.W.Frag} {C : Addr} (c : Cls K C) (f : Str) : PySem.W.plainGet K C f = true := c.pg
/-- no class of it has the name -/
def NoAttr (K : PySem.W.Frag) (C : Addr) (f : Str) : Prop := PySem.W.findIn K (.ref C) f = some none
theorem NoAttr.taker {K : PySem.W.Frag} {C : Addr} {f : Str} (n : NoAttr K C f) : PySem.W.takerIn K C f = some none := by
  unfold PySem.W.takerIn
  rw [show PySem.W.findIn K (.ref C) f = some none from n]
  rfl
/-- a constant of the class -/
structure Con (K : PySem.W.Frag) (C : Addr) (f : Str) (v : V) (u : Value) : Prop where
  at_ : PySem.W.findIn K (.ref C) f = some (some u)
  rel : RelV v u
  get : PySem.W.specialIn K u "__get__" = some none
  cp : PySem.W.copiedNames.contains f = false
/-- a method: a plain def of the class or of one above it -/
structure Meth (K : PySem.W.Frag) (C : Addr) (m : Str) (f : Addr) : Prop where
  at_ : PySem.W.findIn K (.ref C) m = some (some (.ref f))
  fn : PySem.W.isFn K (.ref f) = true
  kp : PySem.W.keepIn K (.ref f) = true

section
variable {X : Cx} {pins : List (Addr × Obj)} {σ : St} {H : Hp} {s : Shared} {a C dx : Addr} {fs : List (Str × V)} {f : Str} {v : V} {A : Around} {E : Value → Shared → Prop}

theorem getattr_ok {b : Bool} {Q : Value → Shared → Prop} (I : Inv X pins σ H s) (e : H a = some (.ins C dx fs)) (c : Cls X.K C) (n : NoAttr X.K C f) (l : fs.lookup f = some v)
    (h : ∀ u s', Inv X pins σ H s' → RelV v u → Q u s') : wpAny (model X.prog X.w) A (getAttr (.ref a) f b) Q E s := by
  obtain ⟨mA, O, r, _, _, _⟩ := ins_get I.hok e
  obtain ⟨u, hu, ru⟩ := RelO.some_of (v := v) (o := mA f) (by rw [← l]; exact r f)
  exact get_map I.kIn O (c.get f) c.hd n hu (handed_of ru) (h u _ (I.tok _) ru)

theorem getmeth_ok {m : Str} {g : Addr} {pl : Sem Bool} {Q : Value × List Value → Shared → Prop} (I : Inv X pins σ H s) (e : H a = some (.ins C dx fs)) (c : Cls X.K C) (k : Meth X.K C m g) (l : fs.lookup m = none)
    (h : Q (.ref g, [.ref a]) s) : wpAny (model X.prog X.w) A (getMethod (.ref a) m pl) Q E s := by
  obtain ⟨mA, O, r, _, _, _⟩ := ins_get I.hok e
  have hn : mA m = none := RelO.none_of (by rw [← l]; exact r m)
  exact get_meth I.kIn O (c.get m) k.at_ k.fn hn h

theorem setattr_ok {y : V} {u : Value} {Q : Unit → Shared → Prop} (I : Inv X pins σ H s) (e : H a = some (.ins C dx fs)) (c : Cls X.K C) (n : NoAttr X.K C f) (hl : fs.length < 1000) (ry : RelV y u)
    (h : ∀ s', Inv X pins σ (upd H a (.ins C dx (putF f y fs))) s' → Q () s') : wpAny (model X.prog X.w) A (setAttr (.ref a) f u) Q E s := by
  obtain ⟨mA, O, r, wi, _, ho⟩ := ins_get I.hok e
  have hz : (fs.map (·.1)).length ≤ sizeLine := by rw [List.length_map, sizeLine_eq]; omega
  refine set_map I.kIn O c.sa c.po n.taker c.hd wi hz fun h' O' sb => h _ ?_
  have hd : ∃ o, h'.get? dx = some o := let ⟨o, _, _, e', _⟩ := O'.ns; ⟨o, e'⟩
  refine I.write (x := a) (e := dx) (by rw [e]; exact True.intro) (.inr ho) (fun b q hb z => (sb.2 b hb).trans z) hd ?_
  refine ⟨by rw [upd_ne O.ne]; exact ho, ?_, O.ne, O'.obj, _, O'.ns, fun g => ?_, fun g hg => ?_⟩
  · have := length_putF f y fs; omega
  · show RelO ((putF f y fs).lookup g) (if g = f then some u else mA g)
    rw [lookup_putF]
    by_cases q : g = f
    · rw [if_pos q, if_pos q]; exact ry
    · rw [if_neg q, if_neg q]; exact r g
  · by_cases q : g = f
    · rw [q]; exact (keys_putF f y fs).1
    · refine (keys_putF f y fs).2 g (wi g fun z => hg ?_)
      show (if g = f then some u else mA g) = none
      rw [if_neg q]; exact z

/-- a new instance, tracked, without attributes -/
theorem Inv.made (I : Inv X pins σ H s) : Inv X pins σ (upd (upd H s.heap.objs.size (.own (s.heap.objs.size + 1))) (s.heap.objs.size + 1) (.ins C s.heap.objs.size []))
    { s with heap := (s.heap.push PySem.W.emptyDict).push (PySem.W.instObj C s.heap.objs.size) } := by
  have e1 : (s.heap.push PySem.W.emptyDict).get? s.heap.objs.size = some PySem.W.emptyDict := Heap.get?_push_size s.heap rfl
  have e2 : ((s.heap.push PySem.W.emptyDict).push (PySem.W.instObj C s.heap.objs.size)).get? (s.heap.objs.size + 1) = some (PySem.W.instObj C s.heap.objs.size) := by
    have := Heap.get?_push_size (s.heap.push PySem.W.emptyDict) (o := PySem.W.instObj C s.heap.objs.size) rfl
    rwa [Heap.size_push] at this
  have e3 : (s.heap.push PySem.W.emptyDict).Ns s.heap.objs.size (fun _ => none) := ⟨PySem.W.emptyDict, #[], _, e1, rfl, (fun e he => absurd he (by simp)), fun _ => rfl⟩
  have I1 := I.laid (a := s.heap.objs.size) (o := .own (s.heap.objs.size + 1)) (h' := s.heap.push PySem.W.emptyDict) (t' := s.toks) (fun b u q => Heap.get?_push_of_some _ q) (Nat.le_refl _) ⟨_, e1⟩
  refine I1.laid (a := s.heap.objs.size + 1) (o := .ins C s.heap.objs.size []) (t' := s.toks) (fun b u q => Heap.get?_push_of_some _ q) (Nat.le_of_eq (Heap.size_push _ _)) ?_
  have ne : s.heap.objs.size ≠ s.heap.objs.size + 1 := Nat.ne_of_lt (Nat.lt_succ_self _)
  refine ⟨by rw [upd_ne ne, upd_same], Nat.zero_le _, ne, e2, fun _ => none, (Heap.Ns1.of_empty e3).at fun o q => Heap.get?_push_of_some _ q, fun _ => True.intro, fun y hy => absurd rfl hy⟩

/-- e.f where nothing but the object is asked: through attributeBase (super) and the last hold -/
theorem attr_of {prog : Program} {w : World} {env : Env} {e : Expr} {f : Str} {pos : Pos} {s : Shared} {Q : Value → Shared → Prop} (hb : attributeBase e f env (eval e env) = eval e env)
    (h : wpAny (model prog w) A (eval e env) (fun o s₁ => wpAny (model prog w) A (getAttr o f true) Q E s₁) E s) : wpAny (model prog w) A (eval (.Attribute e f pos) env) Q E s :=
  Attribute_any_ h (by rw [arm_eval_Attribute, hb])
end

/-! ### readings and rules -/
/-- e.f, an attribute of the instance -/
def tFld (K : PySem.W.Frag) (ta : TE) (f : Str) : TE := fun σ H Q => ta σ H fun x H1 => ∃ a C dx fs v, x = .ref a ∧ H1 a = some (.ins C dx fs) ∧ Cls K C ∧ NoAttr K C f ∧ fs.lookup f = some v ∧ Q v H1
/-- e.f = value -/
def sFld (K : PySem.W.Frag) (ta tv : TE) (f : Str) : TS := fun D σ H => tv σ H fun y H1 => ta σ H1 fun x H2 => ∃ a C dx fs, x = .ref a ∧ H2 a = some (.ins C dx fs) ∧ Cls K C ∧ NoAttr K C f ∧ fs.length < 1000 ∧
  D.nx σ (upd H2 a (.ins C dx (putF f y fs)))
section
variable {X : Cx} {o e value : Expr} {f : Str} {pos pos' tpos : Pos} {ta tv : TE}
theorem pe_fld (he : PE X e ta) (hb : attributeBase e f X.env (eval e X.env) = eval e X.env) : PE X (.Attribute e f pos) (tFld X.K ta f) := by
  intro pins s σ H Q I h
  refine attr_of hb (thn (he pins s σ H _ I h) fun u s1 ⟨x, H1, I1, rx, a, C, dx, fs, v, ex, ea, c, n, l, q⟩ => ?_)
  subst ex
  obtain rfl : u = Value.ref a := rx
  exact getattr_ok I1 ea c n l fun u' s2 I2 ru => ⟨v, H1, I2, ru, q⟩
theorem ps_fld (ha : PE X o ta) (hv : PE X value tv) (hs : swapsWith value (some (.Attribute o f pos')) pos.line X.env = pure false) : PS X (.Assign [.Attribute o f pos'] value pos) (sFld X.K ta tv f) := by
  intro pins s σ H D I h
  refine plainObj_wpAny_Assign_Attribute (thn (hv pins s σ H _ I h) fun u s1 ⟨y, H1, I1, ry, q⟩ => thn (ha pins s1 σ H1 _ I1 q) fun ov s2 ⟨x, H2, I2, rx, a, C, dx, fs, ex, ea, c, n, l, q2⟩ => ?_) hs
  subst ex
  obtain rfl : ov = Value.ref a := rx
  exact setattr_ok I2 ea c n l ry fun s3 I3 => ⟨σ, _, I3, q2⟩
end

/-! ### isinstance -/
section
variable {X : Cx} {pins : List (Addr × Obj)} {σ : St} {H : Hp} {s : Shared} {A : Around} {E : Value → Shared → Prop} {Q : Value → Shared → Prop} {c : Value} {b : Bool}
/-- the type of a value, as the fragment's deciders take it; for an instance its class -/
inductive TyOf (K : PySem.W.Frag) (H : Hp) : V → Value → Prop where
  | non : TyOf K H .non (.type "NoneType")
  | bl (x : Bool) : TyOf K H (.bl x) (.type "bool")
  | int (i : Int) : TyOf K H (.int i) (.type "int")
  | str (x : Str) : TyOf K H (.str x) (.type "str")
  | flt (x : UInt64) : TyOf K H (.flt x) (.type "float")
  | lst {a : Addr} {xs : List V} (e : H a = some (.lst xs)) : TyOf K H (.ref a) (.type "list")
  | frz {a : Addr} {o : Obj} {xs : List V} (e : H a = some (.frz o (.lst xs))) : TyOf K H (.ref a) (.type "list")
  | tup {a : Addr} {xs : List V} (e : H a = some (.tup xs)) : TyOf K H (.ref a) (.type "tuple")
  | dK {a : Addr} {kvs : List (Key × V)} (e : H a = some (.dK kvs)) : TyOf K H (.ref a) (.type "dict")
  | dT {a : Addr} {kvs : List (List Key × V)} (e : H a = some (.dT kvs)) : TyOf K H (.ref a) (.type "dict")
  | ins {a C dx : Addr} {fs : List (Str × V)} (e : H a = some (.ins C dx fs)) (cl : Cls K C) (ha : PySem.W.findIn K (.ref C) "__class__" = some (some (.builtin "object.__class__")))
      (hn : PySem.W.specialIn K (.builtin "object.__class__") "__get__" = some (some (.builtin "getset_descriptor.__get__"))) (htk : PySem.W.takesIn K (.builtin "object.__class__") = some true)
      (hm : PySem.W.mroIn K C (.type "object") = some true) : TyOf K H (.ref a) (.ref C)
/-- isinstance(x, c) for one class c, a built-in or an own one: kitOne's answer -/
theorem isinst_ok {x : V} {u t : Value} (I : Inv X pins σ H s) (rx : RelV x u) (ty : TyOf X.K H x t) (e : PySem.W.kitOne X.K t c = some b) (h : ∀ tk, Q (.bool b) { s with toks := tk }) :
    wpAny (model X.prog X.w) A (call (.builtin "isinstance") [u, c]) Q E s := by
  cases ty with
  | non => cases (show u = Value.none from rx); exact PySem.W.kia_one PySem.W.kitx_none I.kIn True.intro e (fun z => nomatch z) h
  | bl y => cases (show u = Value.bool y from rx); exact PySem.W.kia_one PySem.W.kitx_bool I.kIn True.intro e (fun z => nomatch z) h
  | int i => obtain ⟨t, q⟩ := (show ∃ t, u = Value.int i t from rx); cases q; exact PySem.W.kia_one PySem.W.kitx_int I.kIn True.intro e (fun z => nomatch z) h
  | str y => obtain ⟨t, q⟩ := (show ∃ t, u = Value.str y t from rx); cases q; exact PySem.W.kia_one PySem.W.kitx_str I.kIn True.intro e (fun z => nomatch z) h
  | flt y => obtain ⟨t, q⟩ := (show ∃ t, u = Value.float y t from rx); cases q; exact PySem.W.kia_one PySem.W.kitx_float I.kIn True.intro e (fun z => nomatch z) h
  | @lst a xs ea =>
    cases (show u = Value.ref a from rx)
    obtain ⟨_, _, n, _, h1⟩ := (show ObjOk X.prog X.w H s.heap a (.lst xs) from I.hok a _ ea)
    exact PySem.W.kia_one PySem.W.kitx_list I.kIn ⟨_, h1, rfl⟩ e (fun z => nomatch z) h
  | @frz a ob xs ea =>
    cases (show u = Value.ref a from rx)
    obtain ⟨_, _, _, n, _, h1⟩ := (show ObjOk X.prog X.w H s.heap a (.frz ob (.lst xs)) from I.hok a _ ea)
    exact PySem.W.kia_one PySem.W.kitx_list I.kIn ⟨_, h1, rfl⟩ e (fun z => nomatch z) h
  | @tup a xs ea =>
    cases (show u = Value.ref a from rx)
    obtain ⟨_, _, _, p⟩ := (show ObjOk X.prog X.w H s.heap a (.tup xs) from I.hok a _ ea)
    obtain ⟨o, h1, h2, _⟩ := p
    exact PySem.W.kia_one PySem.W.kitx_tuple I.kIn ⟨o, h1, h2⟩ e (fun z => nomatch z) h
  | @dK a kvs ea =>
    cases (show u = Value.ref a from rx)
    obtain ⟨_, _, vs, _, p⟩ := (show ObjOk X.prog X.w H s.heap a (.dK kvs) from I.hok a _ ea)
    obtain ⟨o, es, ep, h1, h2, _⟩ := p
    exact PySem.W.kia_one PySem.W.kitx_dict I.kIn ⟨o, h1, h2.1⟩ e (fun z => nomatch z) h
  | @dT a kvs ea =>
    cases (show u = Value.ref a from rx)
    obtain ⟨_, _, xs, _, o, es, ep, h1, h2, _⟩ := (show ObjOk X.prog X.w H s.heap a (.dT kvs) from I.hok a _ ea)
    exact PySem.W.kia_one PySem.W.kitx_dict I.kIn ⟨o, h1, h2.1⟩ e (fun z => nomatch z) h
  | @ins a C dx fs ea cl ha hn htk hm =>
    cases (show u = Value.ref a from rx)
    obtain ⟨mA, O, _⟩ := ins_get I.hok ea
    obtain ⟨od, J, _⟩ := O.look
    exact PySem.W.kia_one (PySem.W.kitx_own (cl.get _) cl.hd ha hn htk hm) I.kIn J e (fun z => nomatch z) h
end
end L2

namespace L2
open PySem PySem.Spec PyProof.Rows

/-! ### room -/
structure Room (k : Nat) (A : Around) : Prop where
  hd : A.handled = none
  dp : A.depth + 3 * k + 5 < recursionLimit
  un : A.units + 16 * k + 200 < cLine
theorem Room.mono {j k : Nat} {A : Around} (r : Room k A) (h : j ≤ k) : Room j A := ⟨r.hd, by have := r.dp; omega, by have := r.un; omega⟩
theorem Room.deeper {k : Nat} {A : Around} (r : Room (k + 1) A) (env : Env) : Room k (A.deeper env) :=
  ⟨r.hd, by have := r.dp; show A.depth + 1 + 3 * k + 5 < _; omega, by have := r.un; show A.units + 3 + 16 * k + 200 < _; omega⟩
theorem Room.in1 {k : Nat} {A : Around} (r : Room (k + 1) A) : Room k A.in1 :=
  ⟨r.hd, by have := r.dp; show A.depth + 3 * k + 5 < _; omega, by have := r.un; show A.units + 1 + 16 * k + 200 < _; omega⟩
theorem make_depth {A : Around} {C : Addr} {us : List Value} {kw : List (Str × Value)} : (A.under (.builtin "type.__call__" ⟨.ref C :: us, kw⟩)).depth = A.depth + 1 := by
  first | rfl | simp [Around.under, Code.weight, Code.isCreation, Code.isGuard, Code.isCaller, Code.frames, Code.isFrame, guardIds]
theorem make_units {A : Around} {C : Addr} {us : List Value} {kw : List (Str × Value)} : (A.under (.builtin "type.__call__" ⟨.ref C :: us, kw⟩)).units = A.units + 1 := by
  first | rfl | simp [Around.under, Code.cUnits, Code.frames, Code.isFrame]
theorem Room.make {k : Nat} {A : Around} (r : Room (k + 1) A) (C : Addr) (us : List Value) (kw : List (Str × Value)) : Room k (A.under (.builtin "type.__call__" ⟨.ref C :: us, kw⟩)) :=
  ⟨r.hd, by have := r.dp; rw [make_depth]; omega, by have := r.un; rw [make_units]; omega⟩
theorem Room.depth {k : Nat} {A : Around} (r : Room k A) : A.depth < recursionLimit := by have := r.dp; omega
theorem Room.units {k : Nat} {A : Around} (r : Room k A) : A.units + 64 < cLine := by have := r.un; omega
/-! ### argument lists and displays -/
def tNil : TA := fun _ H Q => Q [] H
def tCons (ta : TE) (tr : TA) : TA := fun σ H Q => ta σ H fun x H1 => tr σ H1 fun xs H2 => Q (x :: xs) H2
section
variable {X : Cx} {e : Expr} {es : List Expr} {te : TE} {t : TA} {pos : Pos}
theorem pa_nil : PA X [] tNil := fun _ _ _ _ H Q I h => Calls.spliced_nil ⟨[], H, I, .nil, h⟩
theorem pa_cons (ha : PE X e te) (hr : PA X es t) (hs : starEach (e :: es) X.env = (false, eval e X.env) :: starEach es X.env := by rfl) : PA X (e :: es) (tCons te t) := by
  intro pos pins s σ H Q I h
  rw [hs]
  show wpAny _ _ (spliced ((false, eval e X.env) :: backTo pos (starEach es X.env))) _ _ s
  refine Calls.spliced_cons (thn (ha pins s σ H _ I h) fun u s1 ⟨x, H1, I1, r1, q1⟩ => ?_)
  exact thn (hr pos pins s1 σ H1 _ I1 q1) fun us s2 ⟨xs, H2, I2, r2, q2⟩ => ⟨x :: xs, H2, I2, .cons r1 r2, q2⟩

/-- a tuple, a list of written items -/
def tTup (t : TA) : TE := fun σ H Q => t σ H fun xs H1 => xs.length ≤ sizeLine ∧ ∀ p, H1 p = none → Q (.ref p) (upd H1 p (.tup xs))
def tLst (t : TA) : TE := fun σ H Q => t σ H fun xs H1 => xs.length ≤ sizeLine ∧ ∀ p, H1 p = none → Q (.ref p) (upd H1 p (.lst xs))
theorem pe_tup {x1} (h : PA X es t) : PE X (.Tuple es x1 pos) (tTup t) := by
  intro pins s σ H Q I hq
  refine wpAny_Tuple_spliced (thn (h pos pins s σ H _ I hq) fun us s1 ⟨xs, H1, I1, r, z, q⟩ => ⟨by rw [← r.length]; exact z, ?_⟩)
  have hf : H1 s1.heap.objs.size = none := I1.hok.fresh (Nat.le_refl _)
  refine ⟨.ref s1.heap.objs.size, upd H1 s1.heap.objs.size (.tup xs), I1.laid (t' := s1.toks) (fun b u e => Heap.get?_push_of_some _ e) (Nat.le_refl _) ?_, rfl, q _ hf⟩
  exact ⟨z, us, r, ⟨_, Heap.get?_push_size _ rfl, rfl, _, rfl⟩⟩
theorem pe_lst (h : PA X es t) : PE X (.List es pos) (tLst t) := by
  intro pins s σ H Q I hq
  refine wpAny_List_spliced (thn (h pos pins s σ H _ I hq) fun us s1 ⟨xs, H1, I1, r, z, q⟩ => ⟨by rw [← r.length]; exact z, ?_⟩)
  have hf : H1 s1.heap.objs.size = none := I1.hok.fresh (Nat.le_refl _)
  refine ⟨.ref s1.heap.objs.size, upd H1 s1.heap.objs.size (.lst xs), I1.laid (t' := s1.toks) (fun b u e => Heap.get?_push_of_some _ e) (Nat.le_refl _) ?_, rfl, q _ hf⟩
  exact ⟨z, us, 0, r, Heap.get?_push_size _ rfl⟩
end

/-! ### what a def promises -/
/-- a def's promise: the bound arguments in the parameters' order, the heap, the wanted end, the wanted exception -/
abbrev Sp := List V → Hp → VK → XK → Prop
/-- how an exception lies behind a call (file 08 gives it): the callers' frames, abstract heap and state ahead of the call, the wish, the exception, the state -/
abbrev CXT := List Env → Hp → Shared → XK → Value → Shared → Prop

/-- the state at a call -/
structure Env0 (P : Program) (w : World) (K : PySem.W.Frag) (mg : Str → Option Value) (base : Heap) (A : Around) (outer : List Env) (s : Shared) (H : Hp) : Prop where
  frames : A.frames = some outer
  mod : Mod K mg base
  bs : ∀ b o, base.get? b = some o → s.heap.get? b = some o ∧ H b = none
  bsz : base.objs.size ≤ s.heap.objs.size
  funs : s.heap.FunFrames base outer
  frf : ∀ b ∈ frs outer, H b = none
  hok : HOk P w H s.heap
  bare : AllBare s.gens
/-- a call's end -/
def CE (outer : List Env) (P : Program) (w : World) (H : Hp) (s : Shared) (Q : VK) (u : Value) (s' : Shared) : Prop :=
  ∃ v H', s'.os = s.os ∧ AllBare s'.gens ∧ Un (frs outer) [] H H' s.heap s'.heap ∧ HOk P w H' s'.heap ∧ RelV v u ∧ Q v H'
def CR (CX : CXT) (outer : List Env) (P : Program) (w : World) (H : Hp) (s : Shared) (Q : VK) (E : XK) (r : Result) (s' : Shared) : Prop :=
  match r with
  | .ok (.ret u) => CE outer P w H s Q u s'
  | .ok _ => False
  | .error e => CX outer H s E e s'
structure FnOk (P : Program) (w : World) (K : PySem.W.Frag) (mg : Str → Option Value) (base : Heap) (CX : CXT) (k : Nat) (f : Addr) (fd : FuncData) (ps : List Str) (sp : Sp) : Prop where
  len : ∀ vs H Q E, sp vs H Q E → vs.length = ps.length
  run : ∀ (A : Around) (outer : List Env) (s : Shared) (H : Hp) (args : Args) (us : List Value) (vs : List V) (Q : VK) (E : XK), Room k A → Env0 P w K mg base A outer s H → BindsTo s fd args (ps.zip us) → Vals vs us → sp vs H Q E →
    codeAny (model P w) A (.call (.ref f) args) (CR CX outer P w H s Q E) s
theorem FnOk.mono {P : Program} {w : World} {K : PySem.W.Frag} {mg : Str → Option Value} {base : Heap} {CX : CXT} {j k : Nat} {f : Addr} {fd : FuncData} {ps : List Str} {sp : Sp} (F : FnOk P w K mg base CX j f fd ps sp) (h : j ≤ k) :
    FnOk P w K mg base CX k f fd ps sp := ⟨F.len, fun A outer s H args us vs Q E hr => F.run A outer s H args us vs Q E (hr.mono h)⟩
/-- a weaker promise -/
theorem FnOk.imp {P : Program} {w : World} {K : PySem.W.Frag} {mg : Str → Option Value} {base : Heap} {CX : CXT} {k : Nat} {f : Addr} {fd : FuncData} {ps : List Str} {sp sp' : Sp} (F : FnOk P w K mg base CX k f fd ps sp)
    (h : ∀ vs H Q E, sp' vs H Q E → sp vs H Q E) : FnOk P w K mg base CX k f fd ps sp' :=
  ⟨fun vs H Q E q => F.len vs H Q E (h _ _ _ _ q), fun A outer s H args us vs Q E hr he hb hv hs => F.run A outer s H args us vs Q E hr he hb hv (h _ _ _ _ hs)⟩

theorem Env0.make {P : Program} {w : World} {K : PySem.W.Frag} {mg : Str → Option Value} {base : Heap} {A : Around} {outer : List Env} {s : Shared} {H : Hp} (e : Env0 P w K mg base A outer s H) (C : Addr) (us : List Value) (kw : List (Str × Value)) :
    Env0 P w K mg base (A.under (.builtin "type.__call__" ⟨.ref C :: us, kw⟩)) outer s H := ⟨by first | exact e.frames | (simpa [Around.under, Code.envs, Code.isFrame, pushEnvs] using e.frames), e.mod, e.bs, e.bsz, e.funs, e.frf, e.hok, e.bare⟩
theorem Env0.in1 {P : Program} {w : World} {K : PySem.W.Frag} {mg : Str → Option Value} {base : Heap} {A : Around} {outer : List Env} {s : Shared} {H : Hp} (e : Env0 P w K mg base A outer s H) :
    Env0 P w K mg base A.in1 outer s H := ⟨e.frames, e.mod, e.bs, e.bsz, e.funs, e.frf, e.hok, e.bare⟩

section
variable {X : Cx} {pins : List (Addr × Obj)} {σ : St} {H : Hp} {s s' : Shared}
/-- from a body: what a callee wants -/
theorem Inv.env0 (I : Inv X pins σ H s) : Env0 X.prog X.w X.K X.mg X.base X.A X.stack s H :=
  ⟨I.ok.frames, I.ok.mod, I.bs, Nat.le_trans I.ok.bsz I.sz, I.stack, I.stkFree, I.hok, I.bare⟩
/-- behind a call -/
theorem Inv.after {Q : VK} {u : Value} (I : Inv X pins σ H s) (h : CE X.stack X.prog X.w H s Q u s') : EP X pins σ Q u s' := by
  obtain ⟨v, H', os, bare, un, hok, r, q⟩ := h
  obtain ⟨hh, g, d, t, os'⟩ := s'
  obtain rfl : os' = s.os := os
  exact ⟨v, H', I.call (h' := hh) (g' := g) (d' := d) (t' := t) (ch := []) un hok bare (fun b z => absurd z (by simp)), r, q⟩
end

/-! ### calls -/
/-- f(..): the written arguments, then the defaults dvs; E: what is wanted of an exception -/
def tCall (sp : Sp) (dvs : List V) (E : XK) (t : TA) : TE := fun σ H Q => t σ H fun vs H1 => sp (vs ++ dvs) H1 Q E
/-- o.m(..) of an instance of the class at C -/
def tMeth (C : Addr) (m : Str) (sp : Sp) (dvs : List V) (E : XK) (ta : TE) (t : TA) : TE := fun σ H Q => ta σ H fun x H1 => ∃ a dx fs, x = .ref a ∧ H1 a = some (.ins C dx fs) ∧ fs.lookup m = none ∧
  t σ H1 fun vs H2 => sp (x :: (vs ++ dvs)) H2 Q E
/-- C(..): a new instance and its dict, then __init__ -/
def tMake (C : Addr) (sp : Sp) (dvs : List V) (E : XK) (t : TA) : TE := fun σ H Q => t σ H fun vs H1 => ∀ x dx, H1 x = none → H1 dx = none → dx ≠ x →
  sp (.ref x :: (vs ++ dvs)) (upd (upd H1 dx (.own x)) x (.ins C dx [])) (fun v H2 => v = .non ∧ Q (.ref x) H2) E

/-- how the parameters are bound: us the positional arguments, kw the keywords' values by name, ds the defaults that fill up -/
def Binds (K : PySem.W.Frag) (fd : FuncData) (ps : List Str) (ds : List Value) : Prop :=
  ∀ (s : Shared) (us : List Value), K.In s.heap → (us ++ ds).length = ps.length → BindsTo s fd ⟨us, []⟩ (ps.zip (us ++ ds))
/-- every parameter is given -/
theorem Binds.all {K : PySem.W.Frag} {fd : FuncData} {ps : List Str} (h : ∀ us : List Value, us.length = ps.length → bindArgs fd ⟨us, []⟩ = pure (ps.zip us)) : Binds K fd ps [] := fun s us _ hl => by
  rw [List.append_nil] at hl ⊢
  exact .of_eq (h us hl)

/-- an exception of a callee reaches what this body wants of exceptions -/
def Passes (CX : CXT) (X : Cx) (E : XK) : Prop := ∀ (pins : List (Addr × Obj)) (σ : St) (H : Hp) (s : Shared) (e : Value) (s' : Shared), Inv X pins σ H s → CX X.stack H s E e s' → X.xe e s'

section
variable {X : Cx} {CX : CXT} {k : Nat} {f C : Addr} {fd : FuncData} {ps : List Str} {sp : Sp} {dvs : List V} {ds : List Value} {E : XK} {x m : Str} {p pos apos : Pos} {e o : Expr} {es : List Expr} {ta : TE} {t : TA}

/-- the callee runs -/
theorem run_fn {pins : List (Addr × Obj)} {σ : St} {H : Hp} {s : Shared} {Q : VK} {us : List Value} {vs : List V} (F : FnOk X.prog X.w X.K X.mg X.base CX k f fd ps sp) (hr : Room k X.A) (hb : Binds X.K fd ps ds) (hd : Vals dvs ds) (hx : Passes CX X E)
    (I : Inv X pins σ H s) (r : Vals vs us) (h : sp (vs ++ dvs) H Q E) : wpAny (model X.prog X.w) X.A (call (.ref f) us) (EP X pins σ Q) X.xe s := by
  have r2 : Vals (vs ++ dvs) (us ++ ds) := r.append hd
  have hl : (us ++ ds).length = ps.length := by rw [← r2.length]; exact F.len _ _ _ _ h
  refine wpAny_call (codeAny_mono (F.run X.A X.stack s H ⟨us, []⟩ (us ++ ds) (vs ++ dvs) Q E hr I.env0 (hb s us I.kIn hl) r2 h) fun r s' hq => ?_)
  cases r with
  | error e => exact hx pins σ H s e s' I hq
  | ok fl =>
    cases fl with
    | ret u => exact I.after hq
    | next => exact False.elim hq
    | brk => exact False.elim hq
    | cont => exact False.elim hq

theorem pe_call (F : FnOk X.prog X.w X.K X.mg X.base CX k f fd ps sp) (hr : Room k X.A) (hg : Gl X x) (hm : X.mg x = some (.ref f)) (hk : PySem.W.keepIn X.K (.ref f) = true) (hb : Binds X.K fd ps ds) (hd : Vals dvs ds) (hx : Passes CX X E)
    (ha : PA X (e :: es) t) (hdb : (x == ("__debug__" : Str)) = false := by decide) (he : starEach (e :: es) X.env = (false, eval e X.env) :: starEach es X.env := by rfl) (hpl : (backTo pos (starEach es X.env)).any (·.1) = false := by rfl) :
    PE X (.Call (.Name x p) (e :: es) [] pos) (tCall sp dvs E t) := by
  intro pins s σ H Q I h
  refine wpAny_Call_Name_kw (ld_glob I hg hm ?_ hdb)
  refine PySem.W.callWith_K (h₀ := X.base) I.ok.mod.kin hk (thn (ha pos pins s σ H _ I h) fun us s1 ⟨vs, H1, I1, r, q⟩ => ⟨I1.kIn, ?_⟩) he hpl
  exact run_fn F hr hb hd hx I1 r q
/-- o.m(e, ..) -/
theorem pe_meth {pl : Sem Bool} (he : PE X o ta) (c : Cls X.K C) (hm : Meth X.K C m f) (F : FnOk X.prog X.w X.K X.mg X.base CX k f fd ps sp) (hr : Room k X.A) (hb : Binds X.K fd ps ds) (hd : Vals dvs ds) (hx : Passes CX X E) (ha : PA X (e :: es) t)
    (hst : starEach (e :: es) X.env = (false, eval e X.env) :: starEach es X.env := by rfl) (hpl : (backTo pos (starEach es X.env)).any (·.1) = false := by rfl)
    (ht : eval (.Call (.Attribute o m apos) (e :: es) [] pos) X.env = (do
      let ov ← eval o X.env
      standAt apos.atName
      let (f, first) ← holding [ov] (getMethod ov m pl)
      callWith pos f first (backTo pos (starEach (e :: es) X.env)) (backToKw pos (keywordEach [] X.env))) := by rfl) :
    PE X (.Call (.Attribute o m apos) (e :: es) [] pos) (tMeth C m sp dvs E ta t) := by
  intro pins s σ H Q I h
  refine PySem.W.methodCall_KW (pl := pl) (thn (he pins s σ H _ I h) fun u s1 ⟨x, H1, I1, rx, a, dx, fs, ex, ea, l, q⟩ => ?_) ht
  subst ex
  obtain rfl : u = Value.ref a := rx
  refine getmeth_ok I1 ea c hm l ?_
  refine PySem.W.callWith_K (first := [.ref a]) (h₀ := X.base) I.ok.mod.kin hm.kp (thn (ha pos pins s1 σ H1 _ I1 q) fun us s2 ⟨vs, H2, I2, r, q2⟩ => ⟨I2.kIn, ?_⟩) hst hpl
  exact run_fn (us := .ref a :: us) (vs := .ref a :: vs) F hr hb hd hx I2 (.cons rfl r) q2
/-- o.m() -/
theorem pe_meth0 {pl : Sem Bool} (he : PE X o ta) (c : Cls X.K C) (hm : Meth X.K C m f) (F : FnOk X.prog X.w X.K X.mg X.base CX k f fd ps sp) (hr : Room k X.A) (hb : Binds X.K fd ps ds) (hd : Vals dvs ds) (hx : Passes CX X E)
    (ht : eval (.Call (.Attribute o m apos) [] [] pos) X.env = (do
      let ov ← eval o X.env
      standAt apos.atName
      let (f, first) ← holding [ov] (getMethod ov m pl)
      callWith pos f first (backTo pos (starEach [] X.env)) (backToKw pos (keywordEach [] X.env))) := by rfl) :
    PE X (.Call (.Attribute o m apos) [] [] pos) (tMeth C m sp dvs E ta tNil) := by
  intro pins s σ H Q I h
  refine PySem.W.methodCall_KW (pl := pl) (thn (he pins s σ H _ I h) fun u s1 ⟨x, H1, I1, rx, a, dx, fs, ex, ea, l, q⟩ => ?_) ht
  subst ex
  obtain rfl : u = Value.ref a := rx
  refine getmeth_ok I1 ea c hm l ?_
  exact PySem.W.callWith_K0 (first := [.ref a]) I1.kIn hm.kp (run_fn (us := [.ref a]) (vs := [.ref a]) F hr hb hd hx I1 (.cons rfl .nil) q)

/-- what a class must have to be made -/
structure Mk (K : PySem.W.Frag) (C f : Addr) : Prop where
  makes : PySem.W.makesIn K C = true
  init : PySem.W.findIn K (.ref C) "__init__" = some (some (.ref f))
  fn : PySem.W.isFn K (.ref f) = true
  kp : PySem.W.keepIn K (.ref C) = true

theorem run_make {pins : List (Addr × Obj)} {σ : St} {H : Hp} {s : Shared} {Q : VK} {us : List Value} {vs : List V} (M : Mk X.K C f) (F : FnOk X.prog X.w X.K X.mg X.base CX k f fd ps sp) (hr : Room (k + 1) X.A) (hb : Binds X.K fd ps ds) (hd : Vals dvs ds)
    (hx : Passes CX X E) (I : Inv X pins σ H s) (r : Vals vs us)
    (h : ∀ x dx, H x = none → H dx = none → dx ≠ x → sp (.ref x :: (vs ++ dvs)) (upd (upd H dx (.own x)) x (.ins C dx [])) (fun v H2 => v = .non ∧ Q (.ref x) H2) E) :
    wpAny (model X.prog X.w) X.A (call (.ref C) us) (EP X pins σ Q) X.xe s := by
  have hq := h (s.heap.objs.size + 1) s.heap.objs.size (I.hok.fresh (Nat.le_succ _)) (I.hok.fresh (Nat.le_refl _)) (Nat.ne_of_lt (Nat.lt_succ_self _))
  have I2 := Inv.made (C := C) I
  have r2 : Vals (V.ref (s.heap.objs.size + 1) :: (vs ++ dvs)) (Value.ref (s.heap.objs.size + 1) :: (us ++ ds)) := .cons rfl (r.append hd)
  have hl : (Value.ref (s.heap.objs.size + 1) :: us ++ ds).length = ps.length := by
    have e := r2.length
    rw [F.len _ _ _ _ hq] at e
    exact e.symm
  refine wpAny_call (make_map (f := f) I.kIn M.makes M.init (beq_iff_eq.mp M.fn) (codeAny_mono (F.run _ X.stack _ _ ⟨Value.ref (s.heap.objs.size + 1) :: us, []⟩ (Value.ref (s.heap.objs.size + 1) :: (us ++ ds)) _ _ E (hr.make C us [])
    (I2.env0.make C us []) (hb _ (Value.ref (s.heap.objs.size + 1) :: us) I2.kIn hl) r2 hq) fun r s' hq' => ?_))
  cases r with
  | error e => exact hx pins σ _ _ e s' I2 hq'
  | ok fl =>
    cases fl with
    | ret u =>
      obtain ⟨v, H', I3, rv, ev, q3⟩ := I2.after hq'
      subst ev
      exact ⟨rv, ⟨V.ref (s.heap.objs.size + 1), H', I3, rfl, q3⟩⟩
    | next => exact False.elim hq'
    | brk => exact False.elim hq'
    | cont => exact False.elim hq'
theorem pe_make (M : Mk X.K C f) (F : FnOk X.prog X.w X.K X.mg X.base CX k f fd ps sp) (hr : Room (k + 1) X.A) (hg : Gl X x) (hm : X.mg x = some (.ref C)) (hb : Binds X.K fd ps ds) (hd : Vals dvs ds) (hx : Passes CX X E)
    (ha : PA X (e :: es) t) (hdb : (x == ("__debug__" : Str)) = false := by decide) (he : starEach (e :: es) X.env = (false, eval e X.env) :: starEach es X.env := by rfl) (hpl : (backTo pos (starEach es X.env)).any (·.1) = false := by rfl) :
    PE X (.Call (.Name x p) (e :: es) [] pos) (tMake C sp dvs E t) := by
  intro pins s σ H Q I h
  refine wpAny_Call_Name_kw (ld_glob I hg hm ?_ hdb)
  refine PySem.W.callWith_K (h₀ := X.base) I.ok.mod.kin M.kp (thn (ha pos pins s σ H _ I h) fun us s1 ⟨vs, H1, I1, r, q⟩ => ⟨I1.kIn, ?_⟩) he hpl
  exact run_make M F hr hb hd hx I1 r q
end

/-! ### keywords -/
/-- the values of the keywords, from the left -/
def PK (X : Cx) (kws : List Keyword) (t : TA) : Prop :=
  ∀ (pos : Pos) (pins : List (Addr × Obj)) (s : Shared) (σ : St) (H : Hp) (Q : List V → Hp → Prop), Inv X pins σ H s → t σ H Q → wpAny (model X.prog X.w) X.A (evalAll ((backToKw pos (keywordEach kws X.env)).map (·.2))) (AP X pins σ Q) X.xe s
section
variable {X : Cx} {CX : CXT} {k : Nat} {f C : Addr} {fd : FuncData} {ps ks : List Str} {sp : Sp} {E : XK} {x m : Str} {p pos apos kpos : Pos} {e o : Expr} {es : List Expr} {kws : List Keyword} {te ta : TE} {t tk : TA} {nm : Option Str}
/-- how a call with keywords binds: g puts the positional values us and the keywords' values ws (names ks) in the parameters' order, defaults among them -/
structure KBinds (K : PySem.W.Frag) (fd : FuncData) (ps ks : List Str) (g : List Value → List Value → List Value) (gV : List V → List V → List V) : Prop where
  to : ∀ (s : Shared) (us ws : List Value), K.In s.heap → (g us ws).length = ps.length → BindsTo s fd ⟨us, ks.zip ws⟩ (ps.zip (g us ws))
  rel : ∀ {vs : List V} {us : List Value} {zs : List V} {ws : List Value}, Vals vs us → Vals zs ws → Vals (gV vs zs) (g us ws)
variable {g : List Value → List Value → List Value} {gV : List V → List V → List V}
end

/-! ### a def's body keeps its promise -/
/-- names: the parameters first -/
structure FnScope (N P : List Str) (sc : Scope) : Prop where
  kind : sc.kind = .function
  co : sc.isCoroutine = false
  gen : sc.isGenerator = false
  nd : N.Nodup
  pre : N.take P.length = P
  par : ∀ x ∈ P, sc.names.lookup x = some .local ∨ sc.names.lookup x = some .cell
  nofree : ∀ y ∈ sc.names, y.2 ≠ .free

theorem bindL_out {kindOf : Str → Option NameKind} {x : Str} : ∀ {binds : List (Str × Value)} {m : Str → Option Value}, (∀ v, (x, v) ∉ binds) → bindL kindOf binds m x = m x
  | [], _, _ => rfl
  | (n, v) :: r, m, h => by
    unfold bindL
    rw [bindL_out fun w hw => h w (List.mem_cons_of_mem _ hw)]
    split
    · have : x ≠ n := by rintro rfl; exact h v List.mem_cons_self
      simp [this]
    · rfl
theorem bindC_out {kindOf : Str → Option NameKind} {x : Str} : ∀ {binds : List (Str × Value)} {m : Str → Option Value}, (∀ v, (x, v) ∉ binds) → bindC kindOf binds m x = m x
  | [], _, _ => rfl
  | (n, v) :: r, m, h => by
    unfold bindC
    rw [bindC_out fun w hw => h w (List.mem_cons_of_mem _ hw)]
    split
    · rfl
    · have : x ≠ n := by rintro rfl; exact h v List.mem_cons_self
      simp [this]
theorem bindL_get {kindOf : Str → Option NameKind} {x : Str} {v : Value} : ∀ {P : List Str} {vs : List Value} {i : Nat} {m : Str → Option Value}, P.Nodup → P[i]? = some x → vs[i]? = some v → kindOf x = some .local →
    bindL kindOf (P.zip vs) m x = some v
  | [], _, _, _, _, h, _, _ => by simp at h
  | _ :: _, [], _, _, _, _, h, _ => by simp at h
  | p :: P, w :: vs, 0, m, nd, h1, h2, hk => by
    simp at h1 h2; subst h1; subst h2
    show bindL kindOf ((p, w) :: P.zip vs) m p = _
    unfold bindL
    rw [bindL_out fun v hv => (List.nodup_cons.mp nd).1 (List.of_mem_zip hv).1, if_pos hk]
    simp
  | p :: P, w :: vs, i + 1, m, nd, h1, h2, hk => by
    show bindL kindOf ((p, w) :: P.zip vs) m x = _
    unfold bindL
    exact bindL_get (i := i) (List.nodup_cons.mp nd).2 (by simpa using h1) (by simpa using h2) hk
theorem bindC_get {kindOf : Str → Option NameKind} {x : Str} {v : Value} : ∀ {P : List Str} {vs : List Value} {i : Nat} {m : Str → Option Value}, P.Nodup → P[i]? = some x → vs[i]? = some v → kindOf x ≠ some .local →
    bindC kindOf (P.zip vs) m x = some v
  | [], _, _, _, _, h, _, _ => by simp at h
  | _ :: _, [], _, _, _, _, h, _ => by simp at h
  | p :: P, w :: vs, 0, m, nd, h1, h2, hk => by
    simp at h1 h2; subst h1; subst h2
    show bindC kindOf ((p, w) :: P.zip vs) m p = _
    unfold bindC
    rw [bindC_out fun v hv => (List.nodup_cons.mp nd).1 (List.of_mem_zip hv).1, if_neg hk]
    simp
  | p :: P, w :: vs, i + 1, m, nd, h1, h2, hk => by
    show bindC kindOf ((p, w) :: P.zip vs) m x = _
    unfold bindC
    exact bindC_get (i := i) (List.nodup_cons.mp nd).2 (by simpa using h1) (by simpa using h2) hk

/-- the names' values at the entry -/
def start (N : List Str) (vs : List V) : St := vs.map some ++ List.replicate (N.length - vs.length) none

/-- the context of a def's body, at its entry; an exception leaves the frame, then lies as CX says -/
def cxOf (CX : CXT) (P : Program) (w : World) (K : PySem.W.Frag) (mg : Str → Option Value) (base : Heap) (N : List Str) (qual : Str) (scope : Scope) (f : Addr) (cd : Value) (A : Around) (outer : List Env) (s : Shared) (H : Hp) (E : XK) : Cx where
  prog := P
  w := w
  K := K
  mg := mg
  base := base
  A := A.deeper (envOfC qual scope s.heap.objs.size f cd)
  N := N
  s₀ := s
  H₀ := H
  env := envOfC qual scope s.heap.objs.size f cd
  outer := outer
  stack := envOfC qual scope s.heap.objs.size f cd :: outer
  ex := []
  calm := true
  fn := fun _ => true
  pn := []
  xe := fun e s' => wpAny (model P w) (A.deeper (envOfC qual scope s.heap.objs.size f cd)) (leaving (envOfC qual scope s.heap.objs.size f cd) e) (fun _ s'' => CX outer H s E e s'') (fun e' s'' => CX outer H s E e' s'') s'

theorem cell_has {sc : Scope} {n : Nat} {x : Str} (h : sc.names.lookup x = some .cell) : ∃ c, (cellsFrom n sc.names []).lookup x = some c := by
  have q := PySem.W.cellsFrom_some sc.names n [] (.inl h)
  exact Option.isSome_iff_exists.mp q

theorem inv_start {CX : CXT} {P : Program} {w : World} {K : PySem.W.Frag} {mg : Str → Option Value} {base : Heap} {N ps : List Str} {qual : Str} {scope : Scope} {f : Addr} {cd : Value} {A : Around} {outer : List Env} {s s1 : Shared} {H : Hp} {E : XK} {us : List Value} {vs : List V}
    (S : FnScope N ps scope) (hd : A.handled = none) (e0 : Env0 P w K mg base A outer s H) (hl : vs.length = ps.length) (r : Vals vs us)
    (x : InCallC s s.heap.objs.size (bindL (envOfC qual scope s.heap.objs.size f cd).kindOf (ps.zip us) fun _ => none) (cellsFrom (s.heap.objs.size + 1) scope.names []) (bindC (envOfC qual scope s.heap.objs.size f cd).kindOf (ps.zip us) fun _ => none) s1) :
    Inv (cxOf CX P w K mg base N qual scope f cd A outer s H E) [] (start N vs) H s1 := by
  have hpl : ps.length ≤ N.length := by have := congrArg List.length S.pre; rw [List.length_take] at this; omega
  obtain ⟨h1, tk, rfl, hk⟩ := x.done
  have noA : ∀ b : Addr, b ∉ (cxOf CX P w K mg base N qual scope f cd A outer s H E).ex := fun b z => absurd (show b ∈ ([] : List Addr) from z) (by simp)
  refine ⟨⟨e0.mod, S.kind, rfl, rfl, Nat.le_refl _, fun y z c h1 h2 => ?_, fun y hy => ?_, fun y c _ h => ?_, fun _ => hd, Around.frames_deeper e0.frames, .inr ⟨rfl, rfl⟩, fun b z => absurd z (noA b), e0.bs, e0.bsz, fun b _ _ => noA b, fun b z => absurd z (noA b), e0.funs, e0.frf⟩,
    rfl, e0.bare, Un.kept hk, ⟨_, x.toInCall.ns, fun i y v h1 h2 h3 => ?_⟩, fun y c h => ⟨_, x.cell y c h⟩, e0.hok.fresh (Nat.le_refl _), fun y c h => ?_, fun p hp => absurd (show p ∈ ([] : List (Addr × Obj)) from hp) (by simp), e0.hok.kept hk, ?_⟩
  · exact name_of_addr x.apart (PySem.mem_of_lookup h1) (PySem.mem_of_lookup h2)
  · have hy : scope.names.lookup y = some .cell ∨ scope.names.lookup y = some .free := hy
    rcases hy with hy | hy
    · exact cell_has hy
    · exact absurd rfl (S.nofree _ (PySem.mem_of_lookup hy))
  · exact Nat.le_of_lt (x.above y c (PySem.mem_of_lookup h))
  · have hi : i < vs.length := by
      unfold start at h2
      by_cases hi : i < vs.length
      · exact hi
      · rw [List.getElem?_append_right (by simpa using hi)] at h2
        rw [List.getElem?_replicate] at h2
        split at h2 <;> cases h2
    have ha : vs[i]? = some v := by
      unfold start at h2
      rw [List.getElem?_append_left (by simpa using hi), List.getElem?_map] at h2
      cases e : vs[i]? with
      | none => rw [e] at h2; cases h2
      | some a => rw [e] at h2; cases h2; rfl
    obtain ⟨u, hu, rv⟩ := r.get ha
    have hp : ps[i]? = some y := by
      rw [← S.pre, List.getElem?_take_of_lt (by omega)]; exact h1
    have ndP : ps.Nodup := by rw [← S.pre]; exact S.nd.sublist (List.take_sublist _ _)
    refine ⟨u, rv, ?_⟩
    rcases S.par y (List.mem_of_getElem? hp) with k | k
    · exact .inl ⟨k, bindL_get ndP hp hu k⟩
    · obtain ⟨c, e⟩ := cell_has (n := s.heap.objs.size + 1) k
      refine .inr ⟨.inl k, c, e, ?_⟩
      have q := x.cell y c e
      rw [bindC_get ndP hp hu (by show scope.names.lookup y ≠ _; rw [k]; decide)] at q
      exact q
  · exact e0.hok.fresh (Nat.le_of_lt (x.above y c (PySem.mem_of_lookup h)))
  · unfold start
    show _ = N.length
    rw [List.length_append, List.length_map, List.length_replicate]
    omega

/-- THE RULE: a def (or a method) of the text, by its body. The body's reading t is chosen for each entry; it is run at the parameters' values -/
theorem fn_of {CX : CXT} {P : Program} {w : World} {K : PySem.W.Frag} {mg : Str → Option Value} {base : Heap} {k : Nat} {f : Addr} {name qual : Str} {params : Arguments} {body : List Stmt} {scope : Scope} {dV kV doc pm cdv ct oc : Value} {an od : Option Addr}
    {osl : Array (Option Value)} {N ps : List Str} {sp : Sp} (lk : K.lookup f = some ⟨oc, od, .func (PySem.W.fnOf name qual params body scope dV kV doc pm an cdv ct), osl⟩) (hcd : PySem.W.codeIn K cdv qual = true) (S : FnScope N ps scope)
    (len : ∀ vs H Q E, sp vs H Q E → vs.length = ps.length)
    (hbody : ∀ (A : Around) (outer : List Env) (s : Shared) (H : Hp) (vs : List V) (Q : VK) (E : XK), Room k (A.deeper (envOfC qual scope s.heap.objs.size f cdv)) → sp vs H Q E →
      ∃ t, PSs (cxOf CX P w K mg base N qual scope f cdv A outer s H E) body t ∧ t { nx := fun _ H' => Q .non H', rt := Q } (start N vs) H) :
    FnOk P w K mg base CX (k + 1) f (PySem.W.fnOf name qual params body scope dV kV doc pm an cdv ct) ps sp := by
  refine ⟨len, fun A outer s H args us vs Q E hr e0 hb r hsp => ?_⟩
  have hl := len _ _ _ _ hsp
  have KX : K.In s.heap := e0.mod.kin.keeps fun b o e => (e0.bs b o e).1
  have lim : s.heap.NoLimit := e0.mod.nolimit.keeps fun b o e => (e0.bs b o e).1
  have hkind : ∀ y ∈ ps.zip us, scope.names.lookup y.1 = some .local ∨ (scope.names.lookup y.1 = some .cell ∧ ((cellsFrom (s.heap.objs.size + 1) scope.names []).lookup y.1).isSome = true) := fun ⟨n, v⟩ hy => by
    rcases S.par n (List.of_mem_zip hy).1 with q | q
    · exact .inl q
    · exact .inr ⟨q, PySem.W.cellsFrom_some _ _ _ (.inl q)⟩
  refine codeAny_call_function hr.depth (KX _ _ lk) rfl S.co S.gen rfl (PySem.W.codeRec_of KX hcd) (hb _ _ _ _ ?_)
  refine wpAny_newFunctionEnv_cells S.kind hkind fun env he s1 x => ?_
  subst he
  refine ⟨lim.keeps x.toInCall.keep, codeAny_func ?_⟩
  obtain ⟨t, ht, hq⟩ := hbody A outer s H vs Q E (hr.deeper _) hsp
  have I : Inv (cxOf CX P w K mg base N qual scope f cdv A outer s H E) [] (start N vs) H s1 := inv_start S hr.hd e0 hl r x
  refine wpAny_mono (ht [] s1 (start N vs) H _ I hq) (fun fl s' hs => ?_) fun e s' hs => hs
  have fin : ∀ {σ' : St} {H' : Hp} {v : V} {u : Value}, Inv (cxOf CX P w K mg base N qual scope f cdv A outer s H E) [] σ' H' s' → RelV v u → Q v H' → CE outer P w H s Q u s' :=
    fun {σ' H' v u} J rv q => ⟨v, H', J.os, J.bare, J.base, J.hok, rv, q⟩
  cases fl with
  | ret u =>
    obtain ⟨v, σ', H', J, rv, q⟩ := hs
    exact fin J rv q
  | next =>
    obtain ⟨σ', H', J, q⟩ := hs
    exact fin (v := V.non) (u := Value.none) J rfl q
  | brk =>
    obtain ⟨_, _, _, q⟩ := hs
    exact False.elim q
  | cont =>
    obtain ⟨_, _, _, q⟩ := hs
    exact False.elim q
end L2

namespace L2
open PySem PySem.Spec PyProof.Rows
section
variable {X : Cx} {x : Str} {p pos : Pos} {e : Expr} {es : List Expr} {t : TA} {id T : String} {r : List V → Hp → VK → Prop}

def tCB (r : List V → Hp → VK → Prop) (t : TA) : TE := fun σ H Q => t σ H fun vs H1 => r vs H1 Q
/-- f(e, ..), f a built-in function -/
theorem pe_callB (hc : CallR X (.builtin id) r) (hg : Gl X x) (hm : X.mg x = none) (hv : bootBuiltins x = some (.builtin id)) (ha : PA X (e :: es) t) (hn : x ≠ "__name__" := by decide) (hdb : (x == ("__debug__" : Str)) = false := by decide)
    (he : starEach (e :: es) X.env = (false, eval e X.env) :: starEach es X.env := by rfl) (hpl : (backTo pos (starEach es X.env)).any (·.1) = false := by rfl) : PE X (.Call (.Name x p) (e :: es) [] pos) (tCB r t) := by
  intro pins s σ H Q I h
  refine wpAny_Call_Name_kw (ld_blt I hg hm hv ?_ hn hdb)
  exact PyProof.Rows.callWith_builtin1 (thn (ha pos pins s σ H _ I h) fun us s1 ⟨vs, H1, I1, r1, q1⟩ => hc pins s1 σ H1 vs us Q I1 r1 q1) he hpl
/-- T(e, ..), T a built-in type -/
theorem pe_callTy (hc : CallR X (.type T) r) (hg : Gl X x) (hm : X.mg x = none) (hv : bootBuiltins x = some (.type T)) (ha : PA X (e :: es) t) (hn : x ≠ "__name__" := by decide) (hdb : (x == ("__debug__" : Str)) = false := by decide)
    (he : starEach (e :: es) X.env = (false, eval e X.env) :: starEach es X.env := by rfl) (hpl : (backTo pos (starEach es X.env)).any (·.1) = false := by rfl) : PE X (.Call (.Name x p) (e :: es) [] pos) (tCB r t) := by
  intro pins s σ H Q I h
  refine wpAny_Call_Name_kw (ld_blt I hg hm hv ?_ hn hdb)
  exact PyProof.Rows.callWith_type1 (thn (ha pos pins s σ H _ I h) fun us s1 ⟨vs, H1, I1, r1, q1⟩ => hc pins s1 σ H1 vs us Q I1 r1 q1) he hpl
end
end L2

namespace HT
open PySem PyProof.Rows

section
open PySem.SeqAt
open PySem.AutoSeq1 (wpAny_loadPart')
open PySem.MeetsSeq PySem.MeetsSeq2 PySem.MeetsSeq3

end

section
variable {prog : Program} {w : World} {A : Around} {E : Value → Shared → Prop} {s : Shared}

/-! ### t[a:b], not the whole -/
/-- a slice's bound as a place among n (d where it is left out) -/
def sIx (n d : Nat) : Option Int → Nat
  | none => d
  | some v => if v < 0 then (v + (n : Int)).toNat else min v.toNat n
theorem sIx_nat (n d k : Nat) : sIx n d (some (k : Int)) = min k n := by
  show (if (k : Int) < 0 then ((k : Int) + (n : Int)).toNat else min (k : Int).toNat n) = min k n
  rw [if_neg (by omega), Int.toNat_natCast]
end
end HT

namespace L2
open PySem PySem.Spec PyProof.Rows

/-! ### the parts of a slice -/
abbrev TO := St → Hp → (Option Int → Hp → Prop) → Prop
/-- a slice's part (left out, or an int) -/
def PO (X : Cx) (e : Option Expr) (t : TO) : Prop :=
  ∀ (pins : List (Addr × Obj)) (s : Shared) (σ : St) (H : Hp) (Q : Option Int → Hp → Prop), Inv X pins σ H s → t σ H Q →
    wpAny (model X.prog X.w) X.A (evalPart e X.env) (fun u s' => ∃ o H', Inv X pins σ H' s' ∧ IsPart u o ∧ Q o H') X.xe s
def tNoPart : TO := fun _ H Q => Q none H
def tPart (t : TE) : TO := fun σ H Q => t σ H fun x H1 => ∃ i, x = .int i ∧ Q (some i) H1

section
variable {X : Cx} {e : Expr} {te : TE} {lo hi : Option Expr} {tl th : TO} {pos p2 : Pos}

theorem po_none : PO X none tNoPart := by
  intro pins s σ H Q I h
  rw [evalPart_none]
  exact wpAny_pure ⟨none, H, I, .none, h⟩
theorem po_some (h : PE X e te) : PO X (some e) (tPart te) := by
  intro pins s σ H Q I hw
  rw [evalPart_some]
  refine thn (h pins s σ H _ I hw) fun u s1 ⟨x, H1, I1, r1, q1⟩ => ?_
  obtain ⟨i, rfl, q⟩ := q1
  obtain ⟨t, rfl⟩ := r1
  exact ⟨some i, H1, I1, .int i t, q⟩

/-- what a slice of a value is, by values: the slice object stands at sl -/
def SlR (X : Cx) (r : V → Option Int → Option Int → Hp → VK → Prop) : Prop :=
  ∀ (pins : List (Addr × Obj)) (s : Shared) (σ : St) (H : Hp) (x : V) (v vl vu : Value) (lo hi : Option Int) (sl : Addr) (Q : VK), Inv X pins σ H s → RelV x v → s.heap.IsSliceOf sl vl vu .none → IsPart vl lo → IsPart vu hi → r x lo hi H Q →
    ∃ T id, typeLookup (.type T) "__getitem__" = pure (some (.builtin id)) ∧ s.TypeIs v T ∧ wpAny (model X.prog X.w) X.A (getItem v (.ref sl)) (EP X pins σ Q) X.xe s
theorem SlR.or {r r' : V → Option Int → Option Int → Hp → VK → Prop} (h : SlR X r) (h' : SlR X r') : SlR X (fun x lo hi H Q => r x lo hi H Q ∨ r' x lo hi H Q) := by
  intro pins s σ H x v vl vu lo hi sl Q I rx hs pl pu q
  rcases q with q | q
  · exact h pins s σ H x v vl vu lo hi sl Q I rx hs pl pu q
  · exact h' pins s σ H x v vl vu lo hi sl Q I rx hs pl pu q
def tSl (r : V → Option Int → Option Int → Hp → VK → Prop) (te : TE) (tl th : TO) : TE := fun σ H Q => te σ H fun x H1 => tl σ H1 fun l H2 => th σ H2 fun u H3 => r x l u H3 Q
/-- a[lo:hi], any a -/
theorem pe_slice {r : V → Option Int → Option Int → Hp → VK → Prop} (hr : SlR X r) (he : PE X e te) (hl : PO X lo tl) (hu : PO X hi th) : PE X (.Subscript e (.Slice lo hi none p2) pos) (tSl r te tl th) := by
  intro pins s σ H Q I h
  refine Subscript_ (thn (he pins s σ H _ I h) fun v s1 ⟨x, H1, I1, r1, q1⟩ => ?_)
  refine wpAny_Slice (thn (hl pins s1 σ H1 _ I1 q1) fun vl s2 ⟨l, H2, I2, pl, q2⟩ => thn (hu pins s2 σ H2 _ I2 q2) fun vu s3 ⟨u, H3, I3, pu, q3⟩ => ?_)
  rw [evalPart_none]
  refine wpAny_pure ?_
  have I4 : Inv X pins σ H3 { s3 with heap := s3.heap.push { cls := .type "slice", data := .fields #[vl, vu, .none] } } := I3.kept (t' := s3.toks) fun b ob q => Heap.get?_push_of_some _ q
  obtain ⟨T, id, hT, ht, hg⟩ := hr pins { s3 with heap := s3.heap.push { cls := .type "slice", data := .fields #[vl, vu, .none] } } σ H3 x v vl vu l u s3.heap.objs.size Q I4 r1 (Heap.IsSliceOf.new ..) pl pu q3
  show wpAny (model X.prog X.w) X.A (subscriptTail e (.Slice lo hi none p2) v (.ref s3.heap.objs.size)) (EP X pins σ Q) X.xe { s3 with heap := s3.heap.push { cls := .type "slice", data := .fields #[vl, vu, .none] } }
  exact tail_any (ops := [.ref s3.heap.objs.size, v]) ht hT hg (by with_unfolding_all rfl)

/-- the items of xs[lo:hi] -/
def cutV (xs : List V) (lo hi : Option Int) : List V := (xs.drop (HT.sIx xs.length 0 lo)).take (HT.sIx xs.length xs.length hi - HT.sIx xs.length 0 lo)
theorem cutV_length (xs : List V) (lo hi : Option Int) : (cutV xs lo hi).length ≤ xs.length := by
  unfold cutV
  rw [List.length_take, List.length_drop]
  omega
/-! ### t < u, t + u -/
end
end L2

namespace L2
open PySem PySem.Spec PyProof.Rows

/-! ### places -/
/-- the place that an index of any sign means -/
def ixN (n : Nat) (i : Int) : Option Nat := if 0 ≤ i then (if i < n then some i.toNat else none) else if -(n : Int) ≤ i then some (i + n).toNat else none
def atI {α : Type} (xs : List α) (i : Int) : Option α := (ixN xs.length i).bind fun j => xs[j]?
theorem ixN_seq {n : Nat} {i : Int} {j : Nat} (h : ixN n i = some j) : seqIndex? i n = some j ∧ j < n ∧ -(n : Int) ≤ i ∧ i < n := by
  unfold ixN at h
  by_cases h0 : 0 ≤ i
  · rw [if_pos h0] at h
    by_cases h1 : i < n
    · rw [if_pos h1] at h
      have e : i.toNat = j := Option.some.inj h
      exact ⟨by rw [seqIndex_of h0 h1, e], by omega, by omega, h1⟩
    · rw [if_neg h1] at h; cases h
  · rw [if_neg h0] at h
    by_cases h1 : -(n : Int) ≤ i
    · rw [if_pos h1] at h
      have e : (i + n).toNat = j := Option.some.inj h
      exact ⟨by rw [seqIndex_neg (by omega) h1, e], by omega, h1, by omega⟩
    · rw [if_neg h1] at h; cases h
theorem atI_get {α : Type} {xs : List α} {i : Int} {v : α} (h : atI xs i = some v) : ∃ j, seqIndex? i xs.length = some j ∧ xs[j]? = some v ∧ j < xs.length ∧ -(xs.length : Int) ≤ i ∧ i < xs.length := by
  unfold atI at h
  cases e : ixN xs.length i with
  | none => rw [e] at h; cases h
  | some j =>
    rw [e] at h
    obtain ⟨h1, h2, h3, h4⟩ := ixN_seq e
    exact ⟨j, h1, h, h2, h3, h4⟩
theorem atI_nat {α : Type} {xs : List α} {j : Nat} {v : α} (h : xs[j]? = some v) : atI xs (j : Int) = some v := by
  have hj : j < xs.length := (List.getElem?_eq_some_iff.mp h).1
  have e : ixN xs.length (j : Int) = some j := by
    unfold ixN
    rw [if_pos (by omega), if_pos (by omega)]; simp
  unfold atI; rw [e]; exact h
/-! ### what may be subscripted -/
/-- what stands as an index of a plain subscript -/
def PlainIx (b : Expr) : Prop := ∀ o i, subscripted b false o i = operate [o, i] (getItem o i)
/-- a subscript by values -/
def IxR (X : Cx) (r : R2) : Prop :=
  ∀ (value slice : Expr) (pins : List (Addr × Obj)) (s : Shared) (σ : St) (H : Hp) (x y : V) (v u : Value) (Q : VK), Inv X pins σ H s → RelV x v → RelV y u → r x y H Q →
    subscripted slice false v u = operate [v, u] (getItem v u) → wpAny (model X.prog X.w) X.A (subscriptTail value slice v u) (EP X pins σ Q) X.xe s
/-- a call of a builtin's method by values: the receiver, the arguments -/
def MtR (X : Cx) (id : String) (r : V → List V → Hp → VK → Prop) : Prop :=
  ∀ (pins : List (Addr × Obj)) (s : Shared) (σ : St) (H : Hp) (x : V) (xs : List V) (v : Value) (us : List Value) (Q : VK), Inv X pins σ H s → RelV x v → Vals xs us → r x xs H Q →
    wpAny (model X.prog X.w) X.A (call (.builtin id) (v :: us)) (EP X pins σ Q) X.xe s
section
variable {X : Cx} {a b : Expr} {ta tb : TE} {pos : Pos}
theorem IxR.or {r r' : R2} (h : IxR X r) (h' : IxR X r') : IxR X (fun x y H Q => r x y H Q ∨ r' x y H Q) := by
  intro value slice pins s σ H x y v u Q I rx ry q hs
  rcases q with q | q
  · exact h value slice pins s σ H x y v u Q I rx ry q hs
  · exact h' value slice pins s σ H x y v u Q I rx ry q hs
theorem MtR.or {id : String} {r r' : V → List V → Hp → VK → Prop} (h : MtR X id r) (h' : MtR X id r') : MtR X id (fun x xs H Q => r x xs H Q ∨ r' x xs H Q) := by
  intro pins s σ H x xs v us Q I rx rs q
  rcases q with q | q
  · exact h pins s σ H x xs v us Q I rx rs q
  · exact h' pins s σ H x xs v us Q I rx rs q
/-- a[b] -/
theorem pe_ix {r : R2} (hr : IxR X r) (ha : PE X a ta) (hb : PE X b tb) (hs : PlainIx b) : PE X (.Subscript a b pos) (tOp r ta tb) := by
  intro pins s σ H Q I h
  exact Subscript_ (binT ha hb I h fun v u s2 x y H2 I2 rx ry q => hr a b pins s2 σ H2 x y v u Q I2 rx ry q (hs _ _))

def rIxL (K : PySem.W.Frag) : R2 := fun x y H Q => ∃ p xs i v, x = .ref p ∧ y = .int i ∧ SqL K H p xs ∧ atI xs i = some v ∧ Q v H
def rIxT (K : PySem.W.Frag) : R2 := fun x y H Q => ∃ p xs i v, x = .ref p ∧ y = .int i ∧ SqT K H p xs ∧ atI xs i = some v ∧ Q v H
def rIxS : R2 := fun x y H Q => ∃ z i c, x = .str z ∧ y = .int i ∧ z.length ≤ sizeLine ∧ atI z.cps.toList i = some c ∧ Q (.str ⟨#[c]⟩) H
theorem ix_list : IxR X (rIxL X.K) := by
  intro value slice pins s σ H x y v u Q I rx ry h hs
  obtain ⟨p, xs, i, z, rfl, rfl, hq, he, q⟩ := h
  cases rx
  obtain ⟨t, rfl⟩ := ry
  obtain ⟨its, r, pl, hz⟩ := I.list hq
  obtain ⟨j, h1, h2, h3, h4, h5⟩ := atI_get he
  obtain ⟨w, ew, rw'⟩ := r.get h2
  have hl := r.length
  have hn := line63
  have fin : EP X pins σ Q w s := ⟨z, H, I, rw', q⟩
  by_cases h0 : 0 ≤ i
  · have hj : i.toNat = j := by
      rw [seqIndex_of h0 h5] at h1
      exact Option.some.inj h1
    exact item_listR pl.isList h0 (by omega) (by rw [hj]; simpa using ew) fin hs
  · have hj : (i + (its.toArray.size : Int)).toNat = j := by
      rw [seqIndex_neg (by omega) h4] at h1
      rw [List.size_toArray, ← hl]
      exact Option.some.inj h1
    exact subscriptTail_builtinR (x := w) pl.isList.typeIs slot_list_getitem.lookup
      (wpAny_getItem_list_neg (Q := fun r s' => r = w ∧ EP X pins σ Q r s') pl.isList (by omega) (by rw [List.size_toArray] <;> omega) (by omega) (by rw [hj]; simpa using ew) ⟨rfl, fin⟩) hs
theorem ix_tup : IxR X (rIxT X.K) := by
  intro value slice pins s σ H x y v u Q I rx ry h hs
  obtain ⟨p, xs, i, z, rfl, rfl, hq, he, q⟩ := h
  cases rx
  obtain ⟨t, rfl⟩ := ry
  obtain ⟨its, r, pl, hz⟩ := I.tuple hq
  obtain ⟨j, h1, h2, h3, h4, h5⟩ := atI_get he
  obtain ⟨w, ew, rw'⟩ := r.get h2
  have hl := r.length
  have hn := line63
  have fin : EP X pins σ Q w s := ⟨z, H, I, rw', q⟩
  exact subscriptTail_builtinR (x := w) pl.typeIs slot_tuple_getitem.lookup
    (getItem_tuple (j := j) (Q := fun r s' => r = w ∧ EP X pins σ Q r s') pl (by omega) (by omega) (by rw [List.size_toArray, ← hl]; exact h1) (by simpa using ew) ⟨rfl, fin⟩) hs
theorem ix_str : IxR X rIxS := by
  intro value slice pins s σ H x y v u Q I rx ry h hs
  obtain ⟨z, i, c, rfl, rfl, hz, he, q⟩ := h
  obtain ⟨t, rfl⟩ := rx
  obtain ⟨t', rfl⟩ := ry
  obtain ⟨j, h1, h2, h3, h4, h5⟩ := atI_get he
  have hl : z.cps.toList.length = z.length := by simp [Str.length]
  rw [hl] at h1 h4 h5
  have hn := line63
  exact tail_any (typeIs_str s z t) slot_str_getitem.lookup (getItem_str (c := c) (by
    have e1 : decide (i < -(2 ^ 63 : Int)) = false := decide_eq_false (by omega)
    have e2 : decide (i ≥ 2 ^ 63) = false := decide_eq_false (by omega)
    rw [e1, e2, Bool.or_false]) (by rw [h1]; simpa using h2) ⟨.str ⟨#[c]⟩, H, I.tok _, ⟨_, rfl⟩, q⟩) hs
/-- list, tuple or str -/
def rIx (K : PySem.W.Frag) : R2 := fun x y H Q => rIxL K x y H Q ∨ rIxT K x y H Q ∨ rIxS x y H Q
theorem ix_seq : IxR X (rIx X.K) := ix_list.or (ix_tup.or ix_str)

/-! ### xs[i] = v, any sign -/
theorem Inv.lst {pins : List (Addr × Obj)} {σ : St} {H : Hp} {s : Shared} {p : Addr} {xs : List V} (I : Inv X pins σ H s) (h : H p = some (.lst xs)) :
    ∃ (its : List Value) (n : Nat), Vals xs its ∧ s.heap.get? p = some { cls := .type "list", data := .seq its.toArray n } ∧ xs.length ≤ sizeLine := by
  obtain ⟨z, its, n, r, e⟩ := I.hok p _ h
  exact ⟨its, n, r, e, z⟩
/-! ### slices -/
theorem slice_bounds (lo hi : Option Int) (n : Nat) : (sliceBounds lo hi none n).1 = ((HT.sIx n 0 lo : Nat) : Int) ∧ (sliceBounds lo hi none n).2.1 = ((HT.sIx n n hi : Nat) : Int) ∧ (sliceBounds lo hi none n).2.2 = 1 := by
  refine ⟨?_, ?_, rfl⟩
  · cases lo with
    | none => simp [sliceBounds, HT.sIx]
    | some i =>
      simp only [sliceBounds, HT.sIx, Option.getD_none, show (1 : Int) > 0 by decide, if_true]
      by_cases h : i < 0
      · simp only [h, if_true] <;> omega
      · simp only [h, if_false] <;> omega
  · cases hi with
    | none => simp [sliceBounds, HT.sIx]
    | some i =>
      simp only [sliceBounds, HT.sIx, Option.getD_none, show (1 : Int) > 0 by decide, if_true]
      by_cases h : i < 0
      · simp only [h, if_true] <;> omega
      · simp only [h, if_false] <;> omega
theorem slicePick_cut (its : List Value) (lo hi : Option Int) : slicePick its.toArray lo hi none = ((its.drop (HT.sIx its.length 0 lo)).take (HT.sIx its.length its.length hi - HT.sIx its.length 0 lo)).toArray := by
  obtain ⟨h1, h2, h3⟩ := slice_bounds lo hi its.toArray.size
  unfold slicePick
  rw [h1, h2, h3]
  simp only [sliceRange_one, pick_run, List.size_toArray] <;> rfl
/-- xs[lo:hi] of a list: a new list -/
def rSlL (K : PySem.W.Frag) : V → Option Int → Option Int → Hp → VK → Prop := fun x lo hi H Q => ∃ a xs, x = .ref a ∧ SqL K H a xs ∧ ∀ p, H p = none → Q (.ref p) (upd H p (.lst (cutV xs lo hi)))
theorem sl_list : SlR X (rSlL X.K) := by
  intro pins s σ H x v vl vu lo hi sl Q I rx hs pl pu h
  obtain ⟨a, xs, rfl, hx, q⟩ := h
  cases rx
  obtain ⟨its, r, ht, hz⟩ := I.list hx
  have hlen := r.length
  refine ⟨"list", _, slot_list_getitem.lookup, ht.isList.typeIs, ?_⟩
  refine wpAny_getItem_list_slice ht.isList hs pl pu .none (by simp) ?_ (by rw [List.size_toArray] <;> omega)
  rw [slicePick_cut, ← hlen]
  refine ⟨.ref s.heap.objs.size, _, I.laid (t' := s.toks) (o := .lst (cutV xs lo hi)) (fun b ob q => Heap.get?_push_of_some _ q) (Nat.le_refl _) ?_, rfl, q _ (I.hok.fresh (Nat.le_refl _))⟩
  exact ⟨Nat.le_trans (cutV_length xs lo hi) hz, _, 0, (r.drop (HT.sIx xs.length 0 lo)).take (HT.sIx xs.length xs.length hi - HT.sIx xs.length 0 lo), Heap.get?_push_size _ rfl⟩

/-! ### in, not in: flat items -/
def flatV : V → Bool
  | .non => true
  | .bl _ => true
  | .int _ => true
  | .str _ => true
  | _ => false
/-- == of flat values -/
def eqV : V → V → Bool
  | .non, .non => true
  | .bl a, .bl b => a == b
  | .bl a, .int b => (if a then 1 else 0) == b
  | .int a, .bl b => a == (if b then 1 else 0)
  | .int a, .int b => a == b
  | .str a, .str b => a == b
  | _, _ => false
theorem eqAt_V {A : Around} {s : Shared} {y x : V} {u v : Value} (ry : RelV y u) (rx : RelV x v) (fy : flatV y = true) (fx : flatV x = true) : SeqAt.EqAt A s u v (eqV y x) := by
  cases y with
  | non =>
    cases ry
    cases x with
    | non => cases rx; exact SeqAt.EqAt.same _
    | bl b => cases rx; exact SeqAt.EqAt.none_bool b
    | int b => obtain ⟨t, rfl⟩ := rx; exact SeqAt.EqAt.none_int b t
    | str b => obtain ⟨t, rfl⟩ := rx; exact SeqAt.EqAt.none_str b t
    | _ => exact absurd (show false = true from fx) Bool.false_ne_true
  | bl a =>
    cases ry
    cases x with
    | non => cases rx; exact SeqAt.EqAt.bool_none a
    | bl b => cases rx; exact SeqAt.EqAt.bool_bool a b
    | int b => obtain ⟨t, rfl⟩ := rx; exact SeqAt.EqAt.bool_int a b t
    | str b => obtain ⟨t, rfl⟩ := rx; exact SeqAt.EqAt.bool_str a b t
    | _ => exact absurd (show false = true from fx) Bool.false_ne_true
  | int a =>
    obtain ⟨t', rfl⟩ := ry
    cases x with
    | non => cases rx; exact SeqAt.EqAt.int_none a t'
    | bl b => cases rx; exact SeqAt.EqAt.int_bool a t' b
    | int b => obtain ⟨t, rfl⟩ := rx; exact SeqAt.EqAt.int_int a t' b t
    | str b => obtain ⟨t, rfl⟩ := rx; exact SeqAt.EqAt.int_str a t' b t
    | _ => exact absurd (show false = true from fx) Bool.false_ne_true
  | str a =>
    obtain ⟨t', rfl⟩ := ry
    cases x with
    | non => cases rx; exact SeqAt.EqAt.str_none a t'
    | bl b => cases rx; exact SeqAt.EqAt.str_bool a t' b
    | int b => obtain ⟨t, rfl⟩ := rx; exact SeqAt.EqAt.str_int a t' b t
    | str b => obtain ⟨t, rfl⟩ := rx; exact SeqAt.EqAt.str_str a t' b t
    | _ => exact absurd (show false = true from fx) Bool.false_ne_true
  | _ => exact absurd (show false = true from fy) Bool.false_ne_true
/-! ### len, list(x), tuple(x) of any list or tuple that is read -/
theorem call_len_seq : CallR X (.builtin "len") (fun xs H Q => ∃ p ys, xs = [.ref p] ∧ (SqL X.K H p ys ∨ SqT X.K H p ys) ∧ Q (.int ys.length) H) := by
  intro pins s σ H xs us Q I r h
  obtain ⟨p, ys, rfl, hq, q⟩ := h
  obtain ⟨u, rfl, rx⟩ := vals1 r
  cases rx
  have hn := line63
  rcases hq with hq | hq
  · obtain ⟨its, r', pl, hz⟩ := I.list hq
    have hlen := r'.length
    exact Calls.call_len_list pl.isList (by simp only [List.size_toArray] <;> omega) ⟨.int ys.length, H, I.tok _, ⟨s.toks + 1, by rw [List.size_toArray, hlen]⟩, q⟩
  · obtain ⟨its, r', pl, hz⟩ := I.tuple hq
    have hlen := r'.length
    exact len_tuple pl (by simp only [List.size_toArray] <;> omega) ⟨.int ys.length, H, I.tok _, ⟨s.toks + 1, by rw [List.size_toArray, hlen]⟩, q⟩
theorem call_len_str : CallR X (.builtin "len") (fun xs H Q => ∃ z, xs = [.str z] ∧ z.length ≤ sizeLine ∧ Q (.int z.length) H) := by
  intro pins s σ H xs us Q I r h
  obtain ⟨z, rfl, hz, q⟩ := h
  obtain ⟨u, rfl, t, rfl⟩ := vals1 r
  have hn := line63
  exact len_str (by omega) ⟨.int z.length, H, I.tok _, ⟨_, rfl⟩, q⟩
theorem CallR.or {f : Value} {r r' : List V → Hp → VK → Prop} (h : CallR X f r) (h' : CallR X f r') : CallR X f (fun xs H Q => r xs H Q ∨ r' xs H Q) := by
  intro pins s σ H xs us Q I rs q
  rcases q with q | q
  · exact h pins s σ H xs us Q I rs q
  · exact h' pins s σ H xs us Q I rs q
theorem call_list_of : CallR X (.type "list") (fun xs H Q => ∃ p ys, xs = [.ref p] ∧ (SqL X.K H p ys ∨ SqT X.K H p ys) ∧ ∀ l, H l = none → Q (.ref l) (upd H l (.lst ys))) := by
  intro pins s σ H xs us Q I r h
  obtain ⟨p, ys, rfl, hq, q⟩ := h
  obtain ⟨u, rfl, rx⟩ := vals1 r
  cases rx
  have fin : ∀ (its : List Value), Vals ys its → ys.length ≤ sizeLine → ∀ (h' : Heap) (c' : Nat), (∀ b o', s.heap.get? b = some o' → h'.get? b = some o') →
      h'.get? s.heap.objs.size = some { cls := .type "list", dict := none, data := .seq its.toArray c', slots := #[] } → EP X pins σ Q (.ref s.heap.objs.size) { s with heap := h' } := fun its r' hz h' c' kp e =>
    ⟨.ref s.heap.objs.size, _, I.laid (t' := s.toks) kp (Nat.le_refl _) (show ObjOk X.prog X.w _ h' _ (.lst ys) from ⟨hz, its, c', r', e⟩), rfl, q _ (I.hok.fresh (Nat.le_refl _))⟩
  rcases hq with hq | hq
  · obtain ⟨its, r', pl, hz⟩ := I.list hq
    have hlen := r'.length
    obtain ⟨o, ho, hc, n, hd⟩ := pl.isList
    exact call_list_seq p (.inl rfl) ho hc hd (fun h' c' kp e => fin its r' hz h' c' kp e) (by simp only [List.size_toArray] <;> omega)
  · obtain ⟨its, r', pl, hz⟩ := I.tuple hq
    have hlen := r'.length
    obtain ⟨o, ho, hc, n, hd⟩ := pl
    exact call_list_seq p (.inr rfl) ho hc hd (fun h' c' kp e => fin its r' hz h' c' kp e) (by simp only [List.size_toArray] <;> omega)
/-! ### the call of a builtin's method: o.m(..) -/
/-- the value is of that builtin type -/
def tyV (K : PySem.W.Frag) (T : String) (x : V) (H : Hp) : Prop := match x with
  | .str _ => T = "str"
  | .int _ => T = "int"
  | .ref p => (T = "list" ∧ ∃ xs, SqL K H p xs) ∨ (T = "tuple" ∧ ∃ o, K.lookup p = some o ∧ o.cls = .type "tuple" ∧ o.dict = none) ∨
      (T = "dict" ∧ ((∃ kvs, H p = some (.dK kvs)) ∨ ∃ kvs, H p = some (.dT kvs))) ∨ (T = "set" ∧ ∃ S n, H p = some (.set S n))
  | _ => False
theorem tyV_is {pins : List (Addr × Obj)} {σ : St} {H : Hp} {s : Shared} {T : String} {x : V} {v : Value} (I : Inv X pins σ H s) (r : RelV x v) (ty : tyV X.K T x H) :
    s.TypeIs v T ∧ ∀ a, v = .ref a → ∃ ob, s.heap.get? a = some ob ∧ ob.dict = none := by
  cases x with
  | str z =>
    obtain ⟨t, rfl⟩ := r
    cases (show T = "str" from ty)
    exact ⟨typeIs_str s z t, fun _ e => nomatch e⟩
  | int i =>
    obtain ⟨t, rfl⟩ := r
    cases (show T = "int" from ty)
    exact ⟨typeIs_int s i t, fun _ e => nomatch e⟩
  | ref p =>
    cases r
    rcases ty with ⟨rfl, xs, hq⟩ | ⟨rfl, o, hk, hc, hd⟩ | ⟨rfl, hk⟩ | ⟨rfl, S, n, hk⟩
    · obtain ⟨its, _, pl, _⟩ := I.list hq
      refine ⟨pl.isList.typeIs, fun a e => ?_⟩
      cases e
      obtain ⟨o, n, e, c, hd, _⟩ := pl
      exact ⟨o, e, hd⟩
    · refine ⟨⟨o, I.kIn p o hk, hc⟩, fun a e => ?_⟩
      cases e
      exact ⟨o, I.kIn _ o hk, hd⟩
    · have z : ∃ o, s.heap.get? p = some o ∧ o.ExactDict := by
        rcases hk with ⟨kvs, hk⟩ | ⟨kvs, hk⟩
        · obtain ⟨_, _, _, _, o, _, _, e, ex, _⟩ := I.hok p _ hk
          exact ⟨o, e, ex⟩
        · obtain ⟨_, _, _, _, o, _, _, e, ex, _⟩ := I.hok p _ hk
          exact ⟨o, e, ex⟩
      obtain ⟨o, e, ex⟩ := z
      refine ⟨⟨o, e, ex.1⟩, fun a e2 => ?_⟩
      cases e2
      exact ⟨o, e, ex.2.1⟩
    · obtain ⟨o, _, _, _, e, ex, _⟩ := I.hok p _ hk
      refine ⟨⟨o, e, ex.1⟩, fun a e2 => ?_⟩
      cases e2
      exact ⟨o, e, ex.2.1⟩
  | _ => exact False.elim ty
def tBM0 (K : PySem.W.Frag) (T : String) (r : V → List V → Hp → VK → Prop) (to : TE) : TE := fun σ H Q => to σ H fun x H1 => tyV K T x H1 ∧ r x [] H1 Q
def tBM (K : PySem.W.Frag) (T : String) (r : V → List V → Hp → VK → Prop) (to : TE) (t : TA) : TE := fun σ H Q => to σ H fun x H1 => tyV K T x H1 ∧ t σ H1 fun xs H2 => r x xs H2 Q
variable {o e : Expr} {es : List Expr} {to : TE} {t : TA} {name : Str} {apos cpos : Pos} {T id : String} {r : V → List V → Hp → VK → Prop}
theorem pe_bm0 (pa : PlainAttrs T) (slot : Slot T name id) (hty : typeOf (.builtin id) = pure (.type "method_descriptor")) (hm : MtR X id r) (ho : PE X o to)
    (hbase : attributeBase o name X.env (eval o X.env) = eval o X.env := by rfl) (hline : (apos.endLine == cpos.line) = true := by rfl) : PE X (.Call (.Attribute o name apos) [] [] cpos) (tBM0 X.K T r to) := by
  intro pins s σ H Q I h
  refine wpAny_Call_method0_late hbase hline (thn (ho pins s σ H _ I h) fun v s1 ⟨x, H1, I1, r1, ty, q1⟩ => ?_)
  obtain ⟨h1, h2⟩ := tyV_is I1 r1 ty
  exact ⟨T, id, pa, slot, hty, h1, h2, Calls.callWith_builtin rfl (PySem.evalArgs_none (hm pins s1 σ H1 x [] v [] Q I1 r1 .nil q1))⟩
theorem pe_bm (pa : PlainAttrs T) (slot : Slot T name id) (hty : typeOf (.builtin id) = pure (.type "method_descriptor")) (hm : MtR X id r) (ho : PE X o to) (ha : PA X (e :: es) t)
    (hbase : attributeBase o name X.env (eval o X.env) = eval o X.env := by rfl)
    (hfew : ((backTo cpos (starEach (e :: es) X.env)).all (fun x => !x.1) && (backToKw cpos (keywordEach [] X.env)).all (fun x => x.1.isSome)
      && decide ((e :: es).length + ([] : List Keyword).length + (if ([] : List Keyword).isEmpty then 0 else 1) < 30)) = true := by rfl)
    (hline : (apos.endLine == cpos.line) = true := by rfl) (hs : starEach (e :: es) X.env = (false, eval e X.env) :: starEach es X.env := by rfl) (hplain : (backTo cpos (starEach es X.env)).any (·.1) = false := by rfl) :
    PE X (.Call (.Attribute o name apos) (e :: es) [] cpos) (tBM X.K T r to t) := by
  intro pins s σ H Q I h
  refine wpAny_Call_method_late hbase hfew hline rfl (thn (ho pins s σ H _ I h) fun v s1 ⟨x, H1, I1, r1, ty, q1⟩ => ?_)
  obtain ⟨h1, h2⟩ := tyV_is I1 r1 ty
  refine ⟨T, id, pa, slot, hty, h1, h2, ?_⟩
  have hA := ha cpos pins s1 σ H1 _ I1 q1
  rw [hs] at hA ⊢
  refine Calls.callWith_builtin (by show (false || (backTo cpos (starEach es X.env)).any (·.1)) = false; rw [hplain] <;> rfl) (Calls.evalArgs_plain ?_)
  exact thn hA fun us s2 ⟨vs, H2, I2, r2, q2⟩ => hm pins s2 σ H2 x vs v us Q I2 r1 r2 q2
/- xs.append(e), list.index on a module's tuple .. are MtR facts of 06m -/
end
end L2

namespace L2
open PySem PySem.Spec PyProof.Rows

def MtM (X : Cx) (id : String) (r : V → List V → Hp → VK → Prop) : Prop :=
  ∀ (pins : List (Addr × Obj)) (s : Shared) (σ : St) (H : Hp) (x : V) (xs : List V) (v : Value) (us : List Value) (Q : VK), Inv X pins σ H s → RelV x v → Vals xs us → r x xs H Q →
    wpAny (model X.prog X.w) X.A (call (.builtin id) (v :: us)) (EP X pins σ Q) X.xe s

/-! ### lists of values -/
theorem Vals.one : ∀ {x : V} {us : List Value}, Vals [x] us → ∃ u, us = [u] ∧ RelV x u
  | _, _, .cons r .nil => ⟨_, rfl, r⟩
theorem Vals.two : ∀ {x y : V} {us : List Value}, Vals [x, y] us → ∃ u v, us = [u, v] ∧ RelV x u ∧ RelV y v
  | _, _, _, .cons r (.cons q .nil) => ⟨_, _, rfl, r, q⟩
theorem Vals.zero : ∀ {us : List Value}, Vals [] us → us = []
  | _, .nil => rfl
section
variable {X : Cx} {pins : List (Addr × Obj)} {σ : St} {H : Hp} {s : Shared} {l b : Addr} {xs ys zs : List V}

/-! ### the two steps: a tracked list is rewritten, a new list is laid -/
theorem Inv.lset {its its' : List Value} {n : Nat} {f : Array Value → Array Value} {t' : Nat} (I : Inv X pins σ H s) (hH : H l = some (.lst xs))
    (e : s.heap.get? l = some { cls := .type "list", data := .seq its.toArray n }) (hf : f its.toArray = its'.toArray) (hv : Vals ys its') (hz : ys.length ≤ sizeLine) :
    Inv X pins σ (upd H l (.lst ys)) { s with heap := s.heap.update l (Obj.mapSeq f), toks := t' } := by
  have q := PySem.IsL.update e f
  rw [hf] at q
  refine I.write (x := l) (e := l) (by rw [hH]; exact trivial) (.inl rfl) (fun b' u hb hu => (Heap.get?_update_other s.heap (Obj.mapSeq f) (Ne.symm hb)).trans hu) ⟨_, q⟩ ?_
  exact ⟨hz, its', _, hv, q⟩
theorem Inv.lnew {its : List Value} {t' : Nat} (I : Inv X pins σ H s) (hv : Vals ys its) (hz : ys.length ≤ sizeLine) :
    Inv X pins σ (upd H s.heap.objs.size (.lst ys)) { s with heap := s.heap.push { cls := .type "list", data := .seq its.toArray }, toks := t' } :=
  I.laid (fun _ _ q => Heap.get?_push_of_some _ q) (Nat.le_refl _) ⟨hz, its, 0, hv, Heap.get?_push_size _ rfl⟩
theorem Inv.fresh (I : Inv X pins σ H s) : H s.heap.objs.size = none := I.hok.fresh (Nat.le_refl _)
theorem Inv.lstM (I : Inv X pins σ H s) (hH : H l = some (.lst xs)) : xs.length ≤ sizeLine ∧ ∃ (its : List Value) (n : Nat), Vals xs its ∧ xs.length = its.length ∧ s.heap.get? l = some { cls := .type "list", data := .seq its.toArray n } := by
  obtain ⟨z, its, n, r, e⟩ := I.hok l _ hH
  exact ⟨z, its, n, r, r.length, e⟩

end

section
variable {X : Cx}

/-! ### methods -/
def rAppend : V → List V → Hp → VK → Prop := fun x vs H Q => ∃ l xs y, x = .ref l ∧ vs = [y] ∧ H l = some (.lst xs) ∧ xs.length < sizeLine ∧ Q .non (upd H l (.lst (xs ++ [y])))
theorem mt_append : MtM X "list.append" rAppend := by
  intro pins s σ H x vs v us Q I rx rv h
  obtain ⟨l, xs, y, rfl, rfl, hH, hz, q⟩ := h
  cases rx
  obtain ⟨u, rfl, ru⟩ := rv.one
  obtain ⟨z, its, n, r, hl, e⟩ := I.lstM hH
  refine call_meets F.slot_list_append ⟨_, e, rfl⟩ F.entry_list_append (F.args_list_append_2 _ _) (PySem.list_append l its.toArray n u (by rw [List.size_toArray]; omega)) ⟨e, ?_⟩
  refine ⟨.non, _, I.lset (its' := its ++ [u]) hH e (by simp) (r.append (.cons ru .nil)) ?_, rfl, q⟩
  rw [List.length_append, List.length_singleton]
  omega

def rClear : V → List V → Hp → VK → Prop := fun x vs H Q => ∃ l xs, x = .ref l ∧ vs = [] ∧ H l = some (.lst xs) ∧ Q .non (upd H l (.lst []))
theorem mt_clear : MtM X "list.clear" rClear := by
  intro pins s σ H x vs v us Q I rx rv h
  obtain ⟨l, xs, rfl, rfl, hH, q⟩ := h
  cases rx
  have hus := rv.zero
  subst hus
  obtain ⟨z, its, n, r, hl, e⟩ := I.lstM hH
  refine call_meets F.slot_list_clear ⟨_, e, rfl⟩ F.entry_list_clear (F.args_list_clear_1 _) (AutoSeq1.list_clear_list_0 l its.toArray n (by rw [List.size_toArray]; omega)) ⟨e, ?_⟩
  exact ⟨.non, _, I.lset (its' := []) (ys := []) hH e rfl .nil (Nat.zero_le _), rfl, q⟩

/-! ### list + list, list += list, list * int -/
def rCat : R2 := fun x y H Q => ∃ l b xs zs, x = .ref l ∧ y = .ref b ∧ H l = some (.lst xs) ∧ H b = some (.lst zs) ∧ xs.length + zs.length ≤ sizeLine ∧ ∀ p, H p = none → Q (.ref p) (upd H p (.lst (xs ++ zs)))
theorem op_cat : OpR X (binaryOp .Add) rCat := by
  intro pins s σ H x y v u Q I rx ry h
  obtain ⟨l, b, xs, zs, rfl, rfl, hH, hB, hz, q⟩ := h
  cases rx
  cases ry
  obtain ⟨z, its, n, r, hl, e⟩ := I.lstM hH
  obtain ⟨z2, its2, n2, r2, hl2, e2⟩ := I.lstM hB
  refine PySem.P.add_list e e2 ?_ (by rw [List.size_toArray, List.size_toArray]; omega)
  have ea : its.toArray ++ its2.toArray = (its ++ its2).toArray := by simp
  rw [ea]
  exact ⟨.ref _, _, I.lnew (t' := s.toks) (r.append r2) (by rw [List.length_append]; omega), rfl, q _ I.fresh⟩
/-! ### del xs[i] -/
end

/-! ### xs[a:b] = ys -/
section
variable {prog : Program} {w : World} {A : Around} {E : Value → Shared → Prop} {s : Shared}
end

section
variable {X : Cx}
end
end L2

namespace L2
open PySem PySem.Spec PyProof.Rows

/-! ### lists of pairs as tables -/
section
variable {κ : Type} [DecidableEq κ]
def valV (kvs : List (κ × V)) (k : κ) : Option V := (kvs.find? fun kv => decide (kv.1 = k)).map (·.2)
/-- in its place, or at the end -/
def putK (kvs : List (κ × V)) (k : κ) (v : V) : List (κ × V) :=
  if (kvs.any fun kv => decide (kv.1 = k)) = true then kvs.map (fun kv => if kv.1 = k then (kv.1, v) else kv) else kvs ++ [(k, v)]
def dropK (kvs : List (κ × V)) (k : κ) : List (κ × V) := kvs.filter fun kv => decide (kv.1 ≠ k)

theorem valV_pos {p : κ × V} {r : List (κ × V)} {k : κ} (e : p.1 = k) : valV (p :: r) k = some p.2 := by simp [valV, List.find?_cons, e]
theorem valV_neg {p : κ × V} {r : List (κ × V)} {k : κ} (e : ¬ p.1 = k) : valV (p :: r) k = valV r k := by simp [valV, List.find?_cons, e]
theorem valV_any (k : κ) : ∀ kvs : List (κ × V), (kvs.any fun kv => decide (kv.1 = k)) = (valV kvs k).isSome
  | [] => rfl
  | p :: r => by
    rw [List.any_cons]
    by_cases e : p.1 = k
    · simp only [valV_pos e, decide_eq_true e, Bool.true_or, Option.isSome_some]
    · rw [valV_neg e, decide_eq_false e, Bool.false_or]; exact valV_any k r
theorem length_putK (kvs : List (κ × V)) (k : κ) (v : V) : (putK kvs k v).length ≤ kvs.length + 1 := by
  unfold putK
  split
  · rw [List.length_map]; omega
  · rw [List.length_append, List.length_cons, List.length_nil]; omega
theorem RelO.isSome_eq {o : Option V} {u : Option Value} (r : RelO o u) : o.isSome = u.isSome := by
  cases o with
  | none => cases u with
    | none => rfl
    | some _ => exact (show False from r).elim
  | some _ => cases u with
    | none => exact (show False from r).elim
    | some _ => rfl
theorem RelO.getD {o : Option V} {u : Option Value} {d : V} {d' : Value} (r : RelO o u) (rd : RelV d d') : RelV (o.getD d) (u.getD d') := by
  cases o with
  | none => cases u with
    | none => exact rd
    | some _ => exact (show False from r).elim
  | some _ => cases u with
    | none => exact (show False from r).elim
    | some _ => exact r

/-- raw tables of the same keys -/
theorem KV.val {kvs : List (κ × V)} {vs : List (κ × Value)} (r : KV kvs vs) (k : κ) : RelO (valV kvs k) (valueAt vs k) := by
  unfold KV at r
  induction r with
  | nil => exact True.intro
  | @cons p q ps qs h t ih =>
    obtain ⟨h1, h2⟩ := h
    by_cases e : p.1 = k
    · have e' : q.1 = k := h1.symm.trans e
      have b : valueAt (q :: qs) k = some q.2 := by simp [valueAt, List.find?_cons, e']
      rw [valV_pos e, b]; exact h2
    · have e' : ¬ q.1 = k := fun z => e (h1.trans z)
      have b : valueAt (q :: qs) k = valueAt qs k := by simp [valueAt, List.find?_cons, e']
      rw [valV_neg e, b]; exact ih
theorem KV.any {kvs : List (κ × V)} {vs : List (κ × Value)} (r : KV kvs vs) (k : κ) : (kvs.any fun kv => decide (kv.1 = k)) = vs.any fun kv => decide (kv.1 = k) := by
  unfold KV at r
  induction r with
  | nil => rfl
  | cons h t ih => rw [List.any_cons, List.any_cons, ih, h.1]
theorem KV.repl {kvs : List (κ × V)} {vs : List (κ × Value)} (r : KV kvs vs) (k : κ) {y : V} {u : Value} (ry : RelV y u) :
    KV (kvs.map fun kv => if kv.1 = k then (kv.1, y) else kv) (vs.map fun kv => if kv.1 = k then (kv.1, u) else kv) := by
  unfold KV at r ⊢
  induction r with
  | nil => exact .nil
  | @cons p q ps qs h t ih =>
    rw [List.map_cons, List.map_cons]
    refine .cons ?_ ih
    obtain ⟨h1, h2⟩ := h
    by_cases e : p.1 = k
    · rw [if_pos e, if_pos (h1.symm.trans e)]; exact ⟨h1, ry⟩
    · rw [if_neg e, if_neg (fun z => e (h1.trans z))]; exact ⟨h1, h2⟩
theorem KV.put {kvs : List (κ × V)} {vs : List (κ × Value)} (r : KV kvs vs) (k : κ) {y : V} {u : Value} (ry : RelV y u) : KV (putK kvs k y) (stored vs k u) := by
  unfold putK stored
  rw [r.any k]
  by_cases e : (vs.any fun kv => decide (kv.1 = k)) = true
  · rw [if_pos e, if_pos e]; exact r.repl k ry
  · rw [if_neg e, if_neg e]; exact Paired.snoc r ⟨rfl, ry⟩
theorem KV.drop {kvs : List (κ × V)} {vs : List (κ × Value)} (r : KV kvs vs) (k : κ) : KV (dropK kvs k) (without vs k) := by
  unfold KV at r ⊢
  unfold dropK without
  induction r with
  | nil => exact .nil
  | @cons p q ps qs h t ih =>
    obtain ⟨h1, h2⟩ := h
    rw [List.filter_cons, List.filter_cons]
    by_cases e : p.1 = k
    · have a : ¬ decide (p.1 ≠ k) = true := by simp [e]
      have b : ¬ decide (q.1 ≠ k) = true := by simp [h1.symm.trans e]
      rw [if_neg a, if_neg b]; exact ih
    · have e' : ¬ q.1 = k := fun z => e (h1.trans z)
      have a : decide (p.1 ≠ k) = true := by simp [e]
      have b : decide (q.1 ≠ k) = true := by simp [e']
      rw [if_pos a, if_pos b]; exact .cons ⟨h1, h2⟩ ih
theorem KV.keys {kvs : List (κ × V)} {vs : List (κ × Value)} (r : KV kvs vs) : kvs.map (·.1) = vs.map (·.1) := by
  unfold KV at r
  induction r with
  | nil => rfl
  | cons h t ih => rw [List.map_cons, List.map_cons, ih, h.1]
theorem KV.length {kvs : List (κ × V)} {vs : List (κ × Value)} (r : KV kvs vs) : kvs.length = vs.length := Paired.length r
end


/-! ### a tracked dict, its keys ints and texts or tuples of these -/
theorem kV_is {P : Program} {w : World} {k : Key} {u : Value} (r : RelV (kV k) u) : (mixKind P w).is k u = true := by
  cases k with
  | inl i => obtain ⟨t, e⟩ := (show ∃ t, u = Value.int i t from r); subst e; exact mixKind_int P w i t
  | inr x => obtain ⟨t, e⟩ := (show ∃ t, u = Value.str x t from r); subst e; exact mixKind_str P w x t
theorem items_are {P : Program} {w : World} : ∀ {ks : List Key} {us : List Value}, Vals (ks.map kV) us → ItemsAre (mixKind P w) ks us
  | [], _, r => by rw [List.map_nil] at r; cases r; exact .nil
  | k :: ks, _, r => by
    rw [List.map_cons] at r
    cases r with
    | cons h t => exact .cons (kV_is h) (items_are t)

/-- raw entries of a dict with tuple keys -/
abbrev KT (H : Hp) : List (List Key × V) → List (List Key × Addr × Value) → Prop := Paired fun p q => p.1 = q.1 ∧ H q.2.1 = some (.tup (p.1.map kV)) ∧ RelV p.2 q.2.2
theorem KT.val {H : Hp} {kvs : List (List Key × V)} {xs : List (List Key × Addr × Value)} (r : KT H kvs xs) (k : List Key) : RelO (valV kvs k) ((atKey xs k).map (·.2)) := by
  induction r with
  | nil => exact True.intro
  | @cons p q ps qs h t ih =>
    obtain ⟨h1, _, h2⟩ := h
    by_cases e : p.1 = k
    · have e' : q.1 = k := h1.symm.trans e
      have b : atKey (q :: qs) k = some q.2 := by simp [atKey, List.find?_cons, e']
      rw [valV_pos e, b]; exact h2
    · have e' : ¬ q.1 = k := fun z => e (h1.trans z)
      have b : atKey (q :: qs) k = atKey qs k := by simp [atKey, List.find?_cons, e']
      rw [valV_neg e, b]; exact ih
theorem KT.repl {H : Hp} {kvs : List (List Key × V)} {xs : List (List Key × Addr × Value)} (r : KT H kvs xs) (k : List Key) {y : V} {u : Value} (ry : RelV y u) :
    KT H (kvs.map fun kv => if kv.1 = k then (kv.1, y) else kv) (xs.map (putAt k u)) := by
  induction r with
  | nil => exact .nil
  | @cons p q ps qs h t ih =>
    rw [List.map_cons, List.map_cons]
    refine .cons ?_ ih
    obtain ⟨h1, h2, h3⟩ := h
    unfold putAt
    by_cases e : p.1 = k
    · rw [if_pos e, if_pos (h1.symm.trans e)]; exact ⟨h1, h2, ry⟩
    · rw [if_neg e, if_neg (fun z => e (h1.trans z))]; exact ⟨h1, h2, h3⟩
theorem KT.put {H : Hp} {kvs : List (List Key × V)} {xs : List (List Key × Addr × Value)} (r : KT H kvs xs) (k : List Key) {b : Addr} {y : V} {u : Value} (hb : H b = some (.tup (k.map kV))) (ry : RelV y u) :
    KT H (putK kvs k y) (storedH xs k b u) := by
  have e : (kvs.any fun kv => decide (kv.1 = k)) = (atKey xs k).isSome := by
    rw [valV_any, (r.val k).isSome_eq, Option.isSome_map]
  unfold putK storedH
  rw [e]
  by_cases q : (atKey xs k).isSome = true
  · rw [if_pos q, if_pos q]; exact r.repl k ry
  · rw [if_neg q, if_neg q]; exact Paired.snoc r ⟨rfl, hb, ry⟩
theorem KT.keeps {H H' : Hp} {kvs : List (List Key × V)} {xs : List (List Key × Addr × Value)} (r : KT H kvs xs) (ht : ∀ b ys, H b = some (.tup ys) → H' b = some (.tup ys)) : KT H' kvs xs :=
  Paired.mapP r fun _ _ z => ⟨z.1, ht _ _ z.2.1, z.2.2⟩

section
variable {P : Program} {w : World} {H : Hp} {h : Heap} {a : Addr}
theorem rd_of {u : HO} (ok : HOk P w H h) (e : Rd H a u) : ObjOk P w H h a u := e.ok ok
theorem dk_rd {kvs : List (Key × V)} (ok : HOk P w H h) (e : Rd H a (.dK kvs)) : kvs.length ≤ sizeLine ∧ (a == sysModules) = false ∧ ∃ vs, KV kvs vs ∧ h.DictOf (mixKind P w) a vs :=
  show ObjOk P w H h a (.dK kvs) from rd_of ok e
theorem dk_of {kvs : List (Key × V)} (ok : HOk P w H h) (e : H a = some (.dK kvs)) : kvs.length ≤ sizeLine ∧ (a == sysModules) = false ∧ ∃ vs, KV kvs vs ∧ h.DictOf (mixKind P w) a vs := dk_rd ok (.inl e)
/-- a tracked tuple of ints and texts is a key -/
theorem key_of {ks : List Key} (ok : HOk P w H h) (e : H a = some (.tup (ks.map kV))) : (tupleKind (mixKind P w)).is h ks a := by
  obtain ⟨_, its, r, o, h1, h2, n, h3⟩ := (show ObjOk P w H h a (.tup (ks.map kV)) from ok a _ e)
  exact ⟨o, its.toArray, n, h1, h2, h3, by simpa using items_are r⟩
theorem dt_rd {kvs : List (List Key × V)} (ok : HOk P w H h) (e : Rd H a (.dT kvs)) : kvs.length ≤ sizeLine ∧ (a == sysModules) = false ∧
    ∃ xs, KT H kvs xs ∧ h.DictOfH (tupleKind (mixKind P w)) a xs := by
  obtain ⟨z, y, xs, r, o, es, ep, h1, h2, h3, h4, h5⟩ := (show ObjOk P w H h a (.dT kvs) from rd_of ok e)
  refine ⟨z, y, xs, r, o, es, ep, h1, h2, h3, h4, fun x hx => ?_, h5⟩
  have all : ∀ {l : List (List Key × V)} {m : List (List Key × Addr × Value)}, KT H l m → ∀ x ∈ m, (tupleKind (mixKind P w)).is h x.1 x.2.1 := by
    intro l m q
    induction q with
    | nil => intro x hx; exact nomatch hx
    | @cons p q ps qs hq t ih =>
      intro x hx
      rcases List.mem_cons.mp hx with e | hx
      · subst e
        exact key_of ok (by rw [← hq.1]; exact hq.2.1)
      · exact ih x hx
  exact all r x hx
theorem dt_of {kvs : List (List Key × V)} (ok : HOk P w H h) (e : H a = some (.dT kvs)) : kvs.length ≤ sizeLine ∧ (a == sysModules) = false ∧
    ∃ xs, KT H kvs xs ∧ h.DictOfH (tupleKind (mixKind P w)) a xs := dt_rd ok (.inl e)
end

/-- what the dict at a holds at the key y -/
def DGet (H : Hp) (a : Addr) (y : V) (r : Option V) : Prop :=
  (∃ kvs k, Rd H a (.dK kvs) ∧ y = kV k ∧ r = valV kvs k) ∨ ∃ kvs k b, Rd H a (.dT kvs) ∧ y = .ref b ∧ H b = some (.tup (k.map kV)) ∧ r = valV kvs k
/-- the heap behind a[y] = v -/
def DPut (H : Hp) (a : Addr) (y v : V) (H' : Hp) : Prop :=
  (∃ kvs k, H a = some (.dK kvs) ∧ y = kV k ∧ kvs.length < sizeLine ∧ H' = upd H a (.dK (putK kvs k v))) ∨
  ∃ kvs k b, H a = some (.dT kvs) ∧ y = .ref b ∧ H b = some (.tup (k.map kV)) ∧ kvs.length < sizeLine ∧ H' = upd H a (.dT (putK kvs k v))
theorem DGet.k {H : Hp} {a : Addr} {kvs : List (Key × V)} {k : Key} (e : H a = some (.dK kvs)) : DGet H a (kV k) (valV kvs k) := .inl ⟨kvs, k, .inl e, rfl, rfl⟩
theorem DGet.t {H : Hp} {a b : Addr} {kvs : List (List Key × V)} {k : List Key} (e : H a = some (.dT kvs)) (eb : H b = some (.tup (k.map kV))) : DGet H a (.ref b) (valV kvs k) := .inr ⟨kvs, k, b, .inl e, rfl, eb, rfl⟩
theorem DPut.k {H : Hp} {a : Addr} {kvs : List (Key × V)} {k : Key} {v : V} (e : H a = some (.dK kvs)) (hl : kvs.length < sizeLine) : DPut H a (kV k) v (upd H a (.dK (putK kvs k v))) := .inl ⟨kvs, k, e, rfl, hl, rfl⟩
theorem DPut.t {H : Hp} {a b : Addr} {kvs : List (List Key × V)} {k : List Key} {v : V} (e : H a = some (.dT kvs)) (eb : H b = some (.tup (k.map kV))) (hl : kvs.length < sizeLine) :
    DPut H a (.ref b) v (upd H a (.dT (putK kvs k v))) := .inr ⟨kvs, k, b, e, rfl, eb, hl, rfl⟩


section
variable {X : Cx} {pins : List (Addr × Obj)} {σ : St} {H : Hp} {s : Shared} {a : Addr} {y v : V} {u r : Value} {o : Option V} {A : Around} {E : Value → Shared → Prop}

theorem Inv.big (I : Inv X pins σ H s) : sysModules < s.heap.objs.size := by
  have h : mainGlobals < s.heap.objs.size := (I.mod.glob.keeps I.bk).lt
  exact Nat.lt_trans (by decide) h

/-- d[y], there -/
theorem d_getItem {Q : Value → Shared → Prop} (hu : A.units + 1 < cLine) (I : Inv X pins σ H s) (g : DGet H a y (some v)) (ry : RelV y u) (h : ∀ w' s', Inv X pins σ H s' → RelV v w' → Q w' s') :
    wpAny (model X.prog X.w) A (getItem (.ref a) u) Q E s := by
  rcases g with ⟨kvs, k, e, ey, l⟩ | ⟨kvs, k, b, e, ey, eb, l⟩
  · subst ey
    obtain ⟨z, hd, vs, rel, dd⟩ := dk_rd I.hok e
    obtain ⟨w', hw, rw'⟩ := RelO.some_of (v := v) (o := valueAt vs k) (by rw [l]; exact rel.val k)
    exact wpAny_getItem_of (kV_is ry) dd.mapOf hw (h w' _ (I.tok _) rw')
  · subst ey
    cases (show u = Value.ref b from ry)
    obtain ⟨z, hd, xs, rel, dd⟩ := dt_rd I.hok e
    obtain ⟨w', hw, rw'⟩ := RelO.some_of (v := v) (o := (atKey xs k).map (·.2)) (by rw [l]; exact rel.val k)
    obtain ⟨p, hp, hp2⟩ := Option.map_eq_some_iff.mp hw
    refine wpAny_getItem_heap (tupleKind_room_in1 hu) (key_of I.hok eb) dd hp ?_
    rw [hp2]
    exact h w' _ (I.tok _) rw'
theorem d_notIn {Q : Value → Shared → Prop} (hu : A.units + 1 < cLine) (I : Inv X pins σ H s) (g : DGet H a y o) (ry : RelV y u) (h : ∀ s', Inv X pins σ H s' → Q (.bool (!o.isSome)) s') :
    wpAny (model X.prog X.w) A (compareOp .NotIn u (.ref a)) Q E s := by
  rcases g with ⟨kvs, k, e, ey, l⟩ | ⟨kvs, k, b, e, ey, eb, l⟩
  · subst ey
    obtain ⟨z, hd, vs, rel, dd⟩ := dk_rd I.hok e
    refine wpAny_notIn_of (kV_is ry) hd dd.mapOf ?_
    rw [← (rel.val k).isSome_eq, ← l]
    exact h _ (I.tok _)
  · subst ey
    cases (show u = Value.ref b from ry)
    obtain ⟨z, hd, xs, rel, dd⟩ := dt_rd I.hok e
    refine wpAny_notIn_heap (tupleKind_room_in1 hu) (key_of I.hok eb) hd dd ?_
    have q := (rel.val k).isSome_eq
    rw [Option.isSome_map] at q
    rw [← q, ← l]
    exact h _ (I.tok _)
/-- a dict's object is replaced -/
theorem d_write {h' : Heap} {t' : Nat} {ob : HO} (I : Inv X pins σ H s) (mu : Mut (H a)) (hs : Heap.SameBut a s.heap h') (he : ∃ q, h'.get? a = some q) (new : ObjOk X.prog X.w (upd H a ob) h' a ob) :
    Inv X pins σ (upd H a ob) { s with heap := h', toks := t' } :=
  I.write (x := a) (e := a) mu (.inl rfl) (fun b q hb z => (hs.2 b hb).trans z) he new
theorem dk_new {P : Program} {w : World} {H' : Hp} {h' : Heap} {kvs : List (Key × V)} {vs : List (Key × Value)} (z : kvs.length ≤ sizeLine) (hd : (a == sysModules) = false) (rel : KV kvs vs) (dd : h'.DictOf (mixKind P w) a vs) :
    ObjOk P w H' h' a (.dK kvs) := ⟨z, hd, vs, rel, dd⟩
/-- d[y] = v -/
theorem d_setItem {H' : Hp} {Q : Unit → Shared → Prop} (hu : A.units + 1 < cLine) (I : Inv X pins σ H s) (g : DPut H a y v H') (ry : RelV y u) (rv : RelV v r) (h : ∀ s', Inv X pins σ H' s' → Q () s') :
    wpAny (model X.prog X.w) A (setItem (.ref a) u r) Q E s := by
  rcases g with ⟨kvs, k, e, ey, l, eH⟩ | ⟨kvs, k, b, e, ey, eb, l, eH⟩
  · subst ey eH
    obtain ⟨z, hd, vs, rel, dd⟩ := dk_of I.hok e
    have hz : vs.length ≤ sizeLine := by rw [← rel.length]; exact z
    have hl : (putK kvs k v).length ≤ sizeLine := by have := length_putK kvs k v; omega
    refine wpAny_setItem_pairs (hsz := hz) (kV_is ry) dd fun h' dd' hs => h _ ?_
    have he : ∃ q, h'.get? a = some q := let ⟨q, _, _, hq, _⟩ := dd'; ⟨q, hq⟩
    exact d_write I (by rw [e]; exact True.intro) hs he (dk_new hl hd (rel.put k rv) dd')
  · subst ey eH
    cases (show u = Value.ref b from ry)
    obtain ⟨z, hd, xs, rel, dd⟩ := dt_of I.hok e
    have hz : xs.length ≤ sizeLine := by rw [← Paired.length rel]; exact z
    have hl : (putK kvs k v).length ≤ sizeLine := by have := length_putK kvs k v; omega
    refine wpAny_setItem_heap (hsz := hz) (tupleKind_room_in1 hu) (key_of I.hok eb) dd fun h' dd' hs => h _ ?_
    obtain ⟨q, es, ep, hq, h2, h3, h4, _, h5⟩ := dd'
    refine d_write I (by rw [e]; exact True.intro) hs ⟨q, hq⟩ ⟨hl, hd, _, (rel.put k eb rv).keeps fun c ys ec => ?_, q, es, ep, hq, h2, h3, h4, h5⟩
    rw [upd_ne (ne_of ec e (fun z => nomatch z))]
    exact ec
end

section
variable {X : Cx} {pins : List (Addr × Obj)} {σ : St} {H : Hp} {s : Shared} {a : Addr} {kvs : List (Key × V)} {k : Key} {u : Value} {A : Around} {E : Value → Shared → Prop}
/-- len(d) -/
theorem d_len {Q : Value → Shared → Prop} (I : Inv X pins σ H s) (e : Rd H a (.dK kvs)) (h : ∀ t s', Inv X pins σ H s' → Q (.int kvs.length t) s') : wpAny (model X.prog X.w) A (call (.builtin "len") [.ref a]) Q E s := by
  obtain ⟨z, hd, vs, rel, dd⟩ := dk_rd I.hok e
  refine call_len_dict hd dd (by rw [← rel.length]; rw [sizeLine_eq] at z; omega) ?_
  rw [← rel.length]
  exact h _ _ (I.tok _)
end


/-! ### readings and rules -/
/-- the element of a subscription, not a slice -/
def NoSl (i : Expr) : Prop := ∀ ov iv, subscripted i false ov iv = operate [ov, iv] (getItem ov iv)
theorem subD_of {prog : Program} {w : World} {A : Around} {E : Value → Shared → Prop} {s : Shared} {env : Env} {value slice : Expr} {pos : Pos} {T id : String} {Q : Value → Shared → Prop}
    (hl : typeLookup (.type T) "__getitem__" = pure (some (.builtin id))) (hs : NoSl slice)
    (h : wpAny (model prog w) A (eval value env) (fun o s₁ => wpAny (model prog w) A (eval slice env) (fun i s₂ => s₂.TypeIs o T ∧ wpAny (model prog w) A (getItem o i) Q E s₂) E s₁) E s) :
    wpAny (model prog w) A (eval (.Subscript value slice pos) env) Q E s := by
  refine Subscript_ (wpAny_mono h (fun o s₁ h₁ => wpAny_mono h₁ (fun i s₂ h₂ => ?_) fun _ _ x => x) fun _ _ x => x)
  obtain ⟨hT, h₂⟩ := h₂
  unfold subscriptTail
  refine wpAny_bind ?_
  rw [getitemInPython_of_ne hT.not_modules]
  refine wpAny_bind (wpAny_specialOf hT hl ?_)
  have fin : wpAny (model prog w) A (subscripted slice false o i) (fun r s₃ => wpAny (model prog w) A (letTemporaryGo value o r >>= fun _ => pure r) Q E s₃) E s₂ := by
    rw [hs o i]
    exact wpAny_operating (wpAny_mono h₂ (fun r s₃ h₃ => wpAny_bind (wpAny_letTemporaryGo (wpAny_pure h₃))) fun _ _ x => x)
  first
    | exact wpAny_pure (wpAny_bind fin)
    | exact wpAny_bind (wpAny_pure (wpAny_bind fin))
    | exact wpAny_bind fin

theorem dict_typeIs {X : Cx} {pins : List (Addr × Obj)} {σ : St} {H : Hp} {s : Shared} {a : Addr} {y : V} {o : Option V} (I : Inv X pins σ H s) (g : DGet H a y o) : s.TypeIs (.ref a) "dict" := by
  rcases g with ⟨kvs, k, e, _, _⟩ | ⟨kvs, k, b, e, _, _, _⟩
  · obtain ⟨_, _, vs, _, dd⟩ := dk_rd I.hok e
    exact dd.typeIs
  · obtain ⟨_, _, xs, _, dd⟩ := dt_rd I.hok e
    exact dd.typeIs
/-- d[y] -/
def tDGet (td ty : TE) : TE := fun σ H Q => td σ H fun x H1 => ty σ H1 fun y H2 => ∃ a v, x = .ref a ∧ DGet H2 a y (some v) ∧ Q v H2
def tDNotIn (ty td : TE) : TE := fun σ H Q => ty σ H fun y H1 => td σ H1 fun x H2 => ∃ a o, x = .ref a ∧ DGet H2 a y o ∧ Q (.bl (!o.isSome)) H2
/-- d[y] = v -/
def sDPut (td ty tv : TE) : TS := fun D σ H => tv σ H fun v H1 => td σ H1 fun x H2 => ty σ H2 fun y H3 => ∃ a H4, x = .ref a ∧ DPut H3 a y v H4 ∧ D.nx σ H4
section
variable {X : Cx} {o i e value : Expr} {pos pos' tpos : Pos} {td ty tv : TE}
theorem pe_dget (hu : X.A.units + 1 < cLine) (ho : PE X o td) (hi : PE X i ty) (hs : NoSl i) : PE X (.Subscript o i pos) (tDGet td ty) := by
  intro pins s σ H Q I h
  refine subD_of PySem.F.slot_dict_getitem.lookup hs (thn (ho pins s σ H _ I h) fun u s1 ⟨x, H1, I1, rx, q1⟩ => thn (hi pins s1 σ H1 _ I1 q1) fun iv s2 ⟨y, H2, I2, ry, a, v, ex, g, q2⟩ => ?_)
  subst ex
  obtain rfl : u = Value.ref a := rx
  exact ⟨dict_typeIs I2 g, d_getItem hu I2 g ry fun w' s3 I3 rw' => ⟨v, H2, I3, rw', q2⟩⟩
theorem pc_dnotin (hu : X.A.units + 1 < cLine) (hi : PE X i ty) (ho : PE X o td) : PC X .NotIn i o (tDNotIn ty td) := by
  intro pins s σ H Q I h
  refine thn (hi pins s σ H _ I h) fun iv s1 ⟨y, H1, I1, ry, q1⟩ => thn (ho pins s1 σ H1 _ I1 q1) fun u s2 ⟨x, H2, I2, rx, a, ov, ex, g, q2⟩ => ?_
  subst ex
  obtain rfl : u = Value.ref a := rx
  exact d_notIn hu I2 g ry fun s3 I3 => ⟨.bl (!ov.isSome), H2, I3, rfl, q2⟩
theorem ps_dput (hu : X.A.units + 1 < cLine) (ho : PE X o td) (hi : PE X i ty) (hv : PE X value tv) (hs : swapsWith value (some (.Subscript o i pos')) pos.line X.env = pure false) :
    PS X (.Assign [.Subscript o i pos'] value pos) (sDPut td ty tv) := by
  intro pins s σ H D I h
  refine wpAny_Assign_Subscript (thn (hv pins s σ H _ I h) fun r s1 ⟨v, H1, I1, rv, q1⟩ => thn (ho pins s1 σ H1 _ I1 q1) fun u s2 ⟨x, H2, I2, rx, q2⟩ => thn (hi pins s2 σ H2 _ I2 q2) fun iv s3 ⟨y, H3, I3, ry, a, H4, ex, g, q3⟩ => ?_) hs
  subst ex
  obtain rfl : u = Value.ref a := rx
  exact d_setItem hu I3 g ry rv fun s4 I4 => ⟨σ, H4, I4, q3⟩
end


/-! ### displays -/
theorem dt_empty {P : Program} {w : World} {H : Hp} (h : Heap) (hb : sysModules < h.objs.size) : ObjOk P w H (h.push { cls := .type "dict", data := .dict #[] }) h.objs.size (.dT []) :=
  ⟨Nat.zero_le _, beq_eq_false_iff_ne.mpr (Ne.symm (Nat.ne_of_lt hb)), [], .nil, _, #[], 0, Heap.get?_push_size _ rfl, ⟨rfl, rfl, rfl⟩, rfl, rfl, List.nodup_nil⟩
def tDNewT : TE := fun _ H Q => ∀ p, H p = none → Q (.ref p) (upd H p (.dT []))
section
variable {X : Cx} {pos : Pos}
theorem pe_dnewT : PE X (.Dict [] [] pos) tDNewT := fun pins s σ H Q I h =>
  wpAny_Dict_empty ⟨.ref s.heap.objs.size, _, I.laid (a := s.heap.objs.size) (o := .dT []) (t' := s.toks) (fun _ _ q => Heap.get?_push_of_some _ q) (Nat.le_refl _) (dt_empty s.heap I.big), rfl, h _ (I.hok.fresh (Nat.le_refl _))⟩
end

/-- the pairs of a display, from the left -/
def tPairs : List (TE × TE) → St → Hp → (List (V × V) → Hp → Prop) → Prop
  | [], _, H, Q => Q [] H
  | (tk, tv) :: r, σ, H, Q => tk σ H fun x H1 => tv σ H1 fun y H2 => tPairs r σ H2 fun ps H3 => Q ((x, y) :: ps) H3
abbrev VV : List (V × V) → List (Value × Value) → Prop := Paired fun p q => RelV p.1 q.1 ∧ RelV p.2 q.2
def PPs (X : Cx) (pos : Pos) (keys : List (Option Expr)) (values : List Expr) (trs : List (TE × TE)) : Prop :=
  ∀ (pins : List (Addr × Obj)) (s : Shared) (σ : St) (H : Hp) (Q : List (V × V) → Hp → Prop), Inv X pins σ H s → tPairs trs σ H Q →
    wpAny (model X.prog X.w) X.A (evalPairs (pairTrees keys values X.env pos)) (fun vs s' => ∃ ps H', Inv X pins σ H' s' ∧ VV ps vs ∧ Q ps H') X.xe s
/-! ### methods -/
/-- a method call o.m(e) of a built-in, with one argument: what must be seen of the text -/
structure M1 (X : Cx) (o : Expr) (m : Str) (apos : Pos) (e : Expr) (cpos : Pos) : Prop where
  base : attributeBase o m X.env (eval o X.env) = eval o X.env
  few : ((backTo cpos (starEach [e] X.env)).all (fun x => !x.1) && (backToKw cpos (keywordEach [] X.env)).all (fun x => x.1.isSome)
    && decide (([e] : List Expr).length + ([] : List Keyword).length + (if ([] : List Keyword).isEmpty then 0 else 1) < 30)) = true
  line : (apos.endLine == cpos.line) = true
  trees : backTo cpos (starEach [e] X.env) = [(false, eval e X.env)]
structure M2 (X : Cx) (o : Expr) (m : Str) (apos : Pos) (e f : Expr) (cpos : Pos) : Prop where
  base : attributeBase o m X.env (eval o X.env) = eval o X.env
  few : ((backTo cpos (starEach [e, f] X.env)).all (fun x => !x.1) && (backToKw cpos (keywordEach [] X.env)).all (fun x => x.1.isSome)
    && decide (([e, f] : List Expr).length + ([] : List Keyword).length + (if ([] : List Keyword).isEmpty then 0 else 1) < 30)) = true
  line : (apos.endLine == cpos.line) = true
  trees : backTo cpos (starEach [e, f] X.env) = [(false, eval e X.env), (false, eval f X.env)]

section
variable {X : Cx} {pins : List (Addr × Obj)} {σ : St} {H : Hp} {s : Shared} {a : Addr} {y d : V} {u r : Value} {o : Option V} {A : Around} {E : Value → Shared → Prop}
end

section
variable {X : Cx} {o e f : Expr} {apos cpos : Pos} {td ty tx : TE}
end

/-! ### dict(d): a copy -/
section
variable {X : Cx} {pins : List (Addr × Obj)} {σ : St} {H : Hp} {s : Shared} {a : Addr} {kvs : List (Key × V)} {A : Around} {E : Value → Shared → Prop}
end


section
variable {X : Cx} {pins : List (Addr × Obj)} {σ : St} {H : Hp} {s : Shared} {a : Addr} {y : V} {u : Value} {A : Around} {E : Value → Shared → Prop}
end
end L2

namespace Att
open PySem PySem.W PySem.Calls PyProof.Rows

/-! ### the script -/
theorem ints_of_wellAll {P : Params} {h : Heap} : ∀ (ns : List Int) (vs : List Value), WellAll P h vs (ns.map WData.int) → IntsAre vs ns := by
  intro ns
  induction ns with
  | nil =>
    intro vs w
    rw [List.map_nil] at w
    cases w
    exact .nil
  | cons n ns ih =>
    intro vs w
    rw [List.map_cons] at w
    cases w with
    | cons a b =>
      cases a
      exact .cons _ _ (ih _ b)

theorem script_of {l : OpenLaw} {n : Nat} (hn : l.most = some n) {P : Params} {h : Heap} {args : List WData} {vals : List Value}
    (hpre : l.row.toRowW.claim.pre args = true) (hwl : WellAll P h vals args) :
    ∃ a vs ns, vals = [Value.ref a] ∧ args = [WData.list (ns.map WData.int)] ∧ h.get? a = some { cls := .type "list", data := .seq vs.toArray } ∧ IntsAre vs ns ∧ ns.length ≤ n := by
  have hsh : WShape.hasAll [] args [.list .int] = true := (pre_splitW hpre).1
  have hc : l.pre.holds [] { args := args } = true := (pre_splitW hpre).2
  obtain ⟨d, r, rfl, h1, h2⟩ := hasAllW_cons hsh
  obtain rfl := hasAllW_nil h2
  obtain ⟨xs, rfl, h3⟩ := hasW_list h1
  obtain ⟨ns, rfl⟩ := items_int h3
  have hlen : ns.length ≤ n := by
    unfold OpenLaw.pre at hc
    have h4 : (WTm.not (.lt (.lit (.int (n : Int))) (.len (.arg 0)))).holds [] { args := [.list (ns.map .int)] } = true := by
      have h4 := (holds_andW hc).1
      rw [hn] at h4
      exact h4
    have h5 := condW_of h4 (w_not (w_lt w_lit (w_len_list (w_arg rfl))))
    rw [List.length_map] at h5
    refine Nat.le_of_not_lt fun q => ?_
    have q' : (n : Int) < ((ns.length : Nat) : Int) := by omega
    first
      | (rw [decide_eq_true q'] at h5; exact absurd h5 (by decide))
      | (simp at h5; omega)
  cases hwl with
  | cons w1 w2 =>
    cases w2
    cases w1 with
    | list ho hall => exact ⟨_, _, ns, rfl, rfl, ho, ints_of_wellAll ns _ hall, hlen⟩

theorem post_true (l : OpenLaw) (args : List WData) : l.row.toRowW.claim.post args (.bool true) args = true :=
  postW_of (r := l.row.toRowW) (X := (true == true))
    (show WShape.has [] (.bool true) .bool = true by first | rfl | decide | simp [WShape.has, WShape.arms, WShape.armsAll])
    (show (WTm.eq .res (.lit (.bool true))).value [] { args := args, res := some (.bool true), after := args } = some (.bool (true == true)) from w_eq_bool (w_res rfl) w_lit) rfl

/-! ### the attachment: holds_open's last premise (the goal 'hc' behind k_head) from a wpAny of the law's body -/
/-- the same from a codeAny of the CALL (for a layer whose function contracts speak of calls) -/
theorem attach_call {l : OpenLaw} {n : Nat} {q : Program} {loose : List Str} {XP : (Str → Option Value) → Heap → Prop} {YP : World → Heap → Prop} {d : DefRec}
    (hn : l.most = some n) (hdf : d.params.defaults = [])
    (call : ∀ (w : World) (s₀ s₁ : Shared) (mg mb : Str → Option Value) (fa : Addr) (o : Obj) (pm cd doc : Value) (a : Addr) (vs : List Value) (ns : List Int),
      Ground q loose [] XP w s₀ mg mb s₁.heap → YP w s₁.heap →
      s₁.heap.get? fa = some o → o.data = .func (docDef d.name d.params d.body d.scope pm cd doc) → s₁.heap.CodeRec cd d.name → mg d.name = some (.ref fa) →
      s₁.heap.get? a = some { cls := .type "list", data := .seq vs.toArray } → IntsAre vs ns → ns.length ≤ n → s₁.gens = #[] →
      codeAny (model l.prog w) callerA (.call (.ref fa) ⟨[.ref a], []⟩) (fun r s' => r = .ok (.ret (.bool true)) ∧ OldK s₁.heap s'.heap ∧ s'.os = s₁.os ∧ AllBare s'.gens) s₁) :
    WalkO q loose XP YP l.row.toRowW d [] (fun f vs => PySem.call f vs) := by
  intro w s₀ s₁ mg mb G Y fa o pm cd doc dV kV ho hd hcd hD hmg hg args vals as hpre hlay hrd hwl hlo
  obtain rfl : dV = .none := Dflts.none hD hdf
  obtain rfl : kV = .none := Dflts.noKw hD
  obtain ⟨a, vs, ns, rfl, rfl, hobj, hints, hlen⟩ := script_of hn hpre hwl
  refine enter_call (codeAny_mono (call w s₀ s₁ mg mb fa o pm cd doc a vs ns G Y ho (fd_plain hd) hcd hmg hobj hints hlen hg) fun r s' hq => ?_)
  obtain ⟨rfl, h2, h3, h4⟩ := hq
  exact ⟨.inl ⟨.bool true, .bool true, [], rfl, fun _ => rfl, .bool true, post_true l _, fun _ => ⟨List.Pairwise.nil, fun _ hm => (nomatch hm)⟩⟩, h2, h3, h4⟩

/-! ### rules over ANY heap (no ledger) from facts about the written part K: the library's own take a ledger (News) for what they write -/
section
variable {prog : Program} {w : World} {A : Around} {E : Value → Shared → Prop} {s : Shared} {K : Frag}

/-! the whole heap as the ledger: makes every rule that writes through a ledger a rule over any heap -/
def ledger (h : Heap) (L d : Addr) : List (Addr × Obj) := (List.range h.objs.size).filterMap fun a => if a = L ∨ a = d then none else (h.get? a).map fun o => (a, o)
end
end Att

namespace L2
open PySem PySem.Spec PyProof.Rows

theorem vals_ints : ∀ {vs : List Value} {ns : List Int}, IntsAre vs ns → Vals (ns.map V.int) vs
  | _, _, .nil => .nil
  | _, _, .cons n t h => .cons ⟨t, rfl⟩ (vals_ints h)

/-- nothing is tracked but the script, known to the object (or it is an object of the module) -/
def Only (H : Hp) : Prop := ∀ b, H b = none ∨ ∃ o xs, H b = some (.frz o (.lst xs))

/-- THE HEAD: the law's promise, at the heap behind the top. F, the promise of the law's def, may use that base is part of the heap (so K.In base, base.Ns mainGlobals mg stand in Mod) -/
theorem law_call {P : Program} {w : World} {K : PySem.W.Frag} {mg mb : Str → Option Value} {CX : CXT} {k : Nat} {fa a : Addr} {fd : FuncData} {x : Str} {sp : Sp} {s₁ : Shared} {vs : List Value} {ns : List Int}
    (KX : K.In s₁.heap) (hns : s₁.heap.Ns mainGlobals mg) (hb : s₁.heap.Ns builtinsNs mb) (hbb : ∀ x : Str, x ≠ "__name__" → mb x = bootBuiltins x) (hlim : s₁.heap.NoLimit) (hg : s₁.gens = #[])
    (ha : s₁.heap.get? a = some { cls := .type "list", data := .seq vs.toArray }) (hi : IntsAre vs ns) (hl : ns.length ≤ sizeLine) (hr : Room k callerA)
    (F : ∀ base : Heap, K.In base → base.Ns mainGlobals mg → FnOk P w K mg base CX k fa fd [x] sp) (hbind : ∀ (s : Shared) (u : Value), BindsTo s fd ⟨[u], []⟩ [(x, u)])
    (hsp : ∀ H : Hp, Only H → SqL K H a (ns.map V.int) → sp [.ref a] H (fun v _ => v = .bl true) fun _ _ _ => False)
    (hCX : ∀ H e s', CX [] H s₁ (fun _ _ _ => False) e s' → False) :
    codeAny (model P w) callerA (.call (.ref fa) ⟨[.ref a], []⟩) (fun r s' => r = .ok (.ret (.bool true)) ∧ OldK s₁.heap s'.heap ∧ s'.os = s₁.os ∧ AllBare s'.gens) s₁ := by
  have rv := vals_ints hi
  have lenV := hi.length
  -- from an abstract heap in which nothing but the script may be tracked
  have core : ∀ H : Hp, Only H → SqL K H a (ns.map V.int) → HOk P w H s₁.heap → (∀ b, H b ≠ none → b = a) → (H a ≠ none → K.lookup a = none) →
      codeAny (model P w) callerA (.call (.ref fa) ⟨[.ref a], []⟩) (fun r s' => r = .ok (.ret (.bool true)) ∧ OldK s₁.heap s'.heap ∧ s'.os = s₁.os ∧ AllBare s'.gens) s₁ := by
    intro H hO hS hok hA hK
    have base_of : ∀ {b : Addr} {o : Obj}, s₁.heap.get? b = some o → H b = none → (hidT s₁.heap H).get? b = some o := fun e n => hidT_get e n
    have noA : ∀ {b : Addr} {o : Obj} {es : Array DictEntry} {ep : Nat}, s₁.heap.get? b = some o → o.data = .dict es ep → H b = none := fun {b o es ep} e d => by
      cases q : H b with
      | none => rfl
      | some u =>
        have e' : b = a := hA b (by rw [q]; simp)
        subst e'
        rw [ha] at e; cases e
        have d' : Data.seq vs.toArray _ = Data.dict es ep := d
        cases d'
    have nsK : ∀ {b : Addr} {m : Str → Option Value}, s₁.heap.Ns b m → (hidT s₁.heap H).Ns b m := fun {b m} ⟨o, es, ep, e, d, r⟩ => ⟨o, es, ep, base_of e (noA e d), d, r⟩
    have hKb : K.In (hidT s₁.heap H) := fun b o e => base_of (KX b o e) (by
      cases q : H b with
      | none => rfl
      | some u =>
        have e' : b = a := hA b (by rw [q]; simp)
        subst e'
        rw [hK (by rw [q]; simp)] at e; cases e)
    have hM : Mod K mg (hidT s₁.heap H) := ⟨hKb, nsK hns, ⟨mb, nsK hb, hbb⟩, let ⟨mc, h1, h2⟩ := hlim; ⟨mc, nsK h1, h2⟩⟩
    have e0 : Env0 P w K mg (hidT s₁.heap H) callerA [] s₁ H := ⟨rfl, hM, fun b o e => of_hidT e, Nat.le_of_eq (hidT_size _ _), trivial, fun b hb => absurd (show b ∈ ([] : List Addr) from hb) (by simp), hok, .of_eq hg⟩
    refine codeAny_mono ((F _ hKb (nsK hns)).run callerA [] s₁ H ⟨[.ref a], []⟩ [.ref a] [.ref a] _ _ hr e0 (hbind s₁ (.ref a)) (.cons rfl .nil) (hsp H hO hS)) fun r s' h => ?_
    cases r with
    | error e => exact (hCX H e s' h).elim
    | ok fl =>
      cases fl with
      | next => exact False.elim h
      | brk => exact False.elim h
      | cont => exact False.elim h
      | ret u =>
        obtain ⟨v, H', os, bare, un, hok', r', q⟩ := h
        have q' : v = .bl true := q
        subst q'
        obtain rfl : u = Value.bool true := r'
        refine ⟨rfl, OldK.of_keep fun b o e => ?_, os, bare⟩
        cases q : H b with
        | none => exact un.keep b o e q (by intro z; exact absurd (show b ∈ ([] : List Addr) from z) (by simp)) (by simp)
        | some u =>
          rcases hO b with z | ⟨ob, xs, z⟩
          · rw [q] at z; cases z
          · have z2 := un.frzs b ob _ z
            obtain ⟨e1, _⟩ := hok b _ z
            obtain ⟨e2, _⟩ := hok' b _ z2
            rw [e] at e1; cases e1
            exact e2
  cases hk : K.lookup a with
  | some o =>
    -- the script is one of the module's own objects
    have e := KX a o hk
    rw [ha] at e
    cases e
    refine core (fun _ => none) (fun _ => .inl rfl) (.inr ⟨_, vs.toArray, _, hk, rfl, rfl, rfl, by rw [List.size_toArray, lenV]; exact hl, by simpa using rv⟩) (fun b u z => by have z' : (none : Option HO) = some u := z; cases z') (fun b z => absurd rfl z) fun z => absurd rfl z
  | none =>
    refine core (fun b => if b = a then some (.frz { cls := .type "list", data := .seq vs.toArray } (.lst (ns.map V.int))) else none) (fun b => ?_) (.inl (.inr ⟨{ cls := .type "list", data := .seq vs.toArray }, if_pos rfl⟩)) (fun b u z => ?_) (fun b z => ?_) fun _ => hk
    · by_cases hb : b = a
      · exact .inr ⟨_, _, if_pos hb⟩
      · exact .inl (if_neg hb)
    · by_cases hb : b = a
      · have z' := (if_pos hb).symm.trans z
        cases z'
        subst hb
        exact ⟨ha, by rw [List.length_map]; exact hl, vs, _, rv, ha⟩
      · have z' := (if_neg hb).symm.trans z
        cases z'
    · by_cases hb : b = a
      · exact hb
      · exact absurd (if_neg hb) z
end L2

namespace L2
open PySem PySem.Spec PyProof.Rows

abbrev KOf {K : PySem.W.Frag} {h : Heap} (_ : K.In h) : PySem.W.Frag := K

/-- the goal that k_head leaves (case hc), from the law's promise. F gives the function object fd (K's own) once, then the promise over every base -/
theorem walk_of {l : PySem.W.OpenLaw} {n k : Nat} {q : Program} {loose : List Str} {XP : (Str → Option Value) → Heap → Prop} {YP : World → Heap → Prop} {d : DefRec} {K : Params → PySem.W.Frag} {CX : World → CXT} {sp : World → Sp} {x : Str}
    (hn : l.most = some n) (hn2 : n ≤ sizeLine) (hdf : d.params.defaults = []) (hr : Room k callerA)
    (hY : ∀ (w : World) (h : Heap), YP w h → (K w.params).In h)
    (F : ∀ (w : World) (mg : Str → Option Value) (fa : Addr) (h : Heap), (K w.params).In h → h.Ns mainGlobals mg → mg d.name = some (.ref fa) →
      ∃ fd : FuncData, (∀ (s : Shared) (u : Value), BindsTo s fd ⟨[u], []⟩ [(x, u)]) ∧
        ∀ base : Heap, (K w.params).In base → base.Ns mainGlobals mg → FnOk l.prog w (K w.params) mg base (CX w) k fa fd [x] (sp w))
    (hsp : ∀ (w : World) (H : Hp) (a : Addr) (ns : List Int), ns.length ≤ n → Only H → SqL (K w.params) H a (ns.map V.int) → sp w [.ref a] H (fun v _ => v = .bl true) fun _ _ _ => False)
    (hCX : ∀ (w : World) (H : Hp) (s : Shared) (e : Value) (s' : Shared), CX w [] H s (fun _ _ _ => False) e s' → False) :
    PySem.W.WalkO q loose XP YP l.row.toRowW d [] (fun f vs => PySem.call f vs) := by
  refine Att.attach_call hn hdf fun w s₀ s₁ mg mb fa o pm cd doc a vs ns G Y ho hd hcd hmg hobj hints hlen hg => ?_
  have KX := hY w _ Y
  obtain ⟨fd, hb, hF⟩ := F w mg fa _ KX G.T.g hmg
  exact law_call KX G.T.g G.T.b G.T.builtins G.T.nolimit hg hobj hints (Nat.le_trans hlen hn2) hr hF hb (fun H hO hS => hsp w H a ns hlen hO hS) fun H e s' => hCX w H s₁ e s'
end L2

/- THE LAST THEOREM (shape; LID, My.* are yours):
   My.Adr: a structure of the addresses that your layer names (classes, functions); My.Txt K t: a structure (Prop) of the equations over K;
   My.txt_mk : {K} {implicit addresses ..} (e1 : nsIn K mainGlobals "law" = some (some (.ref f))) (e2 : K.lookup f = some ⟨oc, od, .func (fnOf "law" "law" params body scope dV kV doc pm an cdv ct), sl⟩) (e3 : codeIn K cdv "law" = true) .. : ∃ t, My.Txt K t

set_option maxRecDepth 100000 in
set_option maxHeartbeats 0 in
theorem PySem.Challenge.cw_LID_holds : PySem.Challenge.rw_LID.Holds := by
  w_on; o_law; k_head; (case hw => w_witness2)
  k_fill
  refine L2.walk_of (l := PySem.Challenge.rw_LID) (n := 63) (k := 40) (x := "script") (CX := fun w => ..) (sp := fun _ => My.sp_law) rfl (by decide) rfl ⟨rfl, by decide, by decide⟩ (fun w h Y => PySem.W.kIn_of Y) ?F ?S ?C
  case F =>
    intro w mg fa h KX G hmg
    have T : ∃ t, My.Txt (L2.KOf KX) t := by
      dsimp only [L2.KOf]                          -- K must stand as «<heap const> w.params» for k_is
      refine' My.txt_mk ?e1 ?e2 ?e3 ..
      (case e1 => PySem.W.k_is)                    -- in the order: a name -> its address -> its object -> its parts
      (case e2 => PySem.W.k_is)
      ..
    obtain ⟨t, T⟩ := T
    have e0 := hmg.symm.trans (PySem.W.mg_of KX G T.law)
    cases e0                                       -- fa is the law's own address
    exact ⟨_, fun s u => .of_eq rfl, fun base kb nb => My.law_fn T kb nb⟩     -- if «.of_eq rfl» comes too early: refine' ⟨_, ?b, fun base kb nb => My.law_fn T kb nb⟩; exact fun s u => .of_eq rfl
  case S => exact fun w H a ns hl hO hS => ..
  case C => exact ..
(the tactic k_is has no namespace: write k_is) -/

/-! SHORT WORDS over the layer: a def of the text, its body, what a loop and a test want. -/
namespace L2
open PySem PySem.Spec PyProof.Rows

/-! ### the text by places -/
/-- the j-th statement of a class's body -/
def inClass (s : Stmt) (j : Nat) : Stmt := match s with
  | .ClassDef _ _ _ body _ _ _ _ _ _ _ => body.getD j (.Pass ⟨0, 0, 0, 0⟩)
  | _ => .Pass ⟨0, 0, 0, 0⟩
def defArgs (s : Stmt) : Arguments := match s with
  | .FunctionDef _ a _ _ _ _ _ _ _ _ => a
  | _ => { posonlyargs := [], args := [], vararg := none, kwonlyargs := [], kw_defaults := [], kwarg := none, defaults := [] }
def defBody (s : Stmt) : List Stmt := match s with
  | .FunctionDef _ _ b _ _ _ _ _ _ _ => b
  | _ => []
def defScope (s : Stmt) : Scope := match s with
  | .FunctionDef _ _ _ _ _ _ sc _ _ _ => sc
  | _ => { kind := .function, names := [], isGenerator := false, isCoroutine := false }

/-! ### no exception leaves a def -/
abbrev CX0 : CXT := fun _ _ _ _ _ _ => False
abbrev E0 : XK := fun _ _ _ => False
theorem pass0 {X : Cx} : Passes CX0 X E0 := fun _ _ _ _ _ _ _ h => h.elim

/-! ### a def (or method) of the text as it stands behind the top -/
structure Fun (K : PySem.W.Frag) (x qual : Str) (st : Stmt) (f : Addr) (fd : FuncData) : Prop where
  ex : ∃ (oc : Value) (od : Option Addr) (kV doc pm : Value) (an : Option Addr) (cdv ct : Value) (osl : Array (Option Value)),
    fd = PySem.W.fnOf x qual (defArgs st) (defBody st) (defScope st) .none kV doc pm an cdv ct ∧ K.lookup f = some ⟨oc, od, .func fd, osl⟩ ∧ PySem.W.codeIn K cdv qual = true
  kp : PySem.W.keepIn K (.ref f) = true
section
variable {P : Program} {w : World} {K : PySem.W.Frag} {mg : Str → Option Value} {base : Heap}
/-- THE RULE for a def: its body as a term of rules, and the reading of that term -/
theorem Fun.ok {x qual : Str} {st : Stmt} {f : Addr} {fd : FuncData} {N ps : List Str} {k : Nat} {sp : Sp} (F : Fun K x qual st f fd) (S : FnScope N ps (defScope st)) (len : ∀ vs H Q E, sp vs H Q E → vs.length = ps.length)
    (hbody : ∀ (cdv : Value) (A : Around) (outer : List Env) (s : Shared) (H : Hp) (vs : List V) (Q : VK) (E : XK), Room k (A.deeper (envOfC qual (defScope st) s.heap.objs.size f cdv)) → sp vs H Q E →
      ∃ t, PSs (cxOf CX0 P w K mg base N qual (defScope st) f cdv A outer s H E).nox (defBody st) t ∧ t { nx := fun _ H' => Q .non H', rt := Q } (start N vs) H) : FnOk P w K mg base CX0 (k + 1) f fd ps sp := by
  obtain ⟨oc, od, kV, doc, pm, an, cdv, ct, osl, rfl, lk, hcd⟩ := F.ex
  refine fn_of lk hcd S len fun A outer s H vs Q E hr hsp => ?_
  obtain ⟨t, h, q⟩ := hbody cdv A outer s H vs Q E hr hsp
  exact ⟨t, h.nox, q⟩
/-- how its arguments bind (no defaults): h is «fun _ _ _ _ _ _ us hl => match us, hl with | [_, _], _ => rfl», one _ a parameter -/
theorem Fun.binds {x qual : Str} {st : Stmt} {f : Addr} {fd : FuncData} {ps : List Str} (F : Fun K x qual st f fd)
    (h : ∀ (kV doc pm : Value) (an : Option Addr) (cdv ct : Value) (us : List Value), us.length = ps.length → bindArgs (PySem.W.fnOf x qual (defArgs st) (defBody st) (defScope st) .none kV doc pm an cdv ct) ⟨us, []⟩ = pure (ps.zip us)) : Binds K fd ps [] := by
  obtain ⟨oc, od, kV, doc, pm, an, cdv, ct, osl, rfl, lk, hcd⟩ := F.ex
  exact .all (h kV doc pm an cdv ct)
theorem fun_mk {x qual : Str} {st : Stmt} {f : Addr} {oc : Value} {od an : Option Addr} {osl : Array (Option Value)} {kV doc pm cdv ct : Value} (l : K.lookup f = some ⟨oc, od, .func (PySem.W.fnOf x qual (defArgs st) (defBody st) (defScope st) .none kV doc pm an cdv ct), osl⟩)
    (c : PySem.W.codeIn K cdv qual = true) (k : PySem.W.keepIn K (.ref f) = true) : Fun K x qual st f (PySem.W.fnOf x qual (defArgs st) (defBody st) (defScope st) .none kV doc pm an cdv ct) := ⟨⟨oc, od, kV, doc, pm, an, cdv, ct, osl, rfl, l, c⟩, k⟩
end
theorem hu_of {A : Around} {k : Nat} (hr : Room k A) : A.units + 1 < cLine := Nat.lt_of_le_of_lt (Nat.add_le_add_left (by decide : 1 ≤ 64) _) hr.units
/-! ### expressions in short: the name that stands in the i-th slot -/
section
variable {X : Cx}
/-- len of a dict -/
theorem call_lenD : CallR X (.builtin "len") (fun xs H Q => ∃ a kvs, xs = [V.ref a] ∧ H a = some (.dK kvs) ∧ Q (.int kvs.length) H) := by
  intro pins s σ H xs us Q I r h
  obtain ⟨a, kvs, rfl, ha, q⟩ := h
  obtain ⟨u, rfl, ru⟩ := vals1 r
  cases ru
  exact d_len I (.inl ha) fun t s' I' => ⟨.int kvs.length, H, I', ⟨t, rfl⟩, q⟩
end

/-! ### tests -/
/-! ### heaps -/
/-- all that was tracked is as it was -/
def Same (H H' : Hp) : Prop := ∀ b o, H b = some o → H' b = some o
theorem Same.refl (H : Hp) : Same H H := fun _ _ h => h
theorem Same.trans {H H1 H2 : Hp} (a : Same H H1) (b : Same H1 H2) : Same H H2 := fun c o h => b c o (a c o h)
theorem Same.free {H H' : Hp} (e : Same H H') {l : Addr} (h : H' l = Option.none) : H l = Option.none := by
  cases q : H l with
  | none => rfl
  | some o =>
    rw [e l o q] at h
    cases h
theorem Same.seq {K : PySem.W.Frag} {H H' : Hp} {a : Addr} {xs : List V} (e : Same H H') (h : SqL K H a xs) : SqL K H' a xs := by
  rcases h with (h | ⟨o, h⟩) | h
  · exact .inl (.inl (e _ _ h))
  · exact .inl (.inr ⟨o, e _ _ h⟩)
  · exact .inr h

/-! ### a dict's pairs: keys that differ -/
section
variable {κ : Type} [DecidableEq κ]
end
end L2

set_option maxHeartbeats 4000000
/-! comprehensions over the hand layer -/
namespace L2
open PySem PySem.Spec PyProof.Rows

/-- the cells that a block's free names stand for -/
def clOf (env : Env) : List (Str × NameKind) → List (Str × Addr) → List (Str × Addr)
  | [], acc => acc
  | (n, k) :: r, acc => if (k == NameKind.free) = true then clOf env r ((n, (env.cells.lookup n).getD 0) :: acc) else clOf env r acc

theorem cellOf_eq {env : Env} {n : Str} {c : Addr} (h : env.cells.lookup n = some c) : cellOf env n = pure c := by
  unfold cellOf
  rw [h]

theorem closure_go {env : Env} : ∀ (names : List (Str × NameKind)) (acc : List (Str × Addr)), (∀ x ∈ names, x.2 = .free → ∃ c, env.cells.lookup x.1 = some c) →
    (forIn names acc fun (x : Str × NameKind) (cs : List (Str × Addr)) => (match x with | (name, kind) => if (kind == NameKind.free) = true then (do let __do_lift ← cellOf env name; pure PUnit.unit; pure (ForInStep.yield ((name, __do_lift) :: cs)) : Sem _) else (do pure PUnit.unit; pure (ForInStep.yield cs)) : Sem (ForInStep (List (Str × Addr))))) = pure (clOf env names acc)
  | [], acc, _ => rfl
  | (n, k) :: r, acc, h => by
    have ih := fun a => closure_go r a fun x hx => h x (List.mem_cons_of_mem _ hx)
    rw [List.forIn_cons]
    by_cases hk : (k == NameKind.free) = true
    · obtain ⟨c, hc⟩ := h (n, k) List.mem_cons_self (by simpa using hk)
      simp only [hk, if_true, clOf, cellOf_eq hc, hc, Option.getD_some, pure_bind]
      exact ih _
    · simp only [hk, if_false, clOf, pure_bind]
      exact ih _
theorem closure_of {scope : Scope} {env : Env} (h : ∀ x ∈ scope.names, x.2 = .free → ∃ c, env.cells.lookup x.1 = some c) : closureFor scope env = pure (clOf env scope.names []) := by
  unfold closureFor
  have q := closure_go scope.names [] h
  exact (congrArg (fun m => m >>= pure) q).trans (pure_bind _ _)

theorem clOf_sub {env : Env} : ∀ (names : List (Str × NameKind)) (acc : List (Str × Addr)), (∀ x ∈ names, x.2 = .free → ∃ c, env.cells.lookup x.1 = some c) → (∀ p ∈ acc, env.cells.lookup p.1 = some p.2) →
    ∀ p ∈ clOf env names acc, env.cells.lookup p.1 = some p.2
  | [], acc, _, ha => ha
  | (n, k) :: r, acc, h, ha => by
    by_cases hk : (k == NameKind.free) = true
    · obtain ⟨c, hc⟩ := h (n, k) List.mem_cons_self (by simpa using hk)
      simp only [clOf, hk, if_true]
      refine clOf_sub r _ (fun x hx => h x (List.mem_cons_of_mem _ hx)) fun p hp => ?_
      rcases List.mem_cons.mp hp with rfl | hp
      · show env.cells.lookup n = some _
        rw [hc]; rfl
      · exact ha p hp
    · simp only [clOf, hk, if_false]
      exact clOf_sub r _ (fun x hx => h x (List.mem_cons_of_mem _ hx)) ha
theorem clOf_acc {env : Env} : ∀ (names : List (Str × NameKind)) (acc : List (Str × Addr)) (p : Str × Addr), p ∈ acc → p ∈ clOf env names acc
  | [], _, _, h => h
  | (n, k) :: r, acc, p, h => by
    by_cases hk : (k == NameKind.free) = true
    · simp only [clOf, hk, if_true]
      exact clOf_acc r _ p (List.mem_cons_of_mem _ h)
    · simp only [clOf, hk, if_false]
      exact clOf_acc r _ p h
theorem clOf_has {env : Env} : ∀ (names : List (Str × NameKind)) (acc : List (Str × Addr)) (x : Str), (x, NameKind.free) ∈ names → ∃ c, (x, c) ∈ clOf env names acc
  | (n, k) :: r, acc, x, h => by
    rcases List.mem_cons.mp h with e | h
    · injection e with e1 e2
      subst e1; subst e2
      simp only [clOf, beq_self_eq_true, if_true]
      exact ⟨_, clOf_acc r _ _ List.mem_cons_self⟩
    · by_cases hk : (k == NameKind.free) = true
      · simp only [clOf, hk, if_true]
        exact clOf_has r _ x h
      · simp only [clOf, hk, if_false]
        exact clOf_has r _ x h
theorem lookup_some_of_mem : ∀ {l : List (Str × Addr)} {x : Str} {c : Addr}, (x, c) ∈ l → ∃ d, l.lookup x = some d
  | (n, d) :: r, x, c, h => by
    by_cases e : x == n
    · exact ⟨d, by simp [List.lookup_cons, e]⟩
    · rcases List.mem_cons.mp h with q | q
      · injection q with q1 _
        subst q1
        simp at e
      · obtain ⟨d', hd⟩ := lookup_some_of_mem q
        exact ⟨d', by simp [List.lookup_cons, e, hd]⟩
theorem relabel_look {env : Env} : ∀ {names : List (Str × NameKind)} {x : Str} {k : NameKind},
    (names.map fun (n, k) => if (k == NameKind.free && env.scope.kind == .function && env.kindOf n == some .cell) then (n, NameKind.cell) else (n, k)).lookup x = some k →
    ∃ k', names.lookup x = some k' ∧ (k = k' ∨ k' = .free)
  | [], _, _, h => by simp at h
  | (n, j) :: r, x, k, h => by
    have ih := @relabel_look env r x k
    by_cases hc : (j == NameKind.free && env.scope.kind == .function && env.kindOf n == some .cell) = true
    · simp only [List.map_cons, hc, if_true, List.lookup_cons] at h ⊢
      cases e : x == n with
      | true =>
        rw [e] at h
        refine ⟨j, rfl, .inr ?_⟩
        simp only [Bool.and_eq_true, beq_iff_eq] at hc
        exact hc.1.1
      | false =>
        rw [e] at h
        exact ih h
    · rw [List.map_cons] at h
      dsimp only at h
      rw [if_neg hc, List.lookup_cons] at h
      rw [List.lookup_cons]
      cases e : x == n with
      | true =>
        rw [e] at h
        exact ⟨j, rfl, .inl (by injection h with h; exact h.symm)⟩
      | false =>
        rw [e] at h
        exact ih h
theorem relabel_free {env : Env} : ∀ {names : List (Str × NameKind)} {x : Str}, names.lookup x = some .free →
    (names.map fun (n, k) => if (k == NameKind.free && env.scope.kind == .function && env.kindOf n == some .cell) then (n, NameKind.cell) else (n, k)).lookup x = some .cell ∨
    (names.map fun (n, k) => if (k == NameKind.free && env.scope.kind == .function && env.kindOf n == some .cell) then (n, NameKind.cell) else (n, k)).lookup x = some .free
  | [], _, h => by simp at h
  | (n, j) :: r, x, h => by
    have ih := @relabel_free env r x
    cases e : x == n with
    | true =>
      rw [List.lookup_cons, e] at h
      injection h with h
      subst h
      rw [List.map_cons]
      dsimp only
      split
      · exact .inl (by simp [List.lookup_cons, e])
      · exact .inr (by simp [List.lookup_cons, e])
    | false =>
      rw [List.lookup_cons, e] at h
      rcases ih h with q | q
      · left
        rw [List.map_cons]
        dsimp only
        split <;> simp only [List.lookup_cons, e] <;> exact q
      · right
        rw [List.map_cons]
        dsimp only
        split <;> simp only [List.lookup_cons, e] <;> exact q

/-- the context of a comprehension's block -/
def ccx (X : Cx) (scope : Scope) (N : List Str) (C : Addr) (s : Shared) (H : Hp) (fp : List Addr) : Cx :=
  { X with N := N, s₀ := s, H₀ := H, env := compEnvC scope (clOf X.env scope.names []) C X.env, outer := X.stack, stack := X.stack, ex := fp, fn := fun _ => false, pn := [], xe := fun _ _ => False }

/-- what a block's scope must be: no cells of its own; its free names are cells of ours -/
structure CScope (X : Cx) (scope : Scope) : Prop where
  kind : scope.kind = .function
  nocell : ∀ y ∈ scope.names, y.2 ≠ .cell
  names : ∀ y ∈ scope.names, y.2 = .local → scope.names.lookup y.1 = some .local
  free : ∀ y ∈ scope.names, y.2 = .free → X.env.kindOf y.1 = some .cell ∨ X.env.kindOf y.1 = some .free

section
variable {X : Cx} {pins : List (Addr × Obj)} {σ : St} {H : Hp} {s : Shared}
theorem CScope.has {scope : Scope} (S : CScope X scope) (ok : X.Ok) : ∀ x ∈ scope.names, x.2 = .free → ∃ c, X.env.cells.lookup x.1 = some c := fun x hx h => ok.has _ (S.free x hx h)
theorem cl_sub {scope : Scope} (S : CScope X scope) (ok : X.Ok) {x : Str} {c : Addr} (h : (clOf X.env scope.names []).lookup x = some c) : X.env.cells.lookup x = some c :=
  clOf_sub scope.names [] (S.has ok) (fun p hp => absurd hp (by simp)) (x, c) (PySem.mem_of_lookup h)
theorem cl_free {scope : Scope} (S : CScope X scope) (ok : X.Ok) {x : Str} (h : scope.names.lookup x = some .free) : ∃ c, (clOf X.env scope.names []).lookup x = some c ∧ X.env.cells.lookup x = some c := by
  obtain ⟨c, hc⟩ := clOf_has (env := X.env) scope.names [] x (PySem.mem_of_lookup h)
  obtain ⟨d, hd⟩ := lookup_some_of_mem hc
  exact ⟨d, hd, cl_sub S ok hd⟩

/-- the names of the block: its targets, then free names (sel: their slots in the frame) -/
structure CNames (X : Cx) (scope : Scope) (N : List Str) (k : Nat) (sel : List Nat) : Prop where
  len : N.length = k + sel.length
  fr : ∀ (i j : Nat) (x : Str), sel[i]? = some j → N[k + i]? = some x → X.N[j]? = some x ∧ scope.names.lookup x = some .free
/-- the block's values at a turn's start -/
def cst (σ : St) (k : Nat) (sel : List Nat) : St := List.replicate k none ++ sel.map fun j => (σ[j]?).join
theorem cst_len {k : Nat} {sel : List Nat} : (cst σ k sel).length = k + sel.length := by
  unfold cst; rw [List.length_append, List.length_replicate, List.length_map]

theorem ccx_ok {scope : Scope} {N : List Str} {fp : List Addr} (S : CScope X scope) (I : Inv X pins σ H s) (hf : ∀ b ∈ fp, FpOk X pins H b) (hlt : ∀ b ∈ fp, b < s.heap.objs.size) : (ccx X scope N s.heap.objs.size s H fp).Ok where
  mod := I.ok.mod
  kind := S.kind
  glob := I.ok.glob
  blt := I.ok.blt
  above := Nat.le_refl _
  inj := fun x y c h1 h2 => I.ok.inj x y c (cl_sub S I.ok h1) (cl_sub S I.ok h2)
  has := fun x h => by
    have h' : (relabel scope X.env).names.lookup x = some .cell ∨ (relabel scope X.env).names.lookup x = some .free := h
    rcases h' with h' | h'
    · obtain ⟨k', e, q⟩ := relabel_look h'
      rcases q with q | q
      · subst q
        exact absurd rfl (S.nocell _ (PySem.mem_of_lookup e))
      · subst q
        obtain ⟨c, hc, _⟩ := cl_free S I.ok e
        exact ⟨c, hc⟩
    · obtain ⟨k', e, q⟩ := relabel_look h'
      have : k' = .free := by rcases q with q | q; exact q.symm; exact q
      subst this
      obtain ⟨c, hc, _⟩ := cl_free S I.ok e
      exact ⟨c, hc⟩
  cab := fun x c h => absurd (show false = true from h) (by simp)
  hd := I.ok.hd
  frames := I.ok.frames
  stk := .inl rfl
  exf := fun b hb => ⟨Nat.ne_of_lt (hlt b hb), fun x c h => (hf b hb).2.2.2.2.1 x c (cl_sub S I.ok h)⟩
  bs := I.bs
  bsz := Nat.le_trans I.ok.bsz I.sz
  noex := fun b o e hb => by
    rcases (hf b hb).2.2.2.1 with z | z
    · exact I.ok.noex b o e z
    · exact absurd (Nat.lt_of_lt_of_le (Heap.lt_size e) (Nat.le_trans I.ok.bsz z)) (Nat.lt_irrefl _)
  exfs := fun b hb z => by
    rcases List.mem_cons.mp (I.stkSub b z) with q | q
    · exact (hf b hb).2.1 q
    · exact (hf b hb).2.2.1 q
  funs := I.stack
  frf := I.stkFree

theorem ccx_inv {scope : Scope} {N : List Str} {fp : List Addr} {k : Nat} {sel : List Nat} {h₁ : Heap} {m : Str → Option Value} {t' : Nat} (S : CScope X scope) (M : CNames X scope N k sel) (I : Inv X pins σ H s) (hf : ∀ b ∈ fp, FpOk X pins H b) (hlt : ∀ b ∈ fp, b < s.heap.objs.size)
    (hn : h₁.Ns s.heap.objs.size m) (hk : ∀ b o, s.heap.get? b = some o → h₁.get? b = some o) : Inv (ccx X scope N s.heap.objs.size s H fp) [] (cst σ k sel) H { s with heap := h₁, toks := t' } := by
  refine ⟨ccx_ok S I hf hlt, rfl, I.bare, Un.kept hk, ⟨m, hn, fun i x v e1 e2 e3 => ?_⟩, fun x c e => ?_, I.hok.fresh (Nat.le_refl _), fun x c e => I.freeC x c (cl_sub S I.ok e), fun p hp => absurd (show p ∈ ([] : List (Addr × Obj)) from hp) (by simp), I.hok.kept hk, ?_⟩
  · have hi : k ≤ i := by
      by_cases hi : k ≤ i
      · exact hi
      · unfold cst at e2
        rw [List.getElem?_append_left (by simp; omega), List.getElem?_replicate] at e2
        split at e2 <;> cases e2
    obtain ⟨d, rfl⟩ : ∃ d, i = k + d := ⟨i - k, by omega⟩
    unfold cst at e2
    rw [List.getElem?_append_right (by simp), List.length_replicate, Nat.add_sub_cancel_left, List.getElem?_map] at e2
    cases ej : sel[d]? with
    | none => rw [ej] at e2; cases e2
    | some j =>
      rw [ej] at e2
      have e2' : (σ[j]?).join = some v := Option.some.inj e2
      have e4 : σ[j]? = some (some v) := by
        cases q : σ[j]? with
        | none => rw [q] at e2'; cases e2'
        | some o => rw [q] at e2'; cases o with
          | none => cases e2'
          | some w => cases e2'; rfl
      obtain ⟨hN, hfr⟩ := M.fr d j x ej e1
      obtain ⟨mo, hno, hlo⟩ := I.loc
      have hkind := S.free _ (PySem.mem_of_lookup hfr) rfl
      obtain ⟨u, ru, lu⟩ := hlo j x v hN e4 (by rcases hkind with q | q; exact .inr (.inl q); exact .inr (.inr q))
      obtain ⟨c, hc, hc'⟩ := cl_free S I.ok hfr
      refine ⟨u, ru, .inr ⟨?_, c, hc, ?_⟩⟩
      · exact relabel_free hfr
      · rcases lu with ⟨kl, _⟩ | ⟨_, c', e5, z⟩
        · rcases hkind with q | q
          · rw [kl] at q; cases q
          · rw [kl] at q; cases q
        · rw [hc'] at e5; cases e5
          obtain ⟨o, ho, hd⟩ := z
          exact ⟨o, hk _ _ ho, hd⟩
  · obtain ⟨v, o, ho, hd⟩ := I.cell x c (cl_sub S I.ok e)
    exact ⟨v, o, hk _ _ ho, hd⟩
  · rw [cst_len]; exact M.len.symm
end
end L2

set_option maxHeartbeats 4000000
namespace L2
open PySem PySem.Spec PyProof.Rows

/-- the tests of a comprehension -/
def PTs (X : Cx) (ifs : List Expr) (t : TT) : Prop :=
  ∀ (pins : List (Addr × Obj)) (s : Shared) (σ : St) (H : Hp) (Q : Bool → Hp → Prop), Inv X pins σ H s → t σ H Q →
    wpAny (model X.prog X.w) X.A (forIn ifs true fun c r => if r = true then do let ok ← isTrue c X.env (eval c X.env); pure (ForInStep.yield ok) else pure (ForInStep.yield r)) (TP X pins σ Q) X.xe s
def tTrue : TT := fun _ H Q => Q true H
theorem pts_nil {X : Cx} : PTs X [] tTrue := fun pins s σ H Q I h => wpAny_tests_nil ⟨H, I, h⟩
/-- [elt for tg in iter if ..]: the list stands at p from the start; W: by the turn, a measure, the block's values, the heap -/
def tComp (wi : TI) (k : Nat) (sel : List Nat) (g : TG) (tt : TT) (te : TE) : TE := fun σ H Q => wi σ H fun J H1 => ∀ p, H1 p = none →
  ∃ W : Nat → Nat → St → Hp → Prop, (∃ m, W 0 m (cst σ k sel) (upd H1 p (.lst []))) ∧ ∀ i m σ2 H2, W i m σ2 H2 →
    (J.stop i H2 ∧ Q (.ref p) H2) ∨ (J.go i H2 ∧ ∀ x H3, J.yld i H2 x H3 → g x σ2 H3 fun σ4 H4 => tt σ4 H4 fun b H5 =>
      if b = true then te σ4 H5 fun v H6 => ∃ ys, H6 p = some (.lst ys) ∧ ys.length < sizeLine ∧ ∃ m', m' < m ∧ W (i + 1) m' σ4 (upd H6 p (.lst (ys ++ [v]))) else ∃ m', m' < m ∧ W (i + 1) m' σ4 H5)

theorem comp_loop {X : Cx} {elt tg iter : Expr} {ifs : List Expr} {scope : Scope} {pos : Pos} {it D : Addr} {fp : List Addr} {tn : Nat → Heap → Prop} {J : It} {g : TG} {tt : TT} {te : TE} {W : Nat → Nat → St → Hp → Prop} {R : Result → Shared → Prop} {QQ : Hp → Prop}
    (hx : X.xe = fun _ _ => False) (hc : X.calm = true) (T : Turn X.prog X.w X.K tg J fp it tn) (hg : PG X tg g) (ht : PTs X ifs tt) (he : PE X elt te)
    (hfp : ∀ b ∈ fp, b ≠ X.env.locals ∧ b ∉ X.fs ∧ (b ∈ X.ex ∨ X.s₀.heap.objs.size ≤ b) ∧ (∀ x c, X.env.cells.lookup x = some c → c ≠ b) ∧ ∀ p ∈ X.pn ++ [], p.1 ≠ b)
    (turn : ∀ i m σ2 H2, W i m σ2 H2 →
      (J.stop i H2 ∧ QQ H2) ∨ (J.go i H2 ∧ ∀ x H3, J.yld i H2 x H3 → g x σ2 H3 fun σ4 H4 => tt σ4 H4 fun b H5 =>
        if b = true then te σ4 H5 fun v H6 => ∃ ys, H6 D = some (.lst ys) ∧ ys.length < sizeLine ∧ ∃ m', m' < m ∧ W (i + 1) m' σ4 (upd H6 D (.lst (ys ++ [v]))) else ∃ m', m' < m ∧ W (i + 1) m' σ4 H5))
    (hR : ∀ s' σ' H', Inv X [] σ' H' s' → QQ H' → R (.ok .next) s') {s : Shared} (m0 : Nat) (h : ∃ i σ' H', Inv X [] σ' H' s ∧ tn i s.heap ∧ (∀ b ∈ fp, H' b = none) ∧ W i m0 σ' H') :
    codeAny (model X.prog X.w) X.A (.compLoop (.ListComp elt [⟨tg, iter, ifs, 0⟩] scope pos) 0 (.ref it) (.ref D) X.env) R s := by
  have stat : ∀ {H' : Hp}, (∀ b ∈ fp, H' b = none) → ∀ b ∈ fp, FpOk X [] H' b := fun hn b hb => ⟨hn b hb, hfp b hb⟩
  have noE : ∀ {α : Type} {t : Sem α} {Q : α → Shared → Prop} {E : Value → Shared → Prop} {s : Shared}, wpAny (model X.prog X.w) X.A t Q X.xe s → wpAny (model X.prog X.w) X.A t Q E s := fun {α t Q E s} h => by
    rw [hx] at h
    exact wpAny_noRaise h
  refine codeAny_loop rfl (fun n s' => ∃ i σ' H', Inv X [] σ' H' s' ∧ tn i s'.heap ∧ (∀ b ∈ fp, H' b = none) ∧ W i n σ' H') (fun n s3 hI => ?_) m0 h
  obtain ⟨i, σ3, H3, I3, st3, fr3, w3⟩ := hI
  show wpAny _ X.A ((compTurn (.ListComp elt [⟨tg, iter, ifs, 0⟩] scope pos) 0 (.ref it) (.ref D) X.env).onRaise (fun x => do noteFrame x X.env; theTreesLotGoes x)) _ _ s3
  refine wpAny_noted ?_
  rw [compTurn_list]
  rcases turn i n σ3 H3 w3 with ⟨stop, qn⟩ | ⟨go, step⟩
  · refine wpAny_bind (wpAny_standAt (wpAny_bind (thn (noE (T.done X rfl rfl rfl hc i [] s3 σ3 H3 X.xe I3 (stat fr3) st3 stop)) fun r s4 ⟨hr, I4⟩ => ?_)))
    subst hr
    exact wpAny_pure (hR s4 σ3 H3 I4 qn)
  · refine wpAny_bind (wpAny_standAt (wpAny_bind (thn (noE (T.item X rfl rfl rfl hc i [] s3 σ3 H3 X.xe I3 (stat fr3) st3 go)) fun r s4 ⟨u, hr, h4⟩ => ?_)))
    subst hr
    refine wpAny_bind (thn (noE h4) fun _ s5 ⟨x, H5, I5, r5, y5, st5, fr5⟩ => ?_)
    have I5' := I5.pinned (stat fr5) (T.obj _ _ st5)
    refine wpAny_bind (thn (noE (hg _ s5 σ3 H5 x u _ I5' r5 (step x H5 y5))) fun _ s6 ⟨σ6, H6, I6, q6⟩ => ?_)
    refine wpAny_bind (thn (noE (ht _ s6 σ6 H6 _ I6 q6)) fun ok s7 ⟨H7, I7, q7⟩ => ?_)
    have again : ∀ {s8 : Shared} {H8 : Hp}, Inv X ([] ++ pinsAt fp s5.heap) σ6 H8 s8 → (∃ m', m' < n ∧ W (i + 1) m' σ6 H8) → ∃ m, m < n ∧ ∃ i σ' H', Inv X [] σ' H' s8 ∧ tn i s8.heap ∧ (∀ b ∈ fp, H' b = none) ∧ W i m σ' H' := fun {s8 H8} I8 n8 => by
      obtain ⟨m', hm, w8⟩ := n8
      refine ⟨m', hm, i + 1, σ6, H8, I8.unpinned, T.keep _ _ _ st5 fun b hb o e => (I8.pin (b, o) (List.mem_append_right _ (List.mem_append_right _ (mem_pinsAt hb e)))).1, fun b hb => ?_, w8⟩
      obtain ⟨o, e, d⟩ := T.obj _ _ st5 b hb
      exact (I8.pin (b, o) (List.mem_append_right _ (List.mem_append_right _ (mem_pinsAt hb e)))).2.1
    cases ok with
    | false => exact wpAny_pure ⟨rfl, again I7 q7⟩
    | true =>
      refine wpAny_bind (wpAny_bind (thn (noE (he _ s7 σ6 H7 _ I7 q7)) fun y s8 ⟨v, H8, I8, r8, ys, hys, hl, q8⟩ => ?_))
      refine wpAny_bind (thn (noE (mt_append _ s8 σ6 H8 (.ref D) [v] (.ref D) [y] (fun _ H9 => ∃ m', m' < n ∧ W (i + 1) m' σ6 H9) I8 rfl (.cons r8 .nil) ⟨D, ys, v, rfl, rfl, hys, hl, q8⟩)) fun _ s9 ⟨_, H9, I9, _, q9⟩ => ?_)
      exact wpAny_pure (wpAny_pure ⟨rfl, again I9 q9⟩)

/-- the block's own namespace, left behind -/
structure CFree (X : Cx) (pins : List (Addr × Obj)) (H : Hp) (C : Addr) (s : Shared) : Prop where
  none : H C = Option.none
  ne : C ≠ X.env.locals
  above : X.s₀.heap.objs.size ≤ C
  cells : ∀ x c, X.env.cells.lookup x = some c → c ≠ C
  pins : ∀ p ∈ X.pn ++ pins, p.1 ≠ C
  ns : ∃ m, s.heap.Ns C m

theorem comp_block {X : Cx} {pins : List (Addr × Obj)} {σ : St} {elt tg iter : Expr} {ifs : List Expr} {scope : Scope} {pos : Pos} {N : List Str} {k : Nat} {sel : List Nat} {g : TG} {tt : TT} {te : TE} {itv : Value} {s2 : Shared} {QQ : VK} {use : Option (Value → Sem Unit)} {Qv : Value → Shared → Prop}
    (S : CScope X scope) (M : CNames X scope N k sel) (hc : X.calm = true)
    (hg : ∀ C s H fp, PG (ccx X scope N C s H fp) tg g) (ht : ∀ C s H fp, PTs (ccx X scope N C s H fp) ifs tt) (he : ∀ C s H fp, PE (ccx X scope N C s H fp) elt te)
    (fin : ∀ D C s' H', Inv X pins σ H' s' → CFree X pins H' C s' → QQ (.ref D) H' → compPost (model X.prog X.w) X.A X.xe use Qv (.ref D) C (.ok .next) s')
    (h2 : PIE X pins σ tg (fun J H1 => ∀ p, H1 p = none → ∃ W : Nat → Nat → St → Hp → Prop, (∃ m, W 0 m (cst σ k sel) (upd H1 p (.lst []))) ∧ ∀ i m σ2 H2, W i m σ2 H2 →
      (J.stop i H2 ∧ QQ (.ref p) H2) ∨ (J.go i H2 ∧ ∀ x H3, J.yld i H2 x H3 → g x σ2 H3 fun σ4 H4 => tt σ4 H4 fun b H5 =>
        if b = true then te σ4 H5 fun v H6 => ∃ ys, H6 p = some (.lst ys) ∧ ys.length < sizeLine ∧ ∃ m', m' < m ∧ W (i + 1) m' σ4 (upd H6 p (.lst (ys ++ [v]))) else ∃ m', m' < m ∧ W (i + 1) m' σ4 H5)) itv s2) :
    wpAny (model X.prog X.w) X.A (newList []) (fun acc s₃ => wpAny (model X.prog X.w) X.A (newFunctionEnv scope X.env.globals (clOf X.env scope.names []) [] X.env.qual none .none (some X.env)) (fun cenv s₄ =>
      codeAny (model X.prog X.w) X.A (.compStart (.ListComp elt [⟨tg, iter, ifs, 0⟩] scope pos) 0 itv acc { cenv with scope := relabel scope X.env }) (compPost (model X.prog X.w) X.A X.xe use Qv acc cenv.locals) s₄) X.xe s₃) X.xe s2 := by
  obtain ⟨it, fp, tn, J, H2, rfl, I2, T, st2, f2, R2⟩ := h2
  have hD : H2 s2.heap.objs.size = none := I2.hok.fresh (Nat.le_refl _)
  obtain ⟨W, ⟨m0, w0⟩, turn⟩ := R2 _ hD
  refine wpAny_newObj_type ?_
  have I3 := I2.lnew (its := []) (ys := []) (t' := s2.toks) .nil (Nat.zero_le _)
  generalize hs3 : ({ s2 with heap := s2.heap.push { cls := .type "list", data := .seq ([] : List Value).toArray }, toks := s2.toks } : Shared) = s3 at I3
  have e3 : ({ s2 with heap := s2.heap.push { cls := .type "list", dict := none, data := .seq ([] : List Value).toArray } } : Shared) = s3 := by rw [← hs3]
  have up : ∀ b o, s2.heap.get? b = some o → s3.heap.get? b = some o := fun b o e => by rw [← hs3]; exact Heap.get?_push_of_some _ e
  have hsz : s2.heap.objs.size ≤ s3.heap.objs.size := by rw [← hs3]; show _ ≤ (s2.heap.push _).objs.size; rw [Heap.size_push]; exact Nat.le_succ _
  have hlt2 : ∀ b ∈ fp, b < s2.heap.objs.size := fun b hb => by
    obtain ⟨o, e, _⟩ := T.obj _ _ st2 b hb
    exact Heap.lt_size e
  have hlt : ∀ b ∈ fp, b < s3.heap.objs.size := fun b hb => Nat.lt_of_lt_of_le (hlt2 b hb) hsz
  have f3 : ∀ b ∈ fp, FpOk X pins (upd H2 s2.heap.objs.size (.lst [])) b := fun b hb => ⟨by rw [upd_ne (Nat.ne_of_lt (hlt2 b hb))]; exact (f2 b hb).1, (f2 b hb).2⟩
  refine wpAny_newFunctionEnv S.nocell (by intro y hy; simp at hy) (fun h₁ hns₁ hsb₁ => ?_) S.kind
  have up₁ : ∀ b o, s3.heap.get? b = some o → h₁.get? b = some o := fun b o e => hsb₁.extBut b o (Nat.ne_of_lt (Heap.lt_size e)) (Heap.get?_push_of_some _ e)
  have Ic := ccx_inv (N := N) (k := k) (sel := sel) (t' := s3.toks + ([] : List (Str × Value)).length) S M I3 f3 hlt hns₁ up₁
  have st₁ : tn 0 h₁ := T.keep _ _ _ st2 fun b hb o e => up₁ b o (up b o e)
  have fr : ∀ b ∈ fp, (upd H2 s2.heap.objs.size (.lst [])) b = none := fun b hb => (f3 b hb).1
  have loop : codeAny (model X.prog X.w) X.A (.compLoop (.ListComp elt [⟨tg, iter, ifs, 0⟩] scope pos) 0 (.ref it) (.ref s2.heap.objs.size) (compEnvC scope (clOf X.env scope.names []) s3.heap.objs.size X.env))
      (compPost (model X.prog X.w) X.A X.xe use Qv (.ref s2.heap.objs.size) s3.heap.objs.size) { s3 with heap := h₁, toks := s3.toks + ([] : List (Str × Value)).length } := by
    refine comp_loop (X := ccx X scope N s3.heap.objs.size s3 (upd H2 s2.heap.objs.size (.lst [])) fp) (QQ := fun H' => QQ (.ref s2.heap.objs.size) H') (W := W) rfl hc T (hg _ _ _ _) (ht _ _ _ _) (he _ _ _ _) (fun b hb => ?_) turn (fun s' σ' H' I' q' => ?_) m0 ⟨0, cst σ k sel, _, Ic, st₁, fr, w0⟩
    · refine ⟨Nat.ne_of_lt (hlt b hb), ?_, .inl hb, fun x c h => (f3 b hb).2.2.2.2.1 x c (cl_sub S I3.ok h), fun p hp => absurd (show p ∈ ([] : List (Addr × Obj)) from hp) (by simp)⟩
      exact (ccx_ok (N := N) S I3 f3 hlt).exfs b hb
    · have Ie : Inv X pins σ H' s' := I3.call' (ch := fp) I'.os I'.base I'.hok I'.bare fun b hb => ⟨(f3 b hb).2.2.2.1, (f3 b hb).2.1, (f3 b hb).2.2.2.2.1, (f3 b hb).2.2.2.2.2⟩
      refine fin _ _ s' H' Ie ⟨I'.free, ?_, Nat.le_trans I3.sz (Nat.le_refl _), fun x c e => ?_, fun p hp => ?_, ?_⟩ q'
      · exact Ne.symm (Nat.ne_of_lt I3.lt)
      · obtain ⟨v, o, ho, _⟩ := I3.cell x c e
        exact Nat.ne_of_lt (Heap.lt_size ho)
      · exact Nat.ne_of_lt (Heap.lt_size (I3.pin p hp).1)
      · obtain ⟨m, hn, _⟩ := I'.loc
        exact ⟨m, hn⟩
  exact codeAny_compStart_list loop (T.self X.A 0 _ _ _ st₁ loop)

section
variable {X : Cx} {elt tg iter : Expr} {ifs : List Expr} {scope : Scope} {pos : Pos} {N : List Str} {k : Nat} {sel : List Nat} {wi : TI} {g : TG} {tt : TT} {te : TE}
theorem pe_comp (S : CScope X scope) (M : CNames X scope N k sel) (hc : X.calm = true) (hi : PI X tg iter wi)
    (hg : ∀ C s H fp, PG (ccx X scope N C s H fp) tg g) (ht : ∀ C s H fp, PTs (ccx X scope N C s H fp) ifs tt) (he : ∀ C s H fp, PE (ccx X scope N C s H fp) elt te)
    (hs : ∀ x, foldedSetIterable iter X.env x = pure x := by intro _; rfl) : PE X (.ListComp elt [⟨tg, iter, ifs, 0⟩] scope pos) (tComp wi k sel g tt te) := by
  intro pins s σ H Q I h
  rw [eval_ListComp]
  refine wpAny_comprehension_free (use := none) rfl hs (closure_of (S.has I.ok)) S.kind S.names (thn (hi pins s σ H _ I h) fun v s1 h1 => thn h1 fun itv s2 h2 => ?_)
  refine comp_block (QQ := Q) S M hc hg ht he (fun D C s' H' I' F q => ?_) h2
  obtain ⟨m, hn⟩ := F.ns
  exact ⟨m, hn, fun h' hsb => ⟨.ref D, H', I'.turned (t' := s'.toks) (fun b o hb e => hsb.extBut b o hb e) F.none F.ne (.inr F.above) F.cells F.pins, rfl, q⟩⟩
/-- name = [..], where the name is stored ahead of the block's end -/
theorem ps_setC {i : Nat} {y : Str} {py spos : Pos} (S : CScope X scope) (M : CNames X scope N k sel) (hc : X.calm = true) (hi : PI X tg iter wi)
    (hg : ∀ C s H fp, PG (ccx X scope N C s H fp) tg g) (ht : ∀ C s H fp, PTs (ccx X scope N C s H fp) ifs tt) (he : ∀ C s H fp, PE (ccx X scope N C s H fp) elt te)
    (hN : X.N.Nodup) (hiy : X.N[i]? = some y) (hy : Loc X.env.scope y)
    (hsw : swapsWith (.ListComp elt [⟨tg, iter, ifs, 0⟩] scope pos) (some (.Name y py)) spos.line X.env = pure true)
    (hs : ∀ x, foldedSetIterable iter X.env x = pure x := by intro _; rfl) (hf : X.fn y = true ∨ X.env.scope.names.lookup y = some .local := by first | exact .inl rfl | exact .inr rfl | assumption) :
    PS X (.Assign [.Name y py] (.ListComp elt [⟨tg, iter, ifs, 0⟩] scope pos) spos) (tAsg (tComp wi k sel g tt te) (gName i)) := by
  intro pins s σ H D I h
  rw [exec_Assign_Name_used _ _ _ _ hsw]
  refine wpAny_bind (wpAny_standAt (wpAny_bind ?_))
  show wpAny _ X.A (do let _ ← comprehension (.ListComp elt [⟨tg, iter, ifs, 0⟩] scope pos) scope X.env _ (newList []) false (eval iter X.env) (some (assign (.Name y py) X.env))) _ _ s
  refine wpAny_bind (wpAny_mono (wpAny_comprehension_free (use := some (assign (.Name y py) X.env)) (Q := fun _ s' => SP X pins D .next s') rfl hs (closure_of (S.has I.ok)) S.kind S.names
    (thn (hi pins s σ H _ I h) fun v s1 h1 => thn h1 fun itv s2 h2 => ?_)) (fun _ s' hq => wpAny_pure (wpAny_pure hq)) fun _ _ e => e)
  refine comp_block (QQ := fun v H1 => D.nx (σ.set i (some v)) H1) S M hc hg ht he (fun Da C s' H' I' F q => ?_) h2
  show wpAny _ X.A (assign (.Name y py) X.env (.ref Da)) _ _ _
  refine wpAny_assign_Name (store_ok2 I' hN hiy hy (v := .ref Da) rfl (fun s'' I'' hch => ?_) hf)
  obtain ⟨m, hn⟩ := F.ns
  obtain ⟨a, hsb, ha⟩ := hch
  have haC : C ≠ a := by
    rcases ha with ha | ha
    · rw [ha]; exact F.ne
    · exact Ne.symm (F.cells _ _ ha)
  refine ⟨m, hn.sameBut hsb haC, fun h' hsb' => ⟨σ.set i (some (.ref Da)), H', I''.turned (t' := s''.toks) (fun b o hb e => hsb'.extBut b o hb e) F.none F.ne (.inr F.above) F.cells F.pins, q⟩⟩
end
end L2

set_option maxHeartbeats 4000000
/-! readings that compute: one rule for each operation, by cases of its values -/
namespace L2
open PySem PySem.Spec PyProof.Rows

section
variable {X : Cx}
theorem PE.imp {e : Expr} {t t' : TE} (h : PE X e t) (f : ∀ σ H Q, t' σ H Q → t σ H Q) : PE X e t' := fun pins s σ H Q I q => h pins s σ H Q I (f σ H Q q)
theorem PT.imp {e : Expr} {t t' : TT} (h : PT X e t) (f : ∀ σ H Q, t' σ H Q → t σ H Q) : PT X e t' := fun pins s σ H Q I q => h pins s σ H Q I (f σ H Q q)
theorem OpR.imp {g : Value → Value → Sem Value} {r r' : R2} (h : OpR X g r) (f : ∀ x y H Q, r' x y H Q → r x y H Q) : OpR X g r' := fun pins s σ H x y v u Q I rx ry q => h pins s σ H x y v u Q I rx ry (f x y H Q q)
theorem CallR.imp {g : Value} {r r' : List V → Hp → VK → Prop} (h : CallR X g r) (f : ∀ xs H Q, r' xs H Q → r xs H Q) : CallR X g r' := fun pins s σ H xs us Q I rx q => h pins s σ H xs us Q I rx (f xs H Q q)
theorem IxR.imp {r r' : R2} (h : IxR X r) (f : ∀ x y H Q, r' x y H Q → r x y H Q) : IxR X r' := fun value slice pins s σ H x y v u Q I rx ry q => h value slice pins s σ H x y v u Q I rx ry (f x y H Q q)
theorem SlR.imp {r r' : V → Option Int → Option Int → Hp → VK → Prop} (h : SlR X r) (f : ∀ x lo hi H Q, r' x lo hi H Q → r x lo hi H Q) : SlR X r' := fun pins s σ H x v vl vu lo hi sl Q I rx hs pl pu q => h pins s σ H x v vl vu lo hi sl Q I rx hs pl pu (f x lo hi H Q q)

/-! names -/
def cVar (i : Nat) : TE := fun σ H Q => match σ[i]? with | some (some v) => Q v H | _ => False
theorem cVar_of {i : Nat} {σ : St} {H : Hp} {Q : VK} (h : cVar i σ H Q) : tVar i σ H Q := by
  unfold cVar at h
  split at h
  · exact ⟨_, by assumption, h⟩
  · exact h.elim
theorem cv (i : Nat) {x : Str} {pos : Pos} (hN : X.N[i]? = some x := by rfl) (hv : Vis X.env.scope x := by first | exact Or.inl rfl | exact Or.inr (Or.inl rfl) | exact Or.inr (Or.inr rfl)) (hd : (x == ("__debug__" : Str)) = false := by decide)
    (hcd : (x == ("__classdict__" : Str)) = false := by decide) : PE X (.Name x pos) (cVar i) := (pe_var hN hv hd hcd).imp fun _ _ _ h => cVar_of h

/-! ints -/
def cI2 (f : Int → Int → V) : R2 := fun x y H Q => match x, y with | .int i, .int j => Q (f i j) H | _, _ => False
def cI2c (C : Int → Int → Prop) (f : Int → Int → V) : R2 := fun x y H Q => match x, y with | .int i, .int j => C i j ∧ Q (f i j) H | _, _ => False
theorem cI2_of {f : Int → Int → V} {x y : V} {H : Hp} {Q : VK} (h : cI2 f x y H Q) : rI0 f x y H Q := by
  cases x <;> cases y <;> first | exact False.elim h | exact ⟨_, _, rfl, rfl, h⟩
theorem cI2c_of {C : Int → Int → Prop} {f : Int → Int → V} {x y : V} {H : Hp} {Q : VK} (h : cI2c C f x y H Q) : rI C f x y H Q := by
  cases x <;> cases y <;> first | exact False.elim h | exact ⟨_, _, rfl, rfl, h.1, h.2⟩
theorem o_sub : OpR X (binaryOp .Sub) (cI2 fun i j => .int (i - j)) := op_sub.imp fun _ _ _ _ h => cI2_of h
theorem o_fdiv : OpR X (binaryOp .FloorDiv) (cI2c CDiv fun i j => .int (i / j)) := op_fdiv.imp fun _ _ _ _ h => cI2c_of h
theorem o_mod : OpR X (binaryOp .Mod) (cI2c (fun _ j => 0 < j) fun i j => .int (i % j)) := op_mod.imp fun _ _ _ _ h => cI2c_of h
theorem o_shl : OpR X (binaryOp .LShift) (cI2c CPow fun i j => .int (i * 2 ^ j.toNat)) := op_shl.imp fun _ _ _ _ h => cI2c_of h
theorem o_shr : OpR X (binaryOp .RShift) (cI2c (fun _ j => 0 ≤ j) fun i j => .int (i / 2 ^ j.toNat)) := op_shr.imp fun _ _ _ _ h => cI2c_of h
theorem o_and : OpR X (binaryOp .BitAnd) (cI2 fun i j => .int (Builtin.bitAnd i j)) := op_and.imp fun _ _ _ _ h => cI2_of h
theorem o_or : OpR X (binaryOp .BitOr) (cI2 fun i j => .int (Builtin.bitOr i j)) := op_or.imp fun _ _ _ _ h => cI2_of h
theorem o_xor : OpR X (binaryOp .BitXor) (cI2 fun i j => .int (Builtin.bitXor i j)) := op_xor.imp fun _ _ _ _ h => cI2_of h
theorem o_lt : OpR X (compareOp .Lt) (cI2 fun i j => .bl (decide (i < j))) := op_lt.imp fun _ _ _ _ h => cI2_of h
theorem o_le : OpR X (compareOp .LtE) (cI2 fun i j => .bl (decide (i ≤ j))) := op_le.imp fun _ _ _ _ h => cI2_of h
theorem o_ge : OpR X (compareOp .GtE) (cI2 fun i j => .bl (decide (j ≤ i))) := op_ge.imp fun _ _ _ _ h => cI2_of h
def cAdd : R2 := fun x y H Q => match x, y with
  | .int i, .int j => Q (.int (i + j)) H
  | .str i, .str j => i.length + j.length ≤ sizeLine ∧ Q (.str (i ++ j)) H
  | .ref l, .ref b => ∃ xs zs, H l = some (.lst xs) ∧ H b = some (.lst zs) ∧ xs.length + zs.length ≤ sizeLine ∧ ∀ p, H p = none → Q (.ref p) (upd H p (.lst (xs ++ zs)))
  | _, _ => False
theorem o_add : OpR X (binaryOp .Add) cAdd := by
  intro pins s σ H x y v u Q I rx ry h
  cases x <;> cases y <;> first
    | exact False.elim h
    | exact op_add pins s σ H _ _ v u Q I rx ry ⟨_, _, rfl, rfl, h⟩
    | exact op_add_str pins s σ H _ _ v u Q I rx ry ⟨_, _, rfl, rfl, h.1, h.2⟩
    | (obtain ⟨xs, zs, h1, h2, h3, h4⟩ := h; exact op_cat pins s σ H _ _ v u Q I rx ry ⟨_, _, xs, zs, rfl, rfl, h1, h2, h3, h4⟩)

/-! == and != -/
/-- two things that are alike all through -/
inductive DeepEq (K : PySem.W.Frag) (H : Hp) : Nat → V → V → Prop where
  | flat {n : Nat} {x : V} (f : flatV x = true) : DeepEq K H n x x
  | lst {n : Nat} {a b : Addr} {xs ys : List V} (h1 : SqL K H a xs) (h2 : SqL K H b ys) (hl : xs.length = ys.length) (h : ∀ (i : Nat) x y, xs[i]? = some x → ys[i]? = some y → DeepEq K H n x y) : DeepEq K H (n + 1) (.ref a) (.ref b)
  | tup {n : Nat} {a b : Addr} {xs ys : List V} (h1 : SqT K H a xs) (h2 : SqT K H b ys) (hl : xs.length = ys.length) (h : ∀ (i : Nat) x y, xs[i]? = some x → ys[i]? = some y → DeepEq K H n x y) : DeepEq K H (n + 1) (.ref a) (.ref b)
theorem isListOf {pins : List (Addr × Obj)} {σ : St} {H : Hp} {s : Shared} {a : Addr} {xs : List V} (I : Inv X pins σ H s) (h : SqL X.K H a xs) : ∃ its : List Value, Vals xs its ∧ s.heap.IsList a its.toArray := by
  obtain ⟨its, r, p, _⟩ := I.list h
  exact ⟨its, r, p.isList⟩
theorem units_in1 {A : Around} {n : Nat} (h : A.units + (n + 1) < cLine) : A.in1.units + n < cLine := by
  have e : A.in1.units = A.units + 1 := rfl
  omega
theorem deep_rc {pins : List (Addr × Obj)} {σ : St} {H : Hp} {s : Shared} (I : Inv X pins σ H s) : ∀ {n : Nat} {x y : V}, DeepEq X.K H n x y → ∀ (A : Around) {u v : Value}, A.units + n < cLine → RelV x u → RelV y v → SeqAt.EqAt A s u v true
  | _, _, _, .flat f, A, u, v, hu, rx, ry => by
    have e := eqAt_V (A := A) (s := s) rx ry f f
    rename_i n x
    have q : eqV x x = true := by cases x <;> first | rfl | (simp [eqV]; done) | exact absurd f (by simp [flatV])
    rw [q] at e
    exact e
  | _, _, _, @DeepEq.lst _ _ n a b xs ys h1 h2 hl h, A, u, v, hu, rx, ry => by
    cases rx; cases ry
    by_cases hab : a = b
    · subst hab; exact SeqAt.EqAt.same _
    · obtain ⟨its, r1, p1⟩ := isListOf I h1
      obtain ⟨its2, r2, p2⟩ := isListOf I h2
      have e1 := r1.length
      have e2 := r2.length
      have q := SeqAt.RcAt.lists (A := A) (e := fun _ => true) p1 p2 (by simp; omega) (by omega) (fun j j1 j2 => by
        have j1' : j < its.length := by simpa using j1
        have j2' : j < its2.length := by simpa using j2
        obtain ⟨w1, q1, s1⟩ := r1.get (i := j) (x := xs[j]'(by omega)) (by simp)
        obtain ⟨w2, q2, s2⟩ := r2.get (i := j) (x := ys[j]'(by omega)) (by simp)
        have z1 : its.toArray[j] = w1 := by
          have := List.getElem?_eq_some_iff.mp q1
          obtain ⟨_, z⟩ := this
          simpa using z
        have z2 : its2.toArray[j] = w2 := by
          have := List.getElem?_eq_some_iff.mp q2
          obtain ⟨_, z⟩ := this
          simpa using z
        rw [z1, z2]
        exact deep_rc I (h j _ _ (by simp) (by simp)) A.in1 (units_in1 hu) s1 s2)
      have : ((List.range its.toArray.size).all fun _ => true) = true := by simp
      rw [this] at q
      exact SeqAt.EqAt.of_refs hab q
  | _, _, _, @DeepEq.tup _ _ n a b xs ys h1 h2 hl h, A, u, v, hu, rx, ry => by
    cases rx; cases ry
    by_cases hab : a = b
    · subst hab; exact SeqAt.EqAt.same _
    · obtain ⟨its, r1, p1, _⟩ := I.tuple h1
      obtain ⟨its2, r2, p2, _⟩ := I.tuple h2
      have e1 := r1.length
      have e2 := r2.length
      have q := SeqAt.RcAt.tuples (A := A) (e := fun _ => true) p1 p2 (by omega) (fun j j1 j2 => by
        have j1' : j < its.length := by simpa using j1
        have j2' : j < its2.length := by simpa using j2
        obtain ⟨w1, q1, s1⟩ := r1.get (i := j) (x := xs[j]'(by omega)) (by simp)
        obtain ⟨w2, q2, s2⟩ := r2.get (i := j) (x := ys[j]'(by omega)) (by simp)
        have z1 : its.toArray[j] = w1 := by
          have := List.getElem?_eq_some_iff.mp q1
          obtain ⟨_, z⟩ := this
          simpa using z
        have z2 : its2.toArray[j] = w2 := by
          have := List.getElem?_eq_some_iff.mp q2
          obtain ⟨_, z⟩ := this
          simpa using z
        rw [z1, z2]
        exact deep_rc I (h j _ _ (by simp) (by simp)) A.in1 (units_in1 hu) s1 s2)
      have : (((List.range (min its.toArray.size its2.toArray.size)).all fun _ => true) && its.toArray.size == its2.toArray.size) = true := by simp; omega
      rw [this] at q
      exact SeqAt.EqAt.of_refs hab q
end
end L2

set_option maxHeartbeats 4000000
namespace L2
open PySem PySem.Spec PyProof.Rows

section
variable {X : Cx} {a b c : Expr} {ta tb tc : TE} {pos : Pos}
/-- == of two lists of flat things -/
def eqVs (xs ys : List V) : Bool := xs.length == ys.length && (List.range xs.length).all fun i => eqV (xs.getD i .non) (ys.getD i .non)
theorem eqVs_range {xs ys : List V} {us ws : List Value} (r1 : Vals xs us) (r2 : Vals ys ws) (f1 : xs.all flatV = true) (f2 : ys.all flatV = true) (A : Around) (s : Shared) :
    ∀ j (h1 : j < us.toArray.size) (h2 : j < ws.toArray.size), SeqAt.EqAt A s us.toArray[j] ws.toArray[j] (eqV (xs.getD j .non) (ys.getD j .non)) := fun j j1 j2 => by
  have e1 := r1.length
  have e2 := r2.length
  have j1' : j < us.length := by simpa using j1
  have j2' : j < ws.length := by simpa using j2
  have x1 : j < xs.length := by omega
  have y1 : j < ys.length := by omega
  obtain ⟨w1, q1, s1⟩ := r1.get (i := j) (x := xs[j]) (by simp)
  obtain ⟨w2, q2, s2⟩ := r2.get (i := j) (x := ys[j]) (by simp)
  have z1 : us.toArray[j] = w1 := by
    obtain ⟨_, z⟩ := List.getElem?_eq_some_iff.mp q1
    simpa using z
  have z2 : ws.toArray[j] = w2 := by
    obtain ⟨_, z⟩ := List.getElem?_eq_some_iff.mp q2
    simpa using z
  rw [z1, z2]
  have g1 : xs.getD j .non = xs[j] := by simp [List.getD, x1]
  have g2 : ys.getD j .non = ys[j] := by simp [List.getD, y1]
  rw [g1, g2]
  exact eqAt_V s1 s2 (List.all_eq_true.mp f1 _ (List.getElem_mem _)) (List.all_eq_true.mp f2 _ (List.getElem_mem _))
/-- the answer of == for two objects -/
def EqRef (K : PySem.W.Frag) (H : Hp) (p q : Addr) (k : Bool) : Prop :=
  (k = true ∧ DeepEq K H 4 (.ref p) (.ref q)) ∨
  (∃ xs ys, SqL K H p xs ∧ SqL K H q ys ∧ xs.all flatV = true ∧ ys.all flatV = true ∧ k = eqVs xs ys) ∨
  (k = false ∧ ∃ xs ys, SqL K H p xs ∧ SqL K H q ys ∧ xs.length ≠ ys.length) ∨
  (∃ xs ys, SqT K H p xs ∧ SqT K H q ys ∧ xs.all flatV = true ∧ ys.all flatV = true ∧ k = eqVs xs ys)
theorem eqRef_rc {pins : List (Addr × Obj)} {σ : St} {H : Hp} {s : Shared} {p q : Addr} {k : Bool} (I : Inv X pins σ H s) (hu : X.A.units + 8 < cLine) (h : EqRef X.K H p q k) :
    SeqAt.RcAt X.A s (.ref p) (.ref q) k ∧ SeqAt.RcNeAt X.A s (.ref p) (.ref q) (!k) := by
  have deep : ∀ {xs ys : List V} {n : Nat}, n ≤ 4 → (SqL X.K H p xs ∧ SqL X.K H q ys ∨ SqT X.K H p xs ∧ SqT X.K H q ys) → xs.length = ys.length → (∀ (i : Nat) x y, xs[i]? = some x → ys[i]? = some y → DeepEq X.K H n x y) →
      SeqAt.RcAt X.A s (.ref p) (.ref q) true ∧ SeqAt.RcNeAt X.A s (.ref p) (.ref q) (!true) := fun {xs ys n} hn hq hl hd => by
    have items : ∀ {us ws : List Value}, Vals xs us → Vals ys ws → ∀ j (h1 : j < us.toArray.size) (h2 : j < ws.toArray.size), SeqAt.EqAt X.A.in1 s us.toArray[j] ws.toArray[j] true := fun {us ws} r1 r2 j j1 j2 => by
      have e1 := r1.length
      have e2 := r2.length
      have j1' : j < us.length := by simpa using j1
      have j2' : j < ws.length := by simpa using j2
      obtain ⟨w1, q1, s1⟩ := r1.get (i := j) (x := xs[j]'(by omega)) (by simp)
      obtain ⟨w2, q2, s2⟩ := r2.get (i := j) (x := ys[j]'(by omega)) (by simp)
      have z1 : us.toArray[j] = w1 := by
        obtain ⟨_, z⟩ := List.getElem?_eq_some_iff.mp q1
        simpa using z
      have z2 : ws.toArray[j] = w2 := by
        obtain ⟨_, z⟩ := List.getElem?_eq_some_iff.mp q2
        simpa using z
      rw [z1, z2]
      exact deep_rc I (hd j _ _ (by simp) (by simp)) X.A.in1 (by have e : X.A.in1.units = X.A.units + 1 := rfl; omega) s1 s2
    rcases hq with ⟨h1, h2⟩ | ⟨h1, h2⟩
    · obtain ⟨its, r1, p1⟩ := isListOf I h1
      obtain ⟨its2, r2, p2⟩ := isListOf I h2
      have e1 := r1.length
      have e2 := r2.length
      have z : ((List.range its.toArray.size).all fun _ => true) = true := by simp
      have a1 := SeqAt.RcAt.lists (A := X.A) (e := fun _ => true) p1 p2 (by simp; omega) (by omega) (items r1 r2)
      have a2 := SeqAt.RcNeAt.lists (A := X.A) (e := fun _ => true) p1 p2 (by simp; omega) (by omega) (items r1 r2)
      rw [z] at a1 a2
      exact ⟨a1, a2⟩
    · obtain ⟨its, r1, p1, _⟩ := I.tuple h1
      obtain ⟨its2, r2, p2, _⟩ := I.tuple h2
      have e1 := r1.length
      have e2 := r2.length
      have z : (((List.range (min its.toArray.size its2.toArray.size)).all fun _ => true) && its.toArray.size == its2.toArray.size) = true := by simp; omega
      have a1 := SeqAt.RcAt.tuples (A := X.A) (e := fun _ => true) p1 p2 (by omega) (items r1 r2)
      have a2 := SeqAt.RcNeAt.tuples (A := X.A) (e := fun _ => true) p1 p2 (by omega) (items r1 r2)
      rw [z] at a1 a2
      exact ⟨a1, a2⟩
  have flatL : ∀ {xs ys : List V}, SqL X.K H p xs → SqL X.K H q ys → xs.length ≠ ys.length → SeqAt.RcAt X.A s (.ref p) (.ref q) false ∧ SeqAt.RcNeAt X.A s (.ref p) (.ref q) (!false) := fun {xs ys} h1 h2 hl => by
    obtain ⟨its, r1, p1⟩ := isListOf I h1
    obtain ⟨its2, r2, p2⟩ := isListOf I h2
    have e1 := r1.length
    have e2 := r2.length
    have z : (its.toArray.size != its2.toArray.size) = true := by simp; omega
    exact ⟨SeqAt.RcAt.lists_lengths p1 p2 z (by omega), SeqAt.RcNeAt.lists_lengths p1 p2 z (by omega)⟩
  rcases h with ⟨rfl, h⟩ | ⟨xs, ys, h1, h2, f1, f2, rfl⟩ | ⟨rfl, xs, ys, h1, h2, hl⟩ | ⟨xs, ys, h1, h2, f1, f2, rfl⟩
  · cases h with
    | flat f => simp [flatV] at f
    | lst h1 h2 hl hd => exact deep (by decide) (.inl ⟨h1, h2⟩) hl hd
    | tup h1 h2 hl hd => exact deep (by decide) (.inr ⟨h1, h2⟩) hl hd
  · by_cases hl : xs.length = ys.length
    · obtain ⟨its, r1, p1⟩ := isListOf I h1
      obtain ⟨its2, r2, p2⟩ := isListOf I h2
      have e1 := r1.length
      have e2 := r2.length
      have z : eqVs xs ys = (List.range its.toArray.size).all fun i => eqV (xs.getD i .non) (ys.getD i .non) := by
        unfold eqVs
        rw [List.size_toArray, ← e1, hl]
        simp
      rw [z]
      exact ⟨SeqAt.RcAt.lists p1 p2 (by simp; omega) (by omega) (eqVs_range r1 r2 f1 f2 _ _), SeqAt.RcNeAt.lists p1 p2 (by simp; omega) (by omega) (eqVs_range r1 r2 f1 f2 _ _)⟩
    · have z : eqVs xs ys = false := by unfold eqVs; simp [hl]
      rw [z]
      exact flatL h1 h2 hl
  · exact flatL h1 h2 hl
  · obtain ⟨its, r1, p1, _⟩ := I.tuple h1
    obtain ⟨its2, r2, p2, _⟩ := I.tuple h2
    have e1 := r1.length
    have e2 := r2.length
    by_cases hl : xs.length = ys.length
    · have z : eqVs xs ys = ((List.range (min its.toArray.size its2.toArray.size)).all (fun i => eqV (xs.getD i .non) (ys.getD i .non)) && its.toArray.size == its2.toArray.size) := by
        unfold eqVs
        rw [List.size_toArray, List.size_toArray, ← e1, ← e2, hl]
        simp
      rw [z]
      exact ⟨SeqAt.RcAt.tuples p1 p2 (by omega) (eqVs_range r1 r2 f1 f2 _ _), SeqAt.RcNeAt.tuples p1 p2 (by omega) (eqVs_range r1 r2 f1 f2 _ _)⟩
    · have z : eqVs xs ys = ((List.range (min its.toArray.size its2.toArray.size)).all (fun i => eqV (xs.getD i .non) (ys.getD i .non)) && its.toArray.size == its2.toArray.size) := by
        have z1 : eqVs xs ys = false := by unfold eqVs; simp [hl]
        have z2 : (its.toArray.size == its2.toArray.size) = false := by simp; omega
        rw [z1, z2, Bool.and_false]
      rw [z]
      exact ⟨SeqAt.RcAt.tuples p1 p2 (by omega) (eqVs_range r1 r2 f1 f2 _ _), SeqAt.RcNeAt.tuples p1 p2 (by omega) (eqVs_range r1 r2 f1 f2 _ _)⟩

def cEq (K : PySem.W.Frag) : R2 := fun x y H Q => match x, y with
  | .int i, .int j => Q (.bl (decide (i = j))) H
  | .bl i, .bl j => Q (.bl (decide (i = j))) H
  | .str i, .str j => Q (.bl (decide (i = j))) H
  | .non, .non => Q (.bl true) H
  | .non, .int _ => Q (.bl false) H
  | .int _, .non => Q (.bl false) H
  | .non, .str _ => Q (.bl false) H
  | .str _, .non => Q (.bl false) H
  | .non, .bl _ => Q (.bl false) H
  | .bl _, .non => Q (.bl false) H
  | .ref p, .ref q => ∃ k, EqRef K H p q k ∧ Q (.bl k) H
  | _, _ => False
def cNe (K : PySem.W.Frag) : R2 := fun x y H Q => match x, y with
  | .int i, .int j => Q (.bl (!decide (i = j))) H
  | .bl i, .bl j => Q (.bl (!decide (i = j))) H
  | .str i, .str j => Q (.bl (!decide (i = j))) H
  | .non, .non => Q (.bl false) H
  | .non, .int _ => Q (.bl true) H
  | .int _, .non => Q (.bl true) H
  | .non, .str _ => Q (.bl true) H
  | .str _, .non => Q (.bl true) H
  | .non, .bl _ => Q (.bl true) H
  | .bl _, .non => Q (.bl true) H
  | .ref p, .ref q => ∃ k, EqRef K H p q k ∧ Q (.bl (!k)) H
  | _, _ => False
theorem dcI {i j : Int} : decide (V.int i = V.int j) = decide (i = j) := by rw [decide_eq_decide]; exact ⟨V.int.inj, congrArg _⟩
theorem dcB {i j : Bool} : decide (V.bl i = V.bl j) = decide (i = j) := by rw [decide_eq_decide]; exact ⟨V.bl.inj, congrArg _⟩
theorem dcS {i j : Str} : decide (V.str i = V.str j) = decide (i = j) := by rw [decide_eq_decide]; exact ⟨V.str.inj, congrArg _⟩
theorem o_eq (hu : X.A.units + 8 < cLine) : OpR X (compareOp .Eq) (cEq X.K) := by
  intro pins s σ H x y v u Q I rx ry h
  have go : rEq x y H Q → wpAny (model X.prog X.w) X.A (compareOp .Eq v u) (EP X pins σ Q) X.xe s := fun q => op_eq pins s σ H _ _ v u Q I rx ry q
  cases x <;> cases y <;> first
    | exact False.elim h
    | exact go ⟨rfl, h⟩
    | exact go ⟨rfl, by rw [dcI]; exact h⟩
    | exact go ⟨rfl, by rw [dcB]; exact h⟩
    | exact go ⟨rfl, by rw [dcS]; exact h⟩
    | (obtain ⟨k, e, q⟩ := h
       cases rx; cases ry
       exact (eqRef_rc I hu e).1 _ _ _ _ ⟨.bl k, H, I, rfl, q⟩)
theorem o_ne (hu : X.A.units + 8 < cLine) : OpR X (compareOp .NotEq) (cNe X.K) := by
  intro pins s σ H x y v u Q I rx ry h
  have go : rNe x y H Q → wpAny (model X.prog X.w) X.A (compareOp .NotEq v u) (EP X pins σ Q) X.xe s := fun q => op_ne pins s σ H _ _ v u Q I rx ry q
  cases x <;> cases y <;> first
    | exact False.elim h
    | exact go ⟨rfl, h⟩
    | exact go ⟨rfl, by rw [dcI]; exact h⟩
    | exact go ⟨rfl, by rw [dcB]; exact h⟩
    | exact go ⟨rfl, by rw [dcS]; exact h⟩
    | (obtain ⟨k, e, q⟩ := h
       cases rx; cases ry
       exact (eqRef_rc I hu e).2 _ _ _ _ ⟨.bl (!k), H, I, rfl, q⟩)
/-! is, is not -/
/-! in, not in -/
/-! truth, tests -/
def cBool (x : V) (k : Bool → Prop) : Prop := match x with | .bl b => k b | _ => False
theorem cBool_of {x : V} {k : Bool → Prop} (h : cBool x k) : ∃ b, x = .bl b ∧ k b := by
  cases x <;> first | exact False.elim h | exact ⟨_, rfl, h⟩
def cTst (t : TE) : TT := fun σ H Q => t σ H fun x H' => cBool x fun k => Q k H'
def cTru (K : PySem.W.Frag) (t : TE) : TT := fun σ H Q => t σ H fun x H' => match x with
  | .non => Q false H'
  | .bl b => Q b H'
  | .int i => Q (decide (i ≠ 0)) H'
  | .str y => y.length ≤ sizeLine ∧ Q (decide (y.length ≠ 0)) H'
  | .ref p => ∃ k, TruV K (.ref p) H' k ∧ Q k H'
  | .byt p => ∃ k, TruV K (.byt p) H' k ∧ Q k H'
  | _ => False
theorem pt_tru {t : TE} (ha : PE X a t) (he : ∀ whole, isTrue a X.env whole = (do let v ← whole; standAt a.pos; holding [v] (truthy v)) := by intro _; rfl) : PT X a (cTru X.K t) := by
  have h := pt_truth ha he
  have e : cTru X.K t = (fun σ H Q => t σ H fun x H' => ∃ k, TruV X.K x H' k ∧ Q k H') := by
    funext σ H Q
    unfold cTru
    congr 1
    funext x H'
    apply propext
    cases x with
    | non => exact ⟨fun q => ⟨false, rfl, q⟩, fun ⟨k, h1, h2⟩ => by have h1 : k = false := h1; subst h1; exact h2⟩
    | bl b => exact ⟨fun q => ⟨b, rfl, q⟩, fun ⟨k, h1, h2⟩ => by have h1 : k = b := h1; subst h1; exact h2⟩
    | int i =>
      have z : decide (i ≠ 0) = (i != 0) := by by_cases e : i = 0 <;> simp [e]
      exact ⟨fun q => ⟨decide (i ≠ 0), z, q⟩, fun ⟨k, h1, h2⟩ => by have h1 : k = (i != 0) := h1; rw [← z] at h1; subst h1; exact h2⟩
    | str y =>
      have z : decide (y.length ≠ 0) = ((y.length : Int) != 0) := by
        by_cases e : y.length = 0
        · simp [e]
        · have : (y.length : Int) ≠ 0 := by omega
          simp [e, this]
      exact ⟨fun q => ⟨decide (y.length ≠ 0), ⟨q.1, z⟩, q.2⟩, fun ⟨k, h1, h2⟩ => by
        have h1 : y.length ≤ sizeLine ∧ k = ((y.length : Int) != 0) := h1
        obtain ⟨h0, h1⟩ := h1
        rw [← z] at h1; subst h1; exact ⟨h0, h2⟩⟩
    | ref p => exact Iff.rfl
    | byt y => exact Iff.rfl
    | flt y => exact ⟨fun q => q.elim, fun ⟨k, h1, h2⟩ => h1.elim⟩
    | ty y => exact ⟨fun q => q.elim, fun ⟨k, h1, h2⟩ => h1.elim⟩
  rw [e]
  exact h

theorem cBool_eq {x : V} {k : Bool → Prop} : cBool x k = ∃ b, x = .bl b ∧ k b := propext ⟨cBool_of, fun ⟨b, e, q⟩ => by subst e; exact q⟩
theorem cTst_eq (t : TE) : cTst t = tTest t := by
  funext σ H Q
  unfold cTst tTest
  congr 1
  funext x H'
  exact cBool_eq
theorem t_cmp {op : CmpOp} {r : R2} (ho : OpR X (compareOp op) r) (ha : PE X a ta) (hb : PE X b tb) (hm : behindInMarks op b = false) : PT X (.Compare a [op] [b] pos) (cTst (tOp r ta tb)) := by
  rw [cTst_eq]
  exact pt_cmpR ho ha hb hm
def cChain (r r' : R2) (ta tb tc : TE) : TE := fun σ H Q => ta σ H fun x H1 => tb σ H1 fun y H2 => r x y H2 fun z H3 => cBool z fun k =>
  (if k = true then tc σ H3 fun w' H4 => r' y w' H4 Q else Q (.bl false) H3)
theorem cChain_eq (r r' : R2) (ta tb tc : TE) : cChain r r' ta tb tc = tChain r r' ta tb tc := by
  funext σ H Q
  unfold cChain tChain
  congr 1
  funext x H1
  congr 1
  funext y H2
  congr 1
  funext z H3
  exact cBool_eq
theorem e_chain {op op' : CmpOp} {r r' : R2} (ho : OpR X (compareOp op) r) (ho' : OpR X (compareOp op') r') (ha : PE X a ta) (hb : PE X b tb) (hc : PE X c tc)
    (hm : lastMarks [op, op'] [b, c] = false := by with_unfolding_all rfl) : PE X (.Compare a [op, op'] [b, c] pos) (cChain r r' ta tb tc) := by
  rw [cChain_eq]
  exact pe_chain ho ho' ha hb hc hm
variable {rest : List Expr}
/-! indexes -/
def cIx (K : PySem.W.Frag) : R2 := fun x y H Q => match x, y with
  | .ref p, .int i => ∃ xs v, (SqL K H p xs ∨ SqT K H p xs) ∧ atI xs i = some v ∧ Q v H
  | .str z, .int i => z.length ≤ sizeLine ∧ ∃ c, atI z.cps.toList i = some c ∧ Q (.str ⟨#[c]⟩) H
  | _, _ => False
theorem i_seq : IxR X (cIx X.K) := ix_seq.imp fun x y H Q h => by
  cases x <;> cases y <;> first
    | exact False.elim h
    | (obtain ⟨xs, v, h1 | h1, h2, h3⟩ := h
       · exact .inl ⟨_, xs, _, v, rfl, rfl, h1, h2, h3⟩
       · exact .inr (.inl ⟨_, xs, _, v, rfl, rfl, h1, h2, h3⟩))
    | (obtain ⟨h1, c, h2, h3⟩ := h
       exact .inr (.inr ⟨_, _, c, rfl, rfl, h1, h2, h3⟩))
/-! slices of lists -/
def cSlL (K : PySem.W.Frag) : V → Option Int → Option Int → Hp → VK → Prop := fun x lo hi H Q => match x with
  | .ref p => ∃ xs, SqL K H p xs ∧ ∀ q, H q = none → Q (.ref q) (upd H q (.lst (cutV xs lo hi)))
  | _ => False
theorem s_list : SlR X (cSlL X.K) := sl_list.imp fun x lo hi H Q h => by
  cases x <;> first | exact False.elim h | (obtain ⟨xs, h1, h2⟩ := h; exact ⟨_, xs, rfl, h1, h2⟩)
/-! calls -/
def cLen (K : PySem.W.Frag) : List V → Hp → VK → Prop := fun vs H Q => match vs with
  | [.str z] => z.length ≤ sizeLine ∧ Q (.int z.length) H
  | [.ref p] => (∃ ys, (SqL K H p ys ∨ SqT K H p ys) ∧ Q (.int ys.length) H) ∨ ∃ kvs, H p = some (.dK kvs) ∧ Q (.int kvs.length) H
  | _ => False
theorem c_len : CallR X (.builtin "len") (cLen X.K) := by
  intro pins s σ H xs us Q I r h
  match xs, h with
  | [.str z], h => exact call_len_str pins s σ H _ us Q I r ⟨z, rfl, h.1, h.2⟩
  | [.ref p], h =>
    rcases h with ⟨ys, h1, h2⟩ | ⟨kvs, h1, h2⟩
    · exact call_len_seq pins s σ H _ us Q I r ⟨p, ys, rfl, h1, h2⟩
    · exact call_lenD pins s σ H _ us Q I r ⟨p, kvs, rfl, h1, h2⟩
def cList (K : PySem.W.Frag) : List V → Hp → VK → Prop := fun vs H Q => match vs with
  | [.ref p] => ∃ ys, (SqL K H p ys ∨ SqT K H p ys) ∧ ∀ l, H l = none → Q (.ref l) (upd H l (.lst ys))
  | _ => False
theorem c_list : CallR X (.type "list") (cList X.K) := by
  intro pins s σ H xs us Q I r h
  match xs, h with
  | [.ref p], h =>
    obtain ⟨ys, h1, h2⟩ := h
    exact call_list_of pins s σ H _ us Q I r ⟨p, ys, rfl, h1, h2⟩
def cMin : List V → Hp → VK → Prop := fun vs H Q => match vs with
  | [.int i, .int j] => Q (.int (if j < i then j else i)) H
  | _ => False
theorem c_min (hc : X.calm = true) : CallR X (.builtin "min") cMin := by
  intro pins s σ H xs us Q I r h
  match xs, h with
  | [.int i, .int j], h => exact call_min2 hc pins s σ H _ us Q I r ⟨i, j, rfl, h⟩
def cMax : List V → Hp → VK → Prop := fun vs H Q => match vs with
  | [.int i, .int j] => Q (.int (if j > i then j else i)) H
  | _ => False
theorem c_max (hc : X.calm = true) : CallR X (.builtin "max") cMax := by
  intro pins s σ H xs us Q I r h
  match xs, h with
  | [.int i, .int j], h => exact call_max2 hc pins s σ H _ us Q I r ⟨i, j, rfl, h⟩
def cIsinst (K : PySem.W.Frag) : List V → Hp → VK → Prop := fun vs H Q => match vs with
  | [x, .ty T] => ∃ t b, TyOf K H x t ∧ PySem.W.kitOne K t (.type T) = some b ∧ Q (.bl b) H
  | [x, .ref C] => ∃ t b, TyOf K H x t ∧ PySem.W.kitOne K t (.ref C) = some b ∧ Q (.bl b) H
  | _ => False
theorem c_isinst : CallR X (.builtin "isinstance") (cIsinst X.K) := by
  intro pins s σ H xs us Q I r h
  match xs, h with
  | [x, .ty T], h =>
    obtain ⟨t, k, h1, h2, h3⟩ := h
    obtain ⟨u, w', rfl, r1, r2⟩ := vals2 r
    cases r2
    exact isinst_ok I r1 h1 h2 fun tk => ⟨.bl k, H, I.tok tk, rfl, h3⟩
  | [x, .ref C], h =>
    obtain ⟨t, k, h1, h2, h3⟩ := h
    obtain ⟨u, w', rfl, r1, r2⟩ := vals2 r
    cases r2
    exact isinst_ok I r1 h1 h2 fun tk => ⟨.bl k, H, I.tok tk, rfl, h3⟩
/-! scopes of comprehensions, by a look -/
def csChk (onames : List (Str × NameKind)) (scope : Scope) : Bool := scope.names.all fun y => decide (y.2 ≠ .cell) && (decide (y.2 ≠ .local) || decide (scope.names.lookup y.1 = some .local)) && (decide (y.2 ≠ .free) || decide (onames.lookup y.1 = some .cell) || decide (onames.lookup y.1 = some .free))
theorem CScope.of {scope : Scope} (onames : List (Str × NameKind)) (h : csChk onames scope = true) (k : scope.kind = .function := by rfl) (e : X.env.scope.names = onames := by rfl) : CScope X scope := by
  have q := List.all_eq_true.mp h
  refine ⟨k, fun y hy => ?_, fun y hy hl => ?_, fun y hy hf => ?_⟩
  · have z := q y hy
    simp only [Bool.and_eq_true, decide_eq_true_eq] at z
    exact z.1.1
  · have z := q y hy
    simp only [Bool.and_eq_true, Bool.or_eq_true, decide_eq_true_eq] at z
    exact z.1.2.resolve_left fun w => w hl
  · have z := q y hy
    simp only [Bool.and_eq_true, Bool.or_eq_true, decide_eq_true_eq] at z
    show X.env.scope.names.lookup y.1 = _ ∨ X.env.scope.names.lookup y.1 = _
    rw [e]
    rcases z.2 with (w | w) | w
    · exact absurd hf w
    · exact .inl w
    · exact .inr w
def cnChk (XN : List Str) (scope : Scope) (N : List Str) (k : Nat) (sel : List Nat) : Bool := decide (N.length = k + sel.length) && (List.range sel.length).all fun i => match sel[i]?, N[k + i]? with
  | some j, some x => decide (XN[j]? = some x) && decide (scope.names.lookup x = some .free)
  | _, _ => false
theorem CNames.of {scope : Scope} {N : List Str} {k : Nat} {sel : List Nat} (XN : List Str) (h : cnChk XN scope N k sel = true) (e : X.N = XN := by rfl) : CNames X scope N k sel := by
  unfold cnChk at h
  simp only [Bool.and_eq_true, decide_eq_true_eq] at h
  refine ⟨h.1, fun i j x h1 h2 => ?_⟩
  have hi : i < sel.length := (List.getElem?_eq_some_iff.mp h1).1
  have q := List.all_eq_true.mp h.2 i (List.mem_range.mpr hi)
  rw [h1, h2] at q
  simp only [Bool.and_eq_true, decide_eq_true_eq] at q
  rw [e]
  exact q
end
end L2

set_option maxHeartbeats 4000000
namespace L2
open PySem PySem.Spec PyProof.Rows
theorem hr8 {A : Around} {k : Nat} (hr : Room k A) : A.units + 8 < cLine := by have := hr.units; omega
section
variable {X : Cx} {a b : Expr} {te : TE}
def cPart (t : TE) : TO := fun σ H Q => t σ H fun x H1 => match x with | .int i => Q (some i) H1 | _ => False
theorem cPart_eq (t : TE) : cPart t = tPart t := by
  funext σ H Q
  unfold cPart tPart
  congr 1
  funext x H'
  apply propext
  cases x <;> first
    | exact ⟨fun q => ⟨_, rfl, q⟩, fun ⟨i, e, q⟩ => by cases e; exact q⟩
    | exact ⟨fun q => False.elim q, fun ⟨i, e, q⟩ => by cases e⟩
theorem e_part (h : PE X a te) : PO X (some a) (cPart te) := by
  rw [cPart_eq]
  exact po_some h
def cNeg : V → Hp → VK → Prop := fun x H Q => match x with | .int i => Q (.int (-i)) H | _ => False
theorem u_neg : UnR X (unaryOp .USub) cNeg := fun pins s σ H x v Q I rx h => by
  cases x <;> first | exact False.elim h | exact un_neg pins s σ H _ v Q I rx ⟨_, rfl, h⟩
/-- a comparison with a dict, as a test -/
theorem t_pc {op : CmpOp} {t : TE} {pos : Pos} (h : PC X op a b t) (h1 : behindInMarks op b = false := by first | exact nobehind _ (by decide) (by decide) | rfl | with_unfolding_all rfl) : PT X (.Compare a [op] [b] pos) (cTst t) := by
  have e : cTst t = tB t := by
    funext σ H Q
    unfold cTst tB
    congr 1
    funext x H'
    exact cBool_eq
  rw [e]
  exact pt_cmp h h1
end

/-! comprehensions in the forms one uses: one name as target -/
section
variable {K : PySem.W.Frag} {σ : St} {sel : List Nat} {rest : St} {H : Hp} {p : Addr} {tt : TT} {te : TE} {Q : VK}
abbrev CompGoal (J : It) (σ : St) (k : Nat) (sel : List Nat) (g : TG) (tt : TT) (te : TE) (Q : VK) (H1 : Hp) (p : Addr) : Prop :=
  ∃ W : Nat → Nat → St → Hp → Prop, (∃ m, W 0 m (cst σ k sel) (upd H1 p (.lst []))) ∧ ∀ i m σ2 H2, W i m σ2 H2 →
    (J.stop i H2 ∧ Q (.ref p) H2) ∨ (J.go i H2 ∧ ∀ x H3, J.yld i H2 x H3 → g x σ2 H3 fun σ4 H4 => tt σ4 H4 fun b H5 =>
      if b = true then te σ4 H5 fun v H6 => ∃ ys, H6 p = some (.lst ys) ∧ ys.length < sizeLine ∧ ∃ m', m' < m ∧ W (i + 1) m' σ4 (upd H6 p (.lst (ys ++ [v]))) else ∃ m', m' < m ∧ W (i + 1) m' σ4 H5)
/-- by an invariant -/
theorem comp_inv {J : It} {n : Nat} {item : Nat → V} (Pv : Nat → Hp → Prop) (hr : sel.map (fun j => (σ[j]?).join) = rest) (h0 : Pv 0 (upd H p (.lst [])))
    (src : ∀ i H2, i < n → Pv i H2 → J.go i H2 ∧ ∀ x H3, J.yld i H2 x H3 → H3 = H2 ∧ x = item i) (fin : ∀ H2, Pv n H2 → J.stop n H2)
    (step : ∀ i H2 (R : Hp → Prop), i < n → Pv i H2 → (∀ H', Pv (i + 1) H' → R H') → tt (some (item i) :: rest) H2 fun b H5 =>
      if b = true then te (some (item i) :: rest) H5 fun v H6 => ∃ ys, H6 p = some (.lst ys) ∧ ys.length < sizeLine ∧ R (upd H6 p (.lst (ys ++ [v]))) else R H5)
    (hQ : ∀ H2, Pv n H2 → Q (.ref p) H2) : CompGoal J σ 1 sel (gName 0) tt te Q H p := by
  refine ⟨fun i m σ2 H2 => i ≤ n ∧ m = n - i + 1 ∧ (∃ v, σ2 = v :: rest) ∧ Pv i H2, ⟨n + 1, Nat.zero_le _, rfl, ⟨none, ?_⟩, h0⟩, ?_⟩
  · unfold cst; rw [hr]; rfl
  · rintro i m σ2 H2 ⟨hi, rfl, ⟨v, rfl⟩, hP⟩
    by_cases hlt : i < n
    · right
      obtain ⟨hg, hy⟩ := src i H2 hlt hP
      refine ⟨hg, fun x H3 hx => ?_⟩
      obtain ⟨rfl, rfl⟩ := hy x H3 hx
      exact step i H3 (fun H' => ∃ m', m' < n - i + 1 ∧ i + 1 ≤ n ∧ m' = n - (i + 1) + 1 ∧ (∃ v, (some (item i) :: rest : St) = v :: rest) ∧ Pv (i + 1) H') hlt hP fun H' h' => ⟨n - (i + 1) + 1, by omega, hlt, rfl, ⟨_, rfl⟩, h'⟩
    · left
      have e : i = n := by omega
      subst e
      exact ⟨fin H2 hP, hQ H2 hP⟩
theorem src_list {a : Addr} {xs : List V} {Pv : Nat → Hp → Prop} (hl : ∀ i H2, i ≤ xs.length → Pv i H2 → SqL K H2 a xs) : ∀ i H2, i < xs.length → Pv i H2 → (Itl K a).go i H2 ∧ ∀ x H3, (Itl K a).yld i H2 x H3 → H3 = H2 ∧ x = xs.getD i .non := fun i H2 hi hP => by
  have q := hl i H2 (Nat.le_of_lt hi) hP
  have e : xs[i]? = some (xs.getD i .non) := by simp [List.getD, hi]
  refine ⟨⟨xs, _, q, e⟩, fun x H3 ⟨h1, h2⟩ => ⟨h1, ?_⟩⟩
  have := h2 xs q
  rw [e] at this
  exact (Option.some.inj this).symm
theorem src_rng {lo : Int} {n : Nat} {Pv : Nat → Hp → Prop} : ∀ i H2, i < n → Pv i H2 → (Itr lo n).go i H2 ∧ ∀ x H3, (Itr lo n).yld i H2 x H3 → H3 = H2 ∧ x = .int (lo + i) := fun i H2 hi hP => ⟨hi, fun x H3 h => h⟩
theorem same_upd {H : Hp} {p : Addr} {o : HO} (hp : H p = none) : Same H (upd H p o) := fun b u e => by rw [upd_ne (ne_of_none e hp)]; exact e
theorem take_map_snoc {xs : List V} {f : V → V} {i : Nat} (hi : i < xs.length) : (xs.take i).map f ++ [f (xs.getD i .non)] = (xs.take (i + 1)).map f := by
  rw [List.take_add_one, List.map_append]
  congr 1
  simp [List.getD, hi]
/-- [f x for x in xs]: nothing but the list is made -/
theorem comp_list {a : Addr} {xs : List V} (f : V → V) (hl : SqL K H a xs) (hp : H p = none) (hr : sel.map (fun j => (σ[j]?).join) = rest) (hz : xs.length ≤ sizeLine)
    (he : ∀ x H' (Q' : VK), x ∈ xs → Same H H' → Q' (f x) H' → te (some x :: rest) H' Q') (hQ : Q (.ref p) (upd H p (.lst (xs.map f)))) : CompGoal (Itl K a) σ 1 sel (gName 0) tTrue te Q H p := by
  refine comp_inv (n := xs.length) (item := fun i => xs.getD i .non) (fun i H2 => H2 = upd H p (.lst ((xs.take i).map f))) hr (by simp) (src_list ?_) ?_ ?_ ?_
  · rintro i H2 hi rfl
    exact (same_upd hp).seq hl
  · rintro H2 rfl
    exact ⟨xs, (same_upd hp).seq hl, Nat.le_refl _⟩
  · rintro i H2 R hi rfl hR
    unfold tTrue
    dsimp only
    rw [if_pos rfl]
    refine he _ _ _ (by rw [show xs.getD i .non = xs[i] from by simp [List.getD, hi]]; exact List.getElem_mem _) (same_upd hp) ⟨_, upd_same, ?_, hR _ ?_⟩
    · rw [List.length_map, List.length_take]; omega
    · rw [upd_upd, take_map_snoc hi]
  · rintro H2 rfl
    rw [List.take_length]
    exact hQ
/-- [f k for k in range(n)] -/
theorem comp_rng {lo : Int} {n : Nat} (f : Int → V) (hp : H p = none) (hr : sel.map (fun j => (σ[j]?).join) = rest) (hz : n ≤ sizeLine)
    (he : ∀ (i : Nat) H' (Q' : VK), i < n → Same H H' → Q' (f (lo + i)) H' → te (some (.int (lo + i)) :: rest) H' Q') (hQ : Q (.ref p) (upd H p (.lst ((List.range n).map fun i => f (lo + (i : Nat)))))) : CompGoal (Itr lo n) σ 1 sel (gName 0) tTrue te Q H p := by
  refine comp_inv (n := n) (item := fun i => .int (lo + i)) (fun i H2 => H2 = upd H p (.lst ((List.range i).map fun i => f (lo + (i : Nat))))) hr (by simp) src_rng ?_ ?_ ?_
  · rintro H2 rfl
    exact Nat.le_refl _
  · rintro i H2 R hi rfl hR
    unfold tTrue
    dsimp only
    rw [if_pos rfl]
    refine he i _ _ hi (same_upd hp) ⟨_, upd_same, ?_, hR _ ?_⟩
    · rw [List.length_map, List.length_range]; omega
    · rw [upd_upd, List.range_succ, List.map_append]; rfl
  · rintro H2 rfl
    exact hQ
end
end L2

set_option maxHeartbeats 4000000
namespace L2
open PySem PySem.Spec PyProof.Rows
def cRef (x : V) (k : Addr → Prop) : Prop := match x with | .ref p => k p | _ => False
theorem cRef_eq {x : V} {k : Addr → Prop} : (∃ p, x = .ref p ∧ k p) = cRef x k := by
  apply propext
  cases x <;> first
    | exact ⟨fun ⟨p, e, q⟩ => by cases e; exact q, fun q => ⟨_, rfl, q⟩⟩
    | exact ⟨fun ⟨p, e, q⟩ => (by cases e), fun q => False.elim q⟩
def cInt1 (vs : List V) (k : Int → Prop) : Prop := match vs with | [.int j] => k j | _ => False
theorem cInt1_eq {vs : List V} {k : Int → Prop} : (∃ j, vs = [.int j] ∧ k j) = cInt1 vs k := by
  apply propext
  constructor
  · rintro ⟨j, rfl, q⟩; exact q
  · intro h
    unfold cInt1 at h
    split at h
    · exact ⟨_, rfl, h⟩
    · exact h.elim
def cInt2 (vs : List V) (k : Int → Int → Prop) : Prop := match vs with | [.int i, .int j] => k i j | _ => False
theorem cInt2_eq {vs : List V} {k : Int → Int → Prop} : (∃ i j, vs = [.int i, .int j] ∧ k i j) = cInt2 vs k := by
  apply propext
  constructor
  · rintro ⟨i, j, rfl, q⟩; exact q
  · intro h
    unfold cInt2 at h
    split at h
    · exact ⟨_, _, rfl, h⟩
    · exact h.elim
/-- what a loop wants, the iterator being there -/
def ForGoal (J : It) (g : TG) (tb : TS) (D : Ends) (σ : St) (H : Hp) : Prop := ∃ W : Nat → Nat → St → Hp → Prop, (∃ m, W 0 m σ H) ∧ ∀ i m σ H, W i m σ H →
  (J.stop i H ∧ D.nx σ H) ∨ (J.go i H ∧ ∃ N : St → Hp → Prop, (∀ σ' H', N σ' H' → ∃ m', m' < m ∧ W (i + 1) m' σ' H') ∧ ∀ x H', J.yld i H x H' → g x σ H' fun σ2 H2 => tb { D with nx := N, ct := N, bk := D.nx } σ2 H2)
def CompG (J : It) (σ : St) (k : Nat) (sel : List Nat) (g : TG) (tt : TT) (te : TE) (Q : VK) (H1 : Hp) : Prop := ∀ p, H1 p = none → CompGoal J σ k sel g tt te Q H1 p
section
variable {K : PySem.W.Frag} {te : TE} {ta : TA} {g : TG} {tb : TS} {D : Ends} {σ : St} {H : Hp} {p : Addr} {xs : List V} {k : Nat} {sel : List Nat} {tt : TT} {el : TE} {Q : VK}
theorem tFor_list : tFor (iList K te) g tb D σ H = te σ H (fun x H1 => cRef x fun p => (∃ xs, SqL K H1 p xs) ∧ ForGoal (Itl K p) g tb D σ H1) := by
  unfold tFor iList
  congr 1
  funext x H1
  exact cRef_eq
theorem tFor_rng1 : tFor (iRng1 ta) g tb D σ H = ta σ H (fun vs H1 => cInt1 vs fun j => -(2 ^ 62) ≤ j ∧ j < 2 ^ 62 ∧ ForGoal (Itr 0 j.toNat) g tb D σ H1) := by
  unfold tFor iRng1
  congr 1
  funext x H1
  exact cInt1_eq
theorem tFor_rng2 : tFor (iRng2 ta) g tb D σ H = ta σ H (fun vs H1 => cInt2 vs fun i j => (-(2 ^ 62) ≤ i ∧ i < 2 ^ 62 ∧ -(2 ^ 62) ≤ j ∧ j < 2 ^ 62) ∧ ForGoal (Itr i (j - i).toNat) g tb D σ H1) := by
  unfold tFor iRng2
  congr 1
  funext x H1
  exact cInt2_eq
theorem tComp_list : tComp (iList K te) k sel g tt el σ H Q = te σ H (fun x H1 => cRef x fun p => (∃ xs, SqL K H1 p xs) ∧ CompG (Itl K p) σ k sel g tt el Q H1) := by
  unfold tComp iList
  congr 1
  funext x H1
  exact cRef_eq
theorem tComp_rng1 : tComp (iRng1 ta) k sel g tt el σ H Q = ta σ H (fun vs H1 => cInt1 vs fun j => -(2 ^ 62) ≤ j ∧ j < 2 ^ 62 ∧ CompG (Itr 0 j.toNat) σ k sel g tt el Q H1) := by
  unfold tComp iRng1
  congr 1
  funext x H1
  exact cInt1_eq
/-- a loop over a list that stays as it is -/
theorem for_listG (Pv : Nat → St → Hp → Prop) (h0 : Pv 0 σ H) (hk : ∀ i σ H, i ≤ xs.length → Pv i σ H → SqL K H p xs)
    (hs : ∀ i x σ H, xs[i]? = some x → Pv i σ H → g x σ H fun σ2 H2 => tb { D with nx := Pv (i + 1), ct := Pv (i + 1), bk := D.nx } σ2 H2) (hd : ∀ σ H, Pv xs.length σ H → D.nx σ H) : ForGoal (Itl K p) g tb D σ H := for_list Pv h0 hk hs hd
theorem for_rngG {lo : Int} {n : Nat} (Pv : Nat → St → Hp → Prop) (h0 : Pv 0 σ H)
    (hs : ∀ (i : Nat) σ H, i < n → Pv i σ H → g (.int (lo + i)) σ H fun σ2 H2 => tb { D with nx := Pv (i + 1), ct := Pv (i + 1), bk := D.nx } σ2 H2) (hd : ∀ σ H, Pv n σ H → D.nx σ H) : ForGoal (Itr lo n) g tb D σ H := for_range Pv h0 hs hd
end
theorem atI_ok {α : Type} {xs : List α} {i : Int} (d : α) (h0 : 0 ≤ i) (h1 : i < xs.length) : atI xs i = some (xs.getD i.toNat d) := by
  obtain ⟨n, rfl⟩ := Int.eq_ofNat_of_zero_le h0
  have hn : n < xs.length := by omega
  have e : xs[n]? = some (xs.getD n d) := by simp [List.getD, hn]
  exact atI_nat e
theorem getD_map {α β : Type} (f : α → β) (xs : List α) (n : Nat) (d : α) : (xs.map f).getD n (f d) = f (xs.getD n d) := by
  simp [List.getD]
theorem atI_map {α β : Type} {f : α → β} {xs : List α} {i : Int} (d : α) (h0 : 0 ≤ i) (h1 : i < xs.length) : atI (xs.map f) i = some (f (xs.getD i.toNat d)) := by
  rw [atI_ok (f d) h0 (by rw [List.length_map]; exact h1), getD_map]
theorem get_map_of {α β : Type} {f : α → β} {xs : List α} {i : Nat} {y : β} (h : (xs.map f)[i]? = some y) : ∃ x, xs[i]? = some x ∧ y = f x := by
  rw [List.getElem?_map] at h
  cases e : xs[i]? with
  | none => rw [e] at h; cases h
  | some x => rw [e] at h; exact ⟨x, rfl, (Option.some.inj h).symm⟩
theorem pe_globE {X : Cx} {x : Str} {v : V} {pos : Pos} (hg : Gl X x) (hm : ∃ u, X.mg x = some u ∧ RelV v u) (hd : (x == ("__debug__" : Str)) = false := by decide) : PE X (.Name x pos) (tC v) := by
  obtain ⟨u, h1, h2⟩ := hm
  exact pe_glob hg h1 h2 hd
end L2
namespace L2
open PySem PySem.Spec PyProof.Rows
/-! displays of constants: one lemma, the context a letter -/
end L2

set_option maxHeartbeats 4000000
/-! texts -/
namespace L2
open PySem PySem.Spec PyProof.Rows
section
variable {X : Cx} {tg : Expr}
/-! t[lo:hi] -/
def cSlS : V → Option Int → Option Int → Hp → VK → Prop := fun x lo hi H Q => match x with
  | .str z => z.length ≤ sizeLine ∧ Q (.str (Txt.slice z lo hi)) H
  | _ => False
theorem s_str : SlR X cSlS := by
  intro pins s σ H x v vl vu lo hi sl Q I rx hs pl pu h
  cases x with
  | str z =>
    obtain ⟨t, rfl⟩ := rx
    obtain ⟨hz, q⟩ := h
    refine ⟨"str", _, F.slot_str_getitem.lookup, typeIs_str _ _ _, ?_⟩
    have fin : ∀ t' k, EP X pins σ Q (.str (Txt.slice z lo hi) t') { s with toks := k } := fun t' k => ⟨.str (Txt.slice z lo hi), H, I.tok k, ⟨t', rfl⟩, q⟩
    cases pl with
    | none => cases pu with
      | none => exact wpAny_getItem_str_slice (l := none) (u := none) (st := none) hs rfl (post_val_or_str ⟨Nat.le_trans (Txt.slice_le z _ _) hz, fin⟩)
      | int j uj => exact wpAny_getItem_str_slice (l := none) (u := some (j, uj)) (st := none) hs rfl (post_val_or_str ⟨Nat.le_trans (Txt.slice_le z _ _) hz, fin⟩)
    | int i ui => cases pu with
      | none => exact wpAny_getItem_str_slice (l := some (i, ui)) (u := none) (st := none) hs rfl (post_val_or_str ⟨Nat.le_trans (Txt.slice_le z _ _) hz, fin⟩)
      | int j uj => exact wpAny_getItem_str_slice (l := some (i, ui)) (u := some (j, uj)) (st := none) hs rfl (post_val_or_str ⟨Nat.le_trans (Txt.slice_le z _ _) hz, fin⟩)
  | _ => exact False.elim h
/-! for sign in text -/
variable {te : TE} {g : TG} {tb : TS} {D : Ends} {σ : St} {H : Hp} {k : Nat} {sel : List Nat} {tt : TT} {el : TE} {Q : VK}
/-! all([..]) -/
/-! t * n -/
def cMul : R2 := fun x y H Q => match x, y with
  | .int i, .int j => CMul i j ∧ Q (.int (i * j)) H
  | .str z, .int n => MulOk z n ∧ Q (.str (Txt.mul z n)) H
  | _, _ => False
theorem o_mul : OpR X (binaryOp .Mult) cMul := by
  intro pins s σ H x y v u Q I rx ry h
  cases x <;> cases y <;> first
    | exact False.elim h
    | exact op_mul pins s σ H _ _ v u Q I rx ry ⟨_, _, rfl, rfl, h.1, h.2⟩
    | (obtain ⟨t, rfl⟩ := rx
       obtain ⟨t', rfl⟩ := ry
       exact SB.mul h.1 fun t'' k => ⟨.str _, H, I.tok k, ⟨t'', rfl⟩, h.2⟩)
end
end L2

set_option maxHeartbeats 4000000
/-! new objects by name: the heap behind is a letter -/
namespace L2
open PySem PySem.Spec PyProof.Rows
structure New (H : Hp) (p : Addr) (o : HO) (H' : Hp) : Prop where
  was : H p = none
  eq : H' = upd H p o
section
variable {H H' : Hp} {p : Addr} {o : HO}
theorem New.same (n : New H p o H') : Same H H' := by rw [n.eq]; exact same_upd n.was
theorem New.at_ (n : New H p o H') : H' p = some o := by rw [n.eq]; exact upd_same
theorem New.ne (n : New H p o H') {b : Addr} (h : b ≠ p) : H' b = H b := by rw [n.eq]; exact upd_ne h
theorem New.mk' (h : H p = none) : New H p o (upd H p o) := ⟨h, rfl⟩
theorem New.sq {K : PySem.W.Frag} {xs : List V} (n : New H p (.lst xs) H') : SqL K H' p xs := .of n.at_
theorem new_eq {F : Addr → Hp → Prop} {o : HO} : (∀ p, H p = none → F p (upd H p o)) = ∀ p H', New H p o H' → F p H' :=
  propext ⟨fun h p H' n => by rw [n.eq]; exact h p n.was, fun h p hp => h p _ ⟨hp, rfl⟩⟩
end
section
variable {K : PySem.W.Frag} {t : TA} {σ : St} {H : Hp} {Q : VK} {x : V} {lo hi : Option Int} {vs : List V} {kvs : List (Key × V)}
theorem tLst_n : tLst t σ H Q = t σ H fun xs H1 => xs.length ≤ sizeLine ∧ ∀ p H', New H1 p (.lst xs) H' → Q (.ref p) H' := by
  unfold tLst; congr 1; funext xs H1; rw [new_eq (F := fun p H' => Q (.ref p) H')]
theorem tTup_n : tTup t σ H Q = t σ H fun xs H1 => xs.length ≤ sizeLine ∧ ∀ p H', New H1 p (.tup xs) H' → Q (.ref p) H' := by
  unfold tTup; congr 1; funext xs H1; rw [new_eq (F := fun p H' => Q (.ref p) H')]
theorem cSlL_n {p : Addr} : cSlL K (.ref p) lo hi H Q = ∃ xs, SqL K H p xs ∧ ∀ q H', New H q (.lst (cutV xs lo hi)) H' → Q (.ref q) H' := by
  unfold cSlL
  dsimp only
  congr 1; funext xs; rw [new_eq (F := fun p H' => Q (.ref p) H')]
theorem cList_n {p : Addr} : cList K [.ref p] H Q = ∃ ys, (SqL K H p ys ∨ SqT K H p ys) ∧ ∀ l H', New H l (.lst ys) H' → Q (.ref l) H' := by
  unfold cList
  dsimp only
  congr 1; funext xs; rw [new_eq (F := fun p H' => Q (.ref p) H')]
end
/-! comprehensions: the list behind is a letter's -/
section
variable {K : PySem.W.Frag} {σ : St} {sel : List Nat} {rest : St} {H : Hp} {tt : TT} {te : TE} {Q : VK}
theorem compG_list {a : Addr} {xs : List V} (f : V → V) (hl : SqL K H a xs) (hr : sel.map (fun j => (σ[j]?).join) = rest) (hz : xs.length ≤ sizeLine)
    (he : ∀ x H' (Q' : VK), x ∈ xs → Same H H' → Q' (f x) H' → te (some x :: rest) H' Q') (hQ : ∀ p H', New H p (.lst (xs.map f)) H' → Q (.ref p) H') : CompG (Itl K a) σ 1 sel (gName 0) tTrue te Q H :=
  fun p hp => comp_list f hl hp hr hz he (hQ p _ ⟨hp, rfl⟩)
theorem compG_rng {lo : Int} {n : Nat} (f : Int → V) (hr : sel.map (fun j => (σ[j]?).join) = rest) (hz : n ≤ sizeLine)
    (he : ∀ (i : Nat) H' (Q' : VK), i < n → Same H H' → Q' (f (lo + i)) H' → te (some (.int (lo + i)) :: rest) H' Q') (hQ : ∀ p H', New H p (.lst ((List.range n).map fun i => f (lo + (i : Nat)))) H' → Q (.ref p) H') : CompG (Itr lo n) σ 1 sel (gName 0) tTrue te Q H :=
  fun p hp => comp_rng f hp hr hz he (hQ p _ ⟨hp, rfl⟩)
end
end L2
namespace L2
open PySem PySem.Spec PyProof.Rows
/-- a slice of a list or of a text -/
def cSlU (K : PySem.W.Frag) : V → Option Int → Option Int → Hp → VK → Prop := fun x lo hi H Q => match x with
  | .ref p => ∃ xs, SqL K H p xs ∧ ∀ q H', New H q (.lst (cutV xs lo hi)) H' → Q (.ref q) H'
  | .str z => z.length ≤ sizeLine ∧ Q (.str (Txt.slice z lo hi)) H
  | _ => False
theorem s_u {X : Cx} : SlR X (cSlU X.K) := by
  intro pins s σ H x v vl vu lo hi sl Q I rx hs pl pu h
  cases x with
  | ref p => exact s_list pins s σ H (.ref p) v vl vu lo hi sl Q I rx hs pl pu (by rw [cSlL_n]; exact h)
  | str z => exact s_str pins s σ H (.str z) v vl vu lo hi sl Q I rx hs pl pu h
  | _ => exact False.elim h
end L2


set_option maxHeartbeats 4000000
/-! dict(zip(t, l)): t a tuple, l a list -/
namespace DZ
open PySem
section
variable {prog : Program} {w : World} {A : Around} {E : Value → Shared → Prop} {s : Shared}
end
section
variable {M : Model} {A : Around} {E : Value → Shared → Prop} {s : Shared}
end
/-! zip(t, l) -/
/-- the zip's state ahead of turn i -/
structure ZSt (z TI TO i1 i2 t l : Addr) (xs ys : Array Value) (i : Nat) (h : Heap) : Prop where
  zo : ∃ f0 f1, h.get? z = some { cls := .type "zip", dict := none, data := .fields #[f0, .bool f1, .bool false, .ref TI, .ref TO], slots := #[] } ∧
    (f0 = .none ∨ ∃ (T : Addr) (o : Obj), f0 = rawInt T ∧ h.get? T = some o ∧ T ≠ z ∧ T ≠ TO ∧ T ≠ i1 ∧ T ≠ i2)
  ti : IsPair h TI (.ref i1) (.ref i2)
  to : ∃ a b, IsPair h TO a b
  a1 : h.IsTupleIter i1 t i
  a2 : h.IsListIter i2 l i
  l1 : h.IsTuple t xs
  l2 : h.IsList l ys
section
variable {prog : Program} {w : World} {A : Around} {E : Value → Shared → Prop} {s : Shared}
/-! pyNext -/
end
end DZ

set_option maxHeartbeats 4000000
namespace DZ
open PySem
section
variable {prog : Program} {w : World} {A : Around} {E : Value → Shared → Prop} {h : Heap} {g : Array GenState} {d : Drawn} {t : Nat} {os : OsState} {z : Addr} {vs : Array Value}
end
/-! dict(..) -/
section
variable {prog : Program} {w : World} {A : Around} {E : Value → Shared → Prop} {s : Shared}
end
end DZ

set_option maxHeartbeats 4000000
namespace DZ
open PySem
section
variable {prog : Program} {w : World} {A : Around} {E : Value → Shared → Prop} {s : Shared}
variable {κ : Type} [DecidableEq κ] {knd : KeyKind prog w κ}
end
end DZ

set_option maxHeartbeats 4000000
/-! dict(zip(t, l)) over the layer -/
namespace L2
open PySem PySem.Spec PyProof.Rows
section
variable {X : Cx} {pins : List (Addr × Obj)} {σ : St} {H : Hp} {s : Shared} {h' : Heap}
end
end L2

/-! the mathematics of the law's names: texts of small letters in a ring -/
namespace NM
def okc (c : Nat) : Prop := 97 ≤ c ∧ c ≤ 122
/-- one to eight small letters -/
structure Nm (w : List Nat) : Prop where
  pos : 1 ≤ w.length
  le : w.length ≤ 8
  ok : ∀ c ∈ w, okc c
/-- the last letter that is no z moves on -/
def nx (p : List Nat) (c k : Nat) : List Nat := p ++ (c + 1) :: List.replicate k 97
/-- what _law_next does -/
inductive Nx : List Nat → List Nat → Prop where
  | at (p : List Nat) (c k : Nat) : c ≠ 122 → Nx (p ++ c :: List.replicate k 122) (nx p c k)
  | all (n : Nat) : Nx (List.replicate n 122) (List.replicate (n % 8 + 1) 97)
/-- ways of k steps -/
inductive Nxs : Nat → List Nat → List Nat → Prop where
  | zero (w : List Nat) : Nxs 0 w w
  | succ {k : Nat} {u v w : List Nat} : Nx u v → Nxs k v w → Nxs (k + 1) u w
end NM

/-! tables of pairs, gates carried over them -/
namespace ME
section
variable {κ : Type} [DecidableEq κ] {α β : Type}
def vS (e : List (κ × α)) (k : κ) : Option α := (e.find? fun p => decide (p.1 = k)).map (·.2)
def pS (e : List (κ × α)) (k : κ) (v : α) : List (κ × α) :=
  if (e.any fun p => decide (p.1 = k)) = true then e.map (fun p => if p.1 = k then (p.1, v) else p) else e ++ [(k, v)]
theorem vS_pos {p : κ × α} {r : List (κ × α)} {k : κ} (e : p.1 = k) : vS (p :: r) k = some p.2 := by simp [vS, List.find?_cons, e]
theorem vS_neg {p : κ × α} {r : List (κ × α)} {k : κ} (e : ¬ p.1 = k) : vS (p :: r) k = vS r k := by simp [vS, List.find?_cons, e]
theorem vS_any (k : κ) : ∀ e : List (κ × α), (e.any fun p => decide (p.1 = k)) = (vS e k).isSome
  | [] => rfl
  | p :: r => by
    rw [List.any_cons]
    by_cases e : p.1 = k
    · rw [vS_pos e]; simp [e]
    · rw [vS_neg e, decide_eq_false e, Bool.false_or, vS_any k r]
theorem vS_set (k j : κ) (y : α) : ∀ e : List (κ × α), vS (e.map fun p => if p.1 = k then (p.1, y) else p) j = (vS e j).map fun x => if j = k then y else x
  | [] => rfl
  | p :: r => by
    have ih := vS_set k j y r
    rw [List.map_cons]
    by_cases h : p.1 = k
    · rw [if_pos h]
      by_cases e : p.1 = j
      · rw [vS_pos (p := (p.1, y)) e, vS_pos e]; simp [e.symm.trans h]
      · rw [vS_neg (p := (p.1, y)) e, vS_neg e, ih]
    · rw [if_neg h]
      by_cases e : p.1 = j
      · rw [vS_pos e, vS_pos e]; simp [show ¬ j = k from fun z => h (e.trans z)]
      · rw [vS_neg e, vS_neg e, ih]
theorem vS_end (k j : κ) (y : α) : ∀ e : List (κ × α), vS e k = none → vS (e ++ [(k, y)]) j = if j = k then some y else vS e j
  | [], _ => by
    by_cases e : k = j
    · rw [if_pos e.symm]; exact vS_pos (p := (k, y)) e
    · rw [if_neg (fun z => e z.symm)]; exact vS_neg (p := (k, y)) e
  | p :: r, hn => by
    rw [List.cons_append]
    have hk : ¬ p.1 = k := fun z => by rw [vS_pos z] at hn; cases hn
    rw [vS_neg hk] at hn
    have ih := vS_end k j y r hn
    by_cases e : p.1 = j
    · rw [vS_pos e, vS_pos e, if_neg (fun z => hk (e.trans z))]
    · rw [vS_neg e, vS_neg e, ih]
theorem vS_pS (e : List (κ × α)) (k j : κ) (y : α) : vS (pS e k y) j = if j = k then some y else vS e j := by
  unfold pS
  cases a : (e.any fun p => decide (p.1 = k))
  · rw [if_neg (by simp)]
    refine vS_end k j y e ?_
    rw [vS_any] at a
    cases q : vS e k with
    | none => rfl
    | some x => rw [q] at a; cases a
  · rw [if_pos rfl, vS_set]
    rw [vS_any] at a
    by_cases h : j = k
    · obtain ⟨x, hx⟩ := Option.isSome_iff_exists.mp a
      rw [if_pos h, h, hx]; simp
    · rw [if_neg h]
      cases vS e j with
      | none => rfl
      | some x => simp [h]
def m2 (f : α → β) (e : List (κ × α)) : List (κ × β) := e.map fun p => (p.1, f p.2)
abbrev Gt (κ : Type) := κ × κ × List κ
def step (F : κ → List α → α) (d : α) (e : List (κ × α)) (g : Gt κ) : List (κ × α) := pS e g.1 (F g.2.1 (g.2.2.map fun p => (vS e p).getD d))
/-- parts are told ahead; A: how many parts a word may have -/
def WG (A : κ → Nat → Prop) (known : List κ) : List (Gt κ) → Prop
  | [] => True
  | g :: r => (∀ p ∈ g.2.2, p ∈ known) ∧ A g.2.1 g.2.2.length ∧ g.2.2.length ≤ 6 ∧ WG A (known ++ [g.1]) r
def Kn (e : List (κ × α)) (known : List κ) : Prop := ∀ n ∈ known, ∃ v, vS e n = some v
theorem Kn.put {e : List (κ × α)} {known : List κ} (h : Kn e known) (k : κ) (v : α) : Kn (pS e k v) (known ++ [k]) := fun n hn => by
  rw [vS_pS]
  by_cases e1 : n = k
  · rw [if_pos e1]; exact ⟨v, rfl⟩
  · rw [if_neg e1]
    rcases List.mem_append.mp hn with q | q
    · exact h n q
    · exact absurd (List.mem_singleton.mp q) e1
theorem WG.at {A : κ → Nat → Prop} : ∀ {gs : List (Gt κ)} {known : List κ} {i : Nat} {g : Gt κ}, WG A known gs → gs[i]? = some g →
    (∀ p ∈ g.2.2, p ∈ known ++ (gs.take i).map (·.1)) ∧ A g.2.1 g.2.2.length ∧ g.2.2.length ≤ 6
  | [], _, _, _, _, h => by simp at h
  | x :: gs, known, 0, g, ⟨a, b, c, d⟩, h => by
    simp at h; subst h
    exact ⟨by simpa using a, b, c⟩
  | x :: gs, known, i + 1, g, ⟨a, b, c, d⟩, h => by
    have := WG.at (i := i) (g := g) d (by simpa using h)
    simpa using this
end
end ME

/-! columns as numbers: bits by lightings -/
namespace MC
/-- the columns of inputs, as the program makes them -/
def inC : Nat → List Nat × Nat × Nat
  | 0 => ([], 1, 1)
  | n + 1 => ((inC n).1.map (fun c => c ||| (c * 2 ^ (inC n).2.2)) ++ [(inC n).2.1 * 2 ^ (inC n).2.2], (inC n).2.1 ||| ((inC n).2.1 * 2 ^ (inC n).2.2), (inC n).2.2 * 2)
theorem tb_mul (c w j : Nat) : (c * 2 ^ w).testBit j = (decide (w ≤ j) && c.testBit (j - w)) := by
  rw [← Nat.shiftLeft_eq, Nat.testBit_shiftLeft]
theorem inC_w : ∀ n, (inC n).2.2 = 2 ^ n
  | 0 => rfl
  | n + 1 => by show (inC n).2.2 * 2 = _; rw [inC_w n, Nat.pow_succ]
theorem tb_lt {c w j : Nat} (h : c < 2 ^ w) (hj : w ≤ j) : c.testBit j = false := Nat.testBit_lt_two_pow (Nat.lt_of_lt_of_le h (Nat.pow_le_pow_right (by decide) hj))
theorem inC_e : ∀ n, (inC n).2.1 = 2 ^ (2 ^ n) - 1
  | 0 => rfl
  | n + 1 => by
    show (inC n).2.1 ||| ((inC n).2.1 * 2 ^ (inC n).2.2) = _
    rw [inC_e n, inC_w n]
    apply Nat.eq_of_testBit_eq
    intro j
    rw [Nat.testBit_or, tb_mul, Nat.testBit_two_pow_sub_one, Nat.testBit_two_pow_sub_one, Nat.testBit_two_pow_sub_one, Nat.pow_succ]
    by_cases h1 : j < 2 ^ n
    · simp [h1]; omega
    · by_cases h2 : j < 2 ^ n * 2
      · simp [h1, h2]; omega
      · simp [h1, h2]; omega
theorem inC_len : ∀ n, (inC n).1.length = n
  | 0 => rfl
  | n + 1 => by show (_ ++ [_]).length = _; simp [inC_len n]
theorem inC_lt : ∀ n, ∀ c ∈ (inC n).1, c < 2 ^ (2 ^ n)
  | 0, c, h => by simp [inC] at h
  | n + 1, c, h => by
    have h' : c ∈ (inC n).1.map (fun c => c ||| (c * 2 ^ (inC n).2.2)) ++ [(inC n).2.1 * 2 ^ (inC n).2.2] := h
    rw [inC_w, inC_e] at h'
    have e2 : 2 ^ (2 ^ (n + 1)) = 2 ^ (2 ^ n) * 2 ^ (2 ^ n) := by rw [← Nat.pow_add, Nat.pow_succ]; congr 1; omega
    have hp : 0 < 2 ^ (2 ^ n) := Nat.pow_pos (by decide)
    have up : ∀ d, d < 2 ^ (2 ^ n) → d * 2 ^ (2 ^ n) < 2 ^ (2 ^ (n + 1)) := fun d hd => by rw [e2]; exact Nat.mul_lt_mul_of_pos_right hd hp
    rcases List.mem_append.mp h' with q | q
    · obtain ⟨d, hd, rfl⟩ := List.mem_map.mp q
      have := inC_lt n d hd
      refine Nat.or_lt_two_pow (Nat.lt_of_lt_of_le this (Nat.pow_le_pow_right (by decide) (Nat.pow_le_pow_right (by decide) (Nat.le_succ _)))) (up d this)
    · rw [List.mem_singleton.mp q]
      exact up _ (by omega)
theorem low_bit {n i j : Nat} (h1 : 2 ^ n ≤ j) (h2 : j < 2 ^ (n + 1)) (hi : i < n) : (j - 2 ^ n).testBit i = j.testBit i := by
  have e : j = 2 ^ n + (j - 2 ^ n) := by omega
  have h3 : j - 2 ^ n < 2 ^ n := by rw [Nat.pow_succ] at h2; omega
  have := Nat.testBit_two_pow_add_gt (i := n) (j := i) hi (j - 2 ^ n)
  rw [← e] at this
  exact this.symm
theorem top_bit {n j : Nat} (h2 : j < 2 ^ (n + 1)) : j.testBit n = decide (2 ^ n ≤ j) := by
  by_cases h : 2 ^ n ≤ j
  · rw [decide_eq_true h]
    have e : j = 2 ^ n + (j - 2 ^ n) := by omega
    have h3 : j - 2 ^ n < 2 ^ n := by rw [Nat.pow_succ] at h2; omega
    have := Nat.testBit_two_pow_add_eq (j - 2 ^ n) n
    rw [← e] at this
    rw [this, Nat.testBit_lt_two_pow h3]; rfl
  · rw [decide_eq_false h]
    exact Nat.testBit_lt_two_pow (by omega)
theorem inC_bit : ∀ (n i j : Nat), i < n → j < 2 ^ n → ((inC n).1.getD i 0).testBit j = j.testBit i
  | 0, i, j, h, _ => absurd h (by omega)
  | n + 1, i, j, hi, hj => by
    have hg : (inC (n + 1)).1 = (inC n).1.map (fun c => c ||| (c * 2 ^ (2 ^ n))) ++ [(2 ^ (2 ^ n) - 1) * 2 ^ (2 ^ n)] := by
      show (inC n).1.map (fun c => c ||| (c * 2 ^ (inC n).2.2)) ++ [(inC n).2.1 * 2 ^ (inC n).2.2] = _
      rw [inC_w, inC_e]
    have hl := inC_len n
    rw [hg]
    by_cases h : i < n
    · have e : ((inC n).1.map (fun c => c ||| (c * 2 ^ (2 ^ n))) ++ [(2 ^ (2 ^ n) - 1) * 2 ^ (2 ^ n)]).getD i 0 = ((inC n).1.getD i 0) ||| (((inC n).1.getD i 0) * 2 ^ (2 ^ n)) := by
        simp [List.getD, List.getElem?_append, hl, h]
      have hc : (inC n).1.getD i 0 < 2 ^ (2 ^ n) := by
        have hm : (inC n).1.getD i 0 ∈ (inC n).1 := by
          have : i < (inC n).1.length := by omega
          simp [List.getD, this]
        exact inC_lt n _ hm
      rw [e, Nat.testBit_or, tb_mul]
      by_cases hj2 : j < 2 ^ n
      · rw [inC_bit n i j h hj2, decide_eq_false (by omega)]; simp
      · rw [tb_lt hc (by omega), decide_eq_true (by omega), inC_bit n i (j - 2 ^ n) h (by rw [Nat.pow_succ] at hj; omega), low_bit (by omega) hj h]; simp
    · have hin : i = n := by omega
      subst hin
      have e : ((inC i).1.map (fun c => c ||| (c * 2 ^ (2 ^ i))) ++ [(2 ^ (2 ^ i) - 1) * 2 ^ (2 ^ i)]).getD i 0 = (2 ^ (2 ^ i) - 1) * 2 ^ (2 ^ i) := by
        simp [List.getD, List.getElem?_append, hl]
      rw [e, tb_mul, Nat.testBit_two_pow_sub_one, top_bit hj]
      have : j - 2 ^ i < 2 ^ i := by
        rw [Nat.pow_succ] at hj
        have : 0 < 2 ^ i := Nat.pow_pos (by decide)
        omega
      simp [this]
theorem xor_and : ∀ (n a b : Nat), a < n → (a ^^^ b) + (a &&& b) = a ||| b
  | 0, _, _, h => absurd h (by omega)
  | n + 1, a, b, h => by
    by_cases ha : a = 0
    · subst ha; simp
    have ih := xor_and n (a / 2) (b / 2) (by omega)
    rw [← Nat.xor_div_two, ← Nat.and_div_two, ← Nat.or_div_two] at ih
    have e1 := Nat.div_add_mod (a ^^^ b) 2
    have e2 := Nat.div_add_mod (a &&& b) 2
    have e3 := Nat.div_add_mod (a ||| b) 2
    have t : ∀ x : Nat, x % 2 = (x.testBit 0).toNat := fun x => by
      rw [Nat.testBit_zero]
      rcases Nat.mod_two_eq_zero_or_one x with q | q <;> simp [q]
    have m1 := t (a ^^^ b)
    have m2 := t (a &&& b)
    have m3 := t (a ||| b)
    rw [Nat.testBit_xor] at m1
    rw [Nat.testBit_and] at m2
    rw [Nat.testBit_or] at m3
    have : (a ^^^ b) % 2 + (a &&& b) % 2 = (a ||| b) % 2 := by
      rw [m1, m2, m3]
      cases a.testBit 0 <;> cases b.testBit 0 <;> rfl
    omega
end MC

/-! the mathematics of gates -/
namespace GM
open PySem
end GM

set_option maxHeartbeats 4000000
namespace L2
open PySem PySem.Spec PyProof.Rows
/-! a test that falls through: what holds behind it -/
def tMid (t u : TS) : TS := tSeq t u
theorem mid {t u : TS} {D : Ends} {σ : St} {H : Hp} (M : St → Hp → Prop) (h1 : ∀ N : St → Hp → Prop, (∀ σ' H', M σ' H' → N σ' H') → t { D with nx := N } σ H) (h2 : ∀ σ' H', M σ' H' → u D σ' H') : tMid t u D σ H := h1 _ h2
theorem pss_mid {X : Cx} {st : Stmt} {rest : List Stmt} {t u : TS} (h : PS X st t) (hr : PSs X rest u) : PSs X (st :: rest) (tMid t u) := pss_cons h hr
theorem mtr {X : Cx} {id : String} {r : V → List V → Hp → VK → Prop} (h : MtM X id r) : MtR X id r := h
/-! str.find -/
/-! a comprehension by an invariant, whatever its target -/
/-! what stays -/
/-- all things but lists stay -/
def SameN (H H' : Hp) : Prop := ∀ b o, H b = some o → (∀ xs, o ≠ .lst xs) → H' b = some o
section
variable {K : PySem.W.Frag} {H H' H0 H1 : Hp} {l a : Addr} {xs ys : List V} {o : HO}
theorem Same.n (s : Same H H') : SameN H H' := fun b o e _ => s b o e
theorem SameN.trans (s : SameN H H') (t : SameN H' H1) : SameN H H1 := fun b o e n => t b o (s b o e n) n
theorem SameN.refl (H : Hp) : SameN H H := fun _ _ e _ => e
theorem SameN.clear (h : H l = some (.lst xs)) : SameN H (upd H l (.lst ys)) := fun b o e n => by rw [upd_ne (ne_of e h (n xs))]; exact e
theorem Same.put (s : Same H0 H) (h : H0 l = none) : Same H0 (upd H l o) := fun b u e => by rw [upd_ne (ne_of_none e h)]; exact s b u e
theorem Same.tup (e : Same H H') (h : SqT K H a xs) : SqT K H' a xs := by
  rcases h with (h | ⟨o, h⟩) | h
  · exact .inl (.inl (e _ _ h))
  · exact .inl (.inr ⟨o, e _ _ h⟩)
  · exact .inr h
/-- the things at which N holds stay -/
def Keep (N : Addr → Prop) (H H' : Hp) : Prop := ∀ b o, N b → H b = some o → H' b = some o
theorem Same.keep {N : Addr → Prop} (s : Same H H') : Keep N H H' := fun b o _ e => s b o e
theorem Keep.trans {N : Addr → Prop} (s : Keep N H H') (t : Keep N H' H1) : Keep N H H1 := fun b o n e => t b o n (s b o n e)
theorem Keep.put {N : Addr → Prop} (h : ¬ N l) : Keep N H (upd H l o) := fun b u n e => by
  have hne : b ≠ l := fun z => h (by rw [← z]; exact n)
  rw [upd_ne hne]; exact e
theorem Keep.seq {N : Addr → Prop} (e : Keep N H H') (n : N a) (h : SqL K H a xs) : SqL K H' a xs := by
  rcases h with (h | ⟨o, h⟩) | h
  · exact .inl (.inl (e _ _ n h))
  · exact .inl (.inr ⟨o, e _ _ n h⟩)
  · exact .inr h
theorem Keep.tup {N : Addr → Prop} (e : Keep N H H') (n : N a) (h : SqT K H a xs) : SqT K H' a xs := by
  rcases h with (h | ⟨o, h⟩) | h
  · exact .inl (.inl (e _ _ n h))
  · exact .inl (.inr ⟨o, e _ _ n h⟩)
  · exact .inr h
theorem New.free (n : New H a o H') : H a = none := n.was
end
/-! texts -/
theorem fold_rep (c : Nat) : ∀ (k : Nat) (acc : Array Nat), ((List.replicate k (#[c] : Array Nat)).foldl (· ++ ·) acc).toList = acc.toList ++ List.replicate k c
  | 0, acc => by simp
  | k + 1, acc => by
    rw [List.replicate_succ, List.foldl_cons, fold_rep c k, List.replicate_succ]
    simp
/-! items by their place -/
section
variable {K : PySem.W.Frag} {H : Hp} {p : Addr} {i : Int} {F : V → Prop}
theorem ixI {cs : List Int} (hS : SqL K H p (cs.map V.int)) (h0 : 0 ≤ i) (h1 : i < cs.length) (h : F (.int (cs.getD i.toNat 0))) : ∃ xs v, (SqL K H p xs ∨ SqT K H p xs) ∧ atI xs i = some v ∧ F v := ⟨_, _, .inl hS, atI_map 0 h0 h1, h⟩
end
/-! tables of texts -/
end L2

set_option maxHeartbeats 4000000
namespace L2
open PySem PySem.Spec PyProof.Rows
/-! list(range(n)) -/
/-! shifts of any size -/
def CShl (i j : Int) : Prop := 0 ≤ j ∧ (Builtin.Int.intBits i : Int) + j ≤ 2 ^ 27
theorem o_shlB {X : Cx} : OpR X (binaryOp .LShift) (cI2c CShl fun i j => .int (i * 2 ^ j.toNat)) := (opI (C := CShl) (g := fun i j => i * 2 ^ j.toNat) fun _ _ _ _ _ _ _ hc q => lshift_int hc.1 hc.2 q).imp fun _ _ _ _ h => cI2c_of h
theorem shl_nat {c k w : Nat} (h : c < 2 ^ k) (hk : k + w ≤ 2 ^ 27) : CShl c w := by
  have := intBits_le (a := (c : Int)) (k := k) (by simpa using h)
  exact ⟨by omega, by omega⟩
theorem shl_val (c w : Nat) : ((c : Int) * 2 ^ ((w : Int)).toNat : Int) = ((c * 2 ^ w : Nat) : Int) := by simp
/-! bits of naturals -/
theorem and_nat (a b : Nat) : Builtin.bitAnd (a : Int) (b : Int) = ((a &&& b : Nat) : Int) := by rw [bitAnd_pp (by omega) (by omega)]; simp
theorem or_nat (a b : Nat) : Builtin.bitOr (a : Int) (b : Int) = ((a ||| b : Nat) : Int) := by
  rw [bitOr_and, and_nat]
  have := MC.xor_and (a + 1) a b (Nat.lt_succ_self _)
  have h2 : (a ||| b) + (a &&& b) = a + b := by
    have e : ∀ (n a b : Nat), a < n → (a ||| b) + (a &&& b) = a + b := by
      intro n
      induction n with
      | zero => intro a b h; omega
      | succ n ih =>
        intro a b h
        by_cases ha : a = 0
        · subst ha; simp
        have i1 := ih (a / 2) (b / 2) (by omega)
        rw [← Nat.and_div_two, ← Nat.or_div_two] at i1
        have t : ∀ x : Nat, x % 2 = (x.testBit 0).toNat := fun x => by
          rw [Nat.testBit_zero]
          rcases Nat.mod_two_eq_zero_or_one x with q | q <;> simp [q]
        have m2 := t (a &&& b)
        have m3 := t (a ||| b)
        rw [Nat.testBit_and] at m2
        rw [Nat.testBit_or] at m3
        have ma := t a
        have mb := t b
        have : (a ||| b) % 2 + (a &&& b) % 2 = a % 2 + b % 2 := by
          rw [m2, m3, ma, mb]
          cases a.testBit 0 <;> cases b.testBit 0 <;> rfl
        omega
    exact e (a + 1) a b (Nat.lt_succ_self _)
  omega
theorem xor_nat (a b : Nat) : Builtin.bitXor (a : Int) (b : Int) = ((a ^^^ b : Nat) : Int) := by
  unfold Builtin.bitXor
  rw [or_nat, and_nat]
  have := MC.xor_and (a + 1) a b (Nat.lt_succ_self _)
  omega
end L2

set_option maxHeartbeats 4000000
/-! columns: each bit tells what the truths tell -/
namespace GM
open PySem L2
def nz (n : Nat) : Int := (n : Int)
/-- all the table's numbers are below -/
def Bd (n : Nat) (e : List (Str × Nat)) : Prop := ∀ k v, ME.vS e k = some v → v < 2 ^ n
theorem Bd.put {n : Nat} {e : List (Str × Nat)} (h : Bd n e) (k : Str) {v : Nat} (hv : v < 2 ^ n) : Bd n (ME.pS e k v) := fun j u hu => by
  rw [ME.vS_pS] at hu
  split at hu
  · cases hu; exact hv
  · exact h j u hu
end GM

set_option maxHeartbeats 4000000
namespace L2
open PySem PySem.Spec PyProof.Rows
/-! a row that nobody comes to -/
/-! powers -/
theorem o_pow {X : Cx} : OpR X (binaryOp .Pow) (cI2c CPow fun i j => .int (i ^ j.toNat)) := op_pow.imp fun _ _ _ _ h => cI2c_of h
/-! {} of tuples as keys -/
theorem tDNewT_n {σ : St} {H : Hp} {Q : VK} : tDNewT σ H Q = ∀ p H', New H p (.dT []) H' → Q (.ref p) H' := by
  unfold tDNewT; rw [new_eq (F := fun p H' => Q (.ref p) H')]
/-! texts cut into words -/
section
open Builtin Builtin.Str
end
/-! str.split -/
/-! str.join -/
/-! int.bit_length -/
end L2
namespace L2
open PySem PySem.Spec PyProof.Rows
theorem Same.nil {H H' : Hp} {p : Addr} (s : Same H H') (h : H' p = none) : H p = none := by
  cases e : H p with
  | none => rfl
  | some o => rw [s _ _ e] at h; cases h
/-- a new object, whatever else is new -/
structure Mad (H : Hp) (p : Addr) (o : HO) (H' : Hp) : Prop where
  was : H p = none
  at_ : H' p = some o
  same : Same H H'
theorem New.mad {H H' : Hp} {p : Addr} {o : HO} (n : New H p o H') : Mad H p o H' := ⟨n.was, n.at_, n.same⟩
theorem Mad.pre {H H0 H' : Hp} {p : Addr} {o : HO} (s : Same H0 H) (n : Mad H p o H') : Mad H0 p o H' := ⟨s.nil n.was, n.at_, s.trans n.same⟩
theorem Mad.sq {K : PySem.W.Frag} {H H' : Hp} {p : Addr} {xs : List V} (n : Mad H p (.lst xs) H') : SqL K H' p xs := .of n.at_
/-! one sign, several times -/
theorem mul_one (c : Nat) (n : Int) : (Txt.mul ⟨#[c]⟩ n).cps.toList = List.replicate n.toNat c := by
  unfold Txt.mul
  by_cases h1 : n < 1
  · rw [if_pos h1]
    have : n.toNat = 0 := by omega
    rw [this]
    rfl
  · rw [if_neg h1]
    by_cases h2 : (n == 1 || Str.length ⟨#[c]⟩ == 0) = true
    · rw [if_pos h2]
      have h3 : n = 1 := by
        rw [Bool.or_eq_true] at h2
        rcases h2 with q | q
        · exact beq_iff_eq.mp q
        · exact absurd (beq_iff_eq.mp q) (by show ¬ (1 : Nat) = 0; decide)
      subst h3
      rfl
    · rw [if_neg h2]
      show ((List.replicate n.toNat (#[c] : Array Nat)).foldl (· ++ ·) #[]).toList = _
      rw [fold_rep]
      simp
/-! a sign among the letters -/
end L2

/-! folds: mathematics -/
namespace MF
abbrev Pr := Int × Int
def tn (t : Int) : Int := if t % 2 = 0 then t + 1 else t - 1
def lo (s t : Int) : Int := if t < s then t else s
def hi (s t : Int) : Int := if t > s then t else s
def fnd : Int → List Pr → Pr → Option Int
  | _, [], _ => none
  | n, q :: r, p => if q = p then some n else fnd (n + 1) r p
def sure (s t : Int) : Option Int :=
  if lo s t = 0 then some 0 else if lo s t = 1 ∨ lo s t = hi s t then some (hi s t) else if lo s t = tn (hi s t) then some 0 else none
/-- the knot of two ties, and the pairs behind -/
def kn (m : Int) (ps : List Pr) (p : Pr) : Int := (fnd (m + 1) ps p).getD (m + 1 + ps.length)
def kp (m : Int) (ps : List Pr) (p : Pr) : List Pr := if (fnd (m + 1) ps p).isSome then ps else ps ++ [p]
def bt (m : Int) (ps : List Pr) (s t : Int) : Int := match sure s t with | some v => v | none => 2 * kn m ps (lo s t, hi s t)
def bp (m : Int) (ps : List Pr) (s t : Int) : List Pr := match sure s t with | some _ => ps | none => kp m ps (lo s t, hi s t)
theorem fnd_some : ∀ {n : Int} {ps : List Pr} {p : Pr} {i : Int}, fnd n ps p = some i → n ≤ i ∧ i < n + ps.length ∧ ps[(i - n).toNat]? = some p
  | n, [], p, i, h => by simp [fnd] at h
  | n, q :: r, p, i, h => by
    unfold fnd at h
    by_cases e : q = p
    · rw [if_pos e] at h
      have := Option.some.inj h
      subst this
      refine ⟨by omega, by simp only [List.length_cons]; omega, ?_⟩
      rw [show (n - n).toNat = 0 by omega, List.getElem?_cons_zero, e]
    · rw [if_neg e] at h
      obtain ⟨h1, h2, h3⟩ := fnd_some h
      refine ⟨by omega, by simp only [List.length_cons]; omega, ?_⟩
      rw [show (i - n).toNat = (i - (n + 1)).toNat + 1 by omega, List.getElem?_cons_succ]
      exact h3
theorem fnd_none : ∀ {n : Int} {ps : List Pr} {p : Pr}, fnd n ps p = none → p ∉ ps
  | n, [], p, h => by simp
  | n, q :: r, p, h => by
    unfold fnd at h
    by_cases e : q = p
    · rw [if_pos e] at h; cases h
    · rw [if_neg e] at h
      intro hm
      rcases List.mem_cons.mp hm with e' | e'
      · exact e e'.symm
      · exact fnd_none h e'
theorem fnd_snoc : ∀ {n : Int} {ps : List Pr} {p : Pr}, fnd n ps p = none → fnd n (ps ++ [p]) p = some (n + ps.length)
  | n, [], p, h => by simp [fnd]
  | n, q :: r, p, h => by
    have e : ¬ q = p := fun e => by unfold fnd at h; rw [if_pos e] at h; cases h
    unfold fnd at h
    rw [if_neg e] at h
    show fnd n (q :: (r ++ [p])) p = _
    unfold fnd
    rw [if_neg e, fnd_snoc h]
    congr 1
    simp only [List.length_cons]
    omega
theorem kp_len (m : Int) (ps : List Pr) (p : Pr) : ps.length ≤ (kp m ps p).length ∧ (kp m ps p).length ≤ ps.length + 1 := by
  unfold kp; split <;> simp
theorem bp_len (m : Int) (ps : List Pr) (s t : Int) : ps.length ≤ (bp m ps s t).length ∧ (bp m ps s t).length ≤ ps.length + 1 := by
  unfold bp; split
  · omega
  · exact kp_len ..
theorem kn_bound (m : Int) (ps : List Pr) (p : Pr) : m + 1 ≤ kn m ps p ∧ kn m ps p < m + 1 + (kp m ps p).length := by
  unfold kn kp
  cases h : fnd (m + 1) ps p with
  | none => simp; omega
  | some i =>
    have := fnd_some h
    simp; omega
/-- all pairs are of ties -/
def Ok (m : Int) (ps : List Pr) : Prop := ∀ (i : Nat) (p : Pr), ps[i]? = some p → 2 ≤ p.1 ∧ p.1 < p.2 ∧ p.1 / 2 ≠ p.2 / 2 ∧ p.2 < 2 * (m + 1 + i)
theorem sure_none {s t : Int} (hs : 0 ≤ s) (ht : 0 ≤ t) (h : sure s t = none) : 2 ≤ lo s t ∧ lo s t < hi s t ∧ lo s t / 2 ≠ hi s t / 2 := by
  unfold sure at h
  have hlh : lo s t ≤ hi s t ∧ 0 ≤ lo s t := by unfold lo hi; split <;> split <;> omega
  by_cases h1 : lo s t = 0
  · rw [if_pos h1] at h; cases h
  rw [if_neg h1] at h
  by_cases h2 : lo s t = 1 ∨ lo s t = hi s t
  · rw [if_pos h2] at h; cases h
  rw [if_neg h2] at h
  by_cases h3 : lo s t = tn (hi s t)
  · rw [if_pos h3] at h; cases h
  refine ⟨by omega, by omega, fun e => h3 ?_⟩
  unfold tn
  split <;> omega
theorem sure_some {s t T v : Int} (hs : 0 ≤ s) (ht : 0 ≤ t) (hs' : s < T) (ht' : t < T) (h : sure s t = some v) : 0 ≤ v ∧ v < T := by
  unfold sure at h
  have hlh : lo s t ≤ hi s t ∧ 0 ≤ lo s t ∧ hi s t < T := by unfold lo hi; split <;> split <;> omega
  by_cases h1 : lo s t = 0
  · rw [if_pos h1] at h; cases h; omega
  rw [if_neg h1] at h
  by_cases h2 : lo s t = 1 ∨ lo s t = hi s t
  · rw [if_pos h2] at h; cases h; omega
  rw [if_neg h2] at h
  by_cases h3 : lo s t = tn (hi s t)
  · rw [if_pos h3] at h; cases h; omega
  rw [if_neg h3] at h; cases h
theorem hi_lt {s t T : Int} (h1 : s < T) (h2 : t < T) : hi s t < T := by unfold hi; split <;> omega
theorem lo_le_hi (s t : Int) : lo s t ≤ hi s t := by unfold lo hi; split <;> split <;> omega
theorem Ok.bp {m : Int} {ps : List Pr} (h : Ok m ps) {s t : Int} (hs : 0 ≤ s) (ht : 0 ≤ t) (hs' : s < 2 * (m + 1 + ps.length)) (ht' : t < 2 * (m + 1 + ps.length)) : Ok m (bp m ps s t) := by
  unfold MF.bp
  cases e : sure s t with
  | some v => exact h
  | none =>
    show Ok m (kp m ps (lo s t, hi s t))
    unfold kp
    split
    · exact h
    · intro i p hp
      rcases Nat.lt_or_ge i ps.length with hi' | hi'
      · rw [List.getElem?_append_left hi'] at hp
        exact h i p hp
      · rw [List.getElem?_append_right hi'] at hp
        have h0 : i - ps.length = 0 := by
          rcases Nat.eq_zero_or_pos (i - ps.length) with z | z
          · exact z
          · rw [List.getElem?_eq_none (by simp; omega)] at hp; cases hp
        rw [h0] at hp
        have := Option.some.inj hp
        subst this
        have h3 := sure_none hs ht e
        have h4 := hi_lt hs' ht'
        refine ⟨h3.1, h3.2.1, h3.2.2, ?_⟩
        show MF.hi s t < _
        have : i = ps.length := by omega
        subst this
        exact h4
theorem bt_bound {m : Int} (hm : 0 ≤ m) {ps : List Pr} {s t : Int} (hs : 0 ≤ s) (ht : 0 ≤ t) (hs' : s < 2 * (m + 1 + ps.length)) (ht' : t < 2 * (m + 1 + ps.length)) : 0 ≤ bt m ps s t ∧ bt m ps s t < 2 * (m + 1 + (MF.bp m ps s t).length) := by
  unfold bt MF.bp
  cases e : sure s t with
  | some v => exact sure_some hs ht hs' ht' e
  | none =>
    have := kn_bound m ps (lo s t, hi s t)
    show 0 ≤ 2 * kn m ps (lo s t, hi s t) ∧ 2 * kn m ps (lo s t, hi s t) < 2 * (m + 1 + ((kp m ps (lo s t, hi s t)).length : Int))
    omega
end MF

/-! gates of ties: mathematics -/
namespace MF
abbrev RS := Int × List Pr
/-- t is a tie of m inputs and the pairs ps -/
def InT (m : Int) (ps : List Pr) (t : Int) : Prop := 0 ≤ t ∧ t < 2 * (m + 1 + ps.length)
structure St (m : Int) (ps : List Pr) (n : Nat) (r : RS) : Prop where
  ok : Ok m ps → Ok m r.2
  inn : InT m r.2 r.1
  lo : ps.length ≤ r.2.length
  hi : r.2.length ≤ ps.length + n
  pre : ∃ e, r.2 = ps ++ e
  nd : ps.Nodup → r.2.Nodup
theorem InT.mono {m t : Int} {ps qs : List Pr} (h : InT m ps t) (l : ps.length ≤ qs.length) : InT m qs t := ⟨h.1, by have := h.2; omega⟩
theorem InT.tn {m t : Int} {ps : List Pr} (h : InT m ps t) : InT m ps (tn t) := by
  have h1 := h.1
  have h2 := h.2
  unfold InT MF.tn
  split <;> omega
theorem bp_pre (m : Int) (ps : List Pr) (s t : Int) : ∃ e, bp m ps s t = ps ++ e := by
  unfold bp
  split
  · exact ⟨[], by simp⟩
  · unfold kp
    split
    · exact ⟨[], by simp⟩
    · exact ⟨_, rfl⟩
theorem bp_nd {m s t : Int} {ps : List Pr} (h : ps.Nodup) : (bp m ps s t).Nodup := by
  unfold bp
  split
  · exact h
  · unfold kp
    cases e : fnd (m + 1) ps (lo s t, hi s t) with
    | some i => exact h
    | none =>
      have := fnd_none e
      show (ps ++ [_]).Nodup
      rw [List.nodup_append]
      refine ⟨h, by simp, fun a ha b hb => ?_⟩
      rw [List.mem_singleton] at hb
      subst hb
      exact fun z => this (z ▸ ha)
def bo (m s t : Int) (ps : List Pr) : RS := (bt m ps s t, bp m ps s t)
theorem bo_st {m s t : Int} {ps : List Pr} (hm : 0 ≤ m) (hs : InT m ps s) (ht : InT m ps t) : St m ps 1 (bo m s t ps) :=
  ⟨fun h => h.bp hs.1 ht.1 hs.2 ht.2, bt_bound hm hs.1 ht.1 hs.2 ht.2, (bp_len m ps s t).1, (bp_len m ps s t).2, bp_pre m ps s t, fun h => bp_nd h⟩
theorem St.trans {m : Int} {ps qs : List Pr} {n k : Nat} {t : Int} {r : RS} (h : St m ps n (t, qs)) (g : St m qs k r) : St m ps (n + k) r :=
  ⟨fun o => g.ok (h.ok o), g.inn, Nat.le_trans h.lo g.lo, by have h1 := h.hi; have h2 := g.hi; simp only at h1; omega, by
    obtain ⟨e1, h1⟩ := h.pre
    obtain ⟨e2, h2⟩ := g.pre
    simp only at h1
    exact ⟨e1 ++ e2, by rw [h2, h1, List.append_assoc]⟩, fun o => g.nd (h.nd o)⟩
theorem St.tn {m : Int} {ps : List Pr} {n : Nat} {r : RS} (h : St m ps n r) : St m ps n (tn r.1, r.2) := ⟨h.ok, h.inn.tn, h.lo, h.hi, h.pre, h.nd⟩
theorem St.refl {m t : Int} {ps : List Pr} (h : InT m ps t) : St m ps 0 (t, ps) := ⟨fun o => o, h, Nat.le_refl _, Nat.le_refl _, ⟨[], by simp⟩, fun o => o⟩
end MF

/-! folds lit: columns as numbers -/
namespace MF
def Sub (F x : Nat) : Prop := ∀ j, x.testBit j = true → F.testBit j = true
theorem sub_zero (F : Nat) : Sub F 0 := fun j h => by simp at h
theorem Sub.and {F x y : Nat} (h : Sub F x) : Sub F (x &&& y) := fun j hj => h j (by rw [Nat.testBit_and, Bool.and_eq_true] at hj; exact hj.1)
theorem Sub.or {F x y : Nat} (h : Sub F x) (g : Sub F y) : Sub F (x ||| y) := fun j hj => by
  rw [Nat.testBit_or, Bool.or_eq_true] at hj
  exact hj.elim (h j) (g j)
theorem Sub.neg {F x : Nat} (h : Sub F x) : Sub F (F ^^^ x) := fun j hj => by
  rw [Nat.testBit_xor] at hj
  cases hf : F.testBit j with
  | true => rfl
  | false =>
    rw [hf] at hj
    have := h j (by simpa using hj)
    rw [hf] at this
    exact this
/-- the column of a tie by those of the knots -/
def litC (F : Nat) (cs : List Nat) (t : Int) : Nat := if t % 2 = 1 then F ^^^ cs.getD (t / 2).toNat 0 else cs.getD (t / 2).toNat 0
def growC (F : Nat) : List Nat → List Pr → List Nat
  | cs, [] => cs
  | cs, p :: r => growC F (cs ++ [litC F cs p.1 &&& litC F cs p.2]) r
theorem growC_app (F : Nat) : ∀ (ps qs : List Pr) (cs : List Nat), growC F cs (ps ++ qs) = growC F (growC F cs ps) qs
  | [], qs, cs => rfl
  | p :: r, qs, cs => growC_app F r qs _
theorem growC_len (F : Nat) : ∀ (ps : List Pr) (cs : List Nat), (growC F cs ps).length = cs.length + ps.length
  | [], cs => rfl
  | p :: r, cs => by
    show (growC F (cs ++ [_]) r).length = _
    rw [growC_len F r]
    simp only [List.length_append, List.length_cons, List.length_nil]
    omega
theorem growC_pre (F : Nat) : ∀ (ps : List Pr) (cs : List Nat), ∃ e, growC F cs ps = cs ++ e
  | [], cs => ⟨[], by simp [growC]⟩
  | p :: r, cs => by
    obtain ⟨e, h⟩ := growC_pre F r (cs ++ [litC F cs p.1 &&& litC F cs p.2])
    exact ⟨[litC F cs p.1 &&& litC F cs p.2] ++ e, by show growC F (cs ++ [_]) r = _; rw [h, List.append_assoc]⟩
theorem litC_app {F : Nat} {cs e : List Nat} {t : Int} (h0 : 0 ≤ t) (h : t < 2 * cs.length) : litC F (cs ++ e) t = litC F cs t := by
  have hl : (t / 2).toNat < cs.length := by omega
  unfold litC
  have : (cs ++ e).getD (t / 2).toNat 0 = cs.getD (t / 2).toNat 0 := by
    simp [List.getD, List.getElem?_append_left hl]
  rw [this]
def AllSub (F : Nat) (cs : List Nat) : Prop := ∀ c ∈ cs, Sub F c
theorem AllSub.getD {F : Nat} {cs : List Nat} (h : AllSub F cs) (i : Nat) : Sub F (cs.getD i 0) := by
  rcases Nat.lt_or_ge i cs.length with hi | hi
  · have : cs.getD i 0 = cs[i] := by simp [List.getD, hi]
    rw [this]
    exact h _ (List.getElem_mem hi)
  · have : cs.getD i 0 = 0 := by simp [List.getD, hi]
    rw [this]
    exact sub_zero F
theorem AllSub.lit {F : Nat} {cs : List Nat} (h : AllSub F cs) (t : Int) : Sub F (litC F cs t) := by
  unfold litC
  split
  · exact (h.getD _).neg
  · exact h.getD _
theorem AllSub.grow {F : Nat} : ∀ (ps : List Pr) (cs : List Nat), AllSub F cs → AllSub F (growC F cs ps)
  | [], cs, h => h
  | p :: r, cs, h => by
    refine AllSub.grow r _ fun c hc => ?_
    rcases List.mem_append.mp hc with hc | hc
    · exact h c hc
    · rw [List.mem_singleton.mp hc]
      exact (h.lit p.1).and
/-- what the columns of knot 0 and the inputs are to be -/
structure Base (F : Nat) (m : Int) (b : List Nat) : Prop where
  len : (b.length : Int) = m + 1
  zero : b.getD 0 0 = 0
  sub : AllSub F b
section
variable {F : Nat} {m : Int} {b : List Nat}
abbrev L (F : Nat) (b : List Nat) (ps : List Pr) (t : Int) : Nat := litC F (growC F b ps) t
theorem L_ext (B : Base F m b) {ps e : List Pr} {t : Int} (h : InT m ps t) : L F b (ps ++ e) t = L F b ps t := by
  unfold L
  rw [growC_app]
  obtain ⟨x, hx⟩ := growC_pre F e (growC F b ps)
  rw [hx]
  refine litC_app h.1 ?_
  have h2 := h.2
  have h3 := growC_len F ps b
  have h4 := B.len
  omega
/-- behind a step -/
theorem St.lit (B : Base F m b) {ps : List Pr} {n : Nat} {r : RS} (h : St m ps n r) {x : Int} (hx : InT m ps x) : L F b r.2 x = L F b ps x := by
  obtain ⟨e, he⟩ := h.pre
  rw [he]
  exact L_ext B hx
end
end MF

set_option maxHeartbeats 4000000
namespace L2
open PySem PySem.Spec PyProof.Rows
/-! pairs of ties: a list of tuples, a dict by tuples -/
def knK (p : MF.Pr) : List Key := [.inl p.1, .inl p.2]
theorem knK_inj {p q : MF.Pr} (h : knK p = knK q) : p = q := by
  unfold knK at h
  injection h with h1 h2
  injection h2 with h3 _
  exact Prod.ext (Sum.inl.inj h1) (Sum.inl.inj h3)
def kvF : Int → List MF.Pr → List (List Key × V)
  | _, [] => []
  | n, p :: r => (knK p, .int n) :: kvF (n + 1) r
theorem val_kvF : ∀ (n : Int) (ps : List MF.Pr) (p : MF.Pr), valV (kvF n ps) (knK p) = (MF.fnd n ps p).map V.int
  | _, [], _ => rfl
  | n, q :: r, p => by
    show valV ((knK q, V.int n) :: kvF (n + 1) r) (knK p) = _
    unfold MF.fnd
    by_cases e : q = p
    · rw [if_pos e, valV_pos (p := (knK q, V.int n)) (congrArg knK e)]; rfl
    · rw [if_neg e, valV_neg (p := (knK q, V.int n)) (fun z => e (knK_inj z)), val_kvF (n + 1) r p]
theorem kvF_snoc : ∀ (n : Int) (ps : List MF.Pr) (p : MF.Pr), kvF n (ps ++ [p]) = kvF n ps ++ [(knK p, .int (n + ps.length))]
  | n, [], p => by simp [kvF]
  | n, q :: r, p => by
    show (knK q, V.int n) :: kvF (n + 1) (r ++ [p]) = (knK q, V.int n) :: (kvF (n + 1) r ++ _)
    rw [kvF_snoc (n + 1) r p]
    congr 5
    simp only [List.length_cons]
    omega
theorem len_kvF : ∀ (n : Int) (ps : List MF.Pr), (kvF n ps).length = ps.length
  | _, [] => rfl
  | n, q :: r => by show (kvF (n + 1) r).length + 1 = r.length + 1; rw [len_kvF (n + 1) r]
theorem put_kvF {n : Int} {ps : List MF.Pr} {p : MF.Pr} (h : MF.fnd n ps p = none) : putK (kvF n ps) (knK p) (.int (n + ps.length)) = kvF n (ps ++ [p]) := by
  unfold putK
  rw [valV_any, val_kvF, h, kvF_snoc]
  rfl
abbrev En := Addr × MF.Pr
abbrev psOf (es : List En) : List MF.Pr := es.map (·.2)
structure PairsAt (H : Hp) (pl kl : Addr) (m : Int) (es : List En) : Prop where
  lst : H pl = some (.lst (es.map fun e => V.ref e.1))
  dct : H kl = some (.dT (kvF (m + 1) (psOf es)))
  tup : ∀ e ∈ es, H e.1 = some (.tup [.int e.2.1, .int e.2.2])
def Un2 (pl kl : Addr) (H H' : Hp) : Prop := ∀ b o, b ≠ pl → b ≠ kl → H b = some o → H' b = some o
section
variable {H H' H1 : Hp} {pl kl p2 k2 f dx C : Addr} {m : Int} {es : List En} {o : HO}
theorem Un2.refl : Un2 pl kl H H := fun _ _ _ _ e => e
theorem Un2.trans (u : Un2 pl kl H H') (v : Un2 pl kl H' H1) : Un2 pl kl H H1 := fun b o n1 n2 e => v b o n1 n2 (u b o n1 n2 e)
theorem Same.un (s : Same H H') : Un2 pl kl H H' := fun b o _ _ e => s b o e
theorem un_l : Un2 pl kl H (upd H pl o) := fun b u n1 _ e => by rw [upd_ne n1]; exact e
theorem un_k : Un2 pl kl H (upd H kl o) := fun b u _ n2 e => by rw [upd_ne n2]; exact e
theorem PairsAt.same (h : PairsAt H pl kl m es) (s : Same H H') : PairsAt H' pl kl m es := ⟨s _ _ h.lst, s _ _ h.dct, fun e he => s _ _ (h.tup e he)⟩
theorem PairsAt.un (h : PairsAt H pl kl m es) {xs : List V} {kv : List (List Key × V)} (hp : H p2 = some (.lst xs)) (hk : H k2 = some (.dT kv)) (n1 : pl ≠ p2) (n2 : kl ≠ k2) (u : Un2 p2 k2 H H') : PairsAt H' pl kl m es :=
  ⟨u _ _ n1 (ne_of h.lst hk (fun z => nomatch z)) h.lst, u _ _ (ne_of h.dct hp (fun z => nomatch z)) n2 h.dct,
    fun e he => u _ _ (ne_of (h.tup e he) hp (fun z => nomatch z)) (ne_of (h.tup e he) hk (fun z => nomatch z)) (h.tup e he)⟩
structure FoldAt (C : Addr) (H : Hp) (f : Addr) (m : Int) (es : List En) (dx pl kl : Addr) : Prop where
  ins : H f = some (.ins C dx [("many", .int m), ("pairs", .ref pl), ("knots", .ref kl)])
  prs : PairsAt H pl kl m es
theorem FoldAt.same (h : FoldAt C H f m es dx pl kl) (s : Same H H') : FoldAt C H' f m es dx pl kl := ⟨s _ _ h.ins, h.prs.same s⟩
theorem FoldAt.un (h : FoldAt C H f m es dx pl kl) {xs : List V} {kv : List (List Key × V)} (hp : H p2 = some (.lst xs)) (hk : H k2 = some (.dT kv)) (n1 : pl ≠ p2) (n2 : kl ≠ k2) (u : Un2 p2 k2 H H') : FoldAt C H' f m es dx pl kl :=
  ⟨u _ _ (ne_of h.ins hp (fun z => nomatch z)) (ne_of h.ins hk (fun z => nomatch z)) h.ins, h.prs.un hp hk n1 n2 u⟩
theorem PairsAt.nlk (h : PairsAt H pl kl m es) : pl ≠ kl := ne_of h.lst h.dct (fun z => nomatch z)
/-- one more pair: the dict, then the list -/
theorem PairsAt.put (h : PairsAt H pl kl m es) {tp : Addr} {p : MF.Pr} (ht : H tp = some (.tup [.int p.1, .int p.2])) (hf : MF.fnd (m + 1) (psOf es) p = none) :
    PairsAt (upd (upd H kl (.dT (kvF (m + 1) (psOf es ++ [p])))) pl (.lst ((es.map fun e => V.ref e.1) ++ [.ref tp]))) pl kl m (es ++ [(tp, p)]) := by
  have nt : ∀ {b : Addr} {xs : List V}, H b = some (.tup xs) → upd (upd H kl (.dT (kvF (m + 1) (psOf es ++ [p])))) pl (.lst ((es.map fun e => V.ref e.1) ++ [.ref tp])) b = some (.tup xs) := fun {b xs} e => by
    rw [upd_ne (ne_of e h.lst (fun z => nomatch z)), upd_ne (ne_of e h.dct (fun z => nomatch z))]; exact e
  refine ⟨?_, ?_, fun e he => ?_⟩
  · rw [upd_same, List.map_append]; rfl
  · rw [upd_ne h.nlk.symm, upd_same, psOf, psOf, List.map_append]; rfl
  · rcases List.mem_append.mp he with he | he
    · exact nt (h.tup e he)
    · rw [List.mem_singleton] at he
      subst he
      exact nt ht
end
/-! turned -/
theorem xor_one {t : Int} (h : 0 ≤ t) : Builtin.bitXor t 1 = MF.tn t := by
  obtain ⟨a, rfl⟩ := Int.eq_ofNat_of_zero_le h
  have e := xor_nat a 1
  rw [show ((1 : Nat) : Int) = 1 from rfl] at e
  rw [e]
  have h1 : (a ^^^ 1) / 2 = a / 2 := by rw [Nat.xor_div_two]; simp
  have h2 : (a ^^^ 1) % 2 = (a + 1) % 2 := by
    have := Nat.xor_mod_two_pow (a := a) (b := 1) (n := 1)
    rw [show 2 ^ 1 = 2 from rfl] at this
    rw [this]
    rcases Nat.mod_two_eq_zero_or_one a with q | q
    · rw [q, show 0 ^^^ 1 % 2 = 1 from rfl]; omega
    · rw [q, show 1 ^^^ 1 % 2 = 0 from rfl]; omega
  unfold MF.tn
  split <;> omega
end L2
namespace L2
open PySem PySem.Spec PyProof.Rows
theorem cut_take (xs : List V) {j : Int} (h : 0 ≤ j) : cutV xs none (some j) = xs.take j.toNat := by
  obtain ⟨n, rfl⟩ := Int.eq_ofNat_of_zero_le h
  unfold cutV
  have e1 : HT.sIx xs.length 0 none = 0 := rfl
  have e2 : HT.sIx xs.length xs.length (some (n : Int)) = min n xs.length := HT.sIx_nat ..
  rw [e1, e2, List.drop_zero, Nat.sub_zero, Int.toNat_natCast]
  rcases Nat.le_total n xs.length with h | h
  · rw [Nat.min_eq_left h]
  · rw [Nat.min_eq_right h, List.take_length, List.take_of_length_le h]
theorem getD_refs (es : List En) (n : Nat) (h : n < es.length) : (es.map fun e => V.ref e.1).getD n .non = V.ref (es[n]).1 := by simp [List.getD, h]
end L2

set_option maxHeartbeats 4000000
/-! dict(l), l a list of pairs, over the raw model -/
namespace DL
open PySem DZ
section
variable {prog : Program} {w : World} {A : Around} {E : Value → Shared → Prop} {h : Heap} {g : Array GenState} {d : Drawn} {t : Nat} {os : OsState} {z : Addr} {vs : Array Value} {n : Nat}
end
section
variable {prog : Program} {w : World} {A : Around} {E : Value → Shared → Prop} {s : Shared} {κ : Type} [DecidableEq κ] {knd : KeyKind prog w κ}
end
end DL
namespace L2
open PySem PySem.Spec PyProof.Rows
end L2

set_option maxHeartbeats 4000000
/-! an exception leaves a frame: what changes, and what stays -/
namespace EX
open PySem
/-- h' behind the leaving: the exception at e has a new entry at T; the frames S change their slots alone, the records old turn -/
structure Lv (S : List Addr) (e : Addr) (old : List Addr) (cls : Value) (h h' : Heap) (T : Addr) : Prop where
  ge : h.objs.size ≤ T
  exc : ∃ oe vs, h'.get? e = some oe ∧ oe.cls = cls ∧ oe.data = .fields vs ∧ vs[1]? = some (.ref T) ∧ oe.dict = none
  tb : ∃ oT ts, h'.get? T = some oT ∧ oT.data = .fields ts ∧ ts[3]? = some .none
  keep : ∀ b o, b ∉ S → b ≠ e → b ∉ old → h.get? b = some o → h'.get? b = some o
  slot : ∀ b o, b ∈ S → h.get? b = some o → ∃ sl, h'.get? b = some { o with slots := sl }
theorem map_dict (f : Array Value → Array Value) (o : Obj) : (Obj.mapFields f o).dict = o.dict := by
  unfold Obj.mapFields
  split <;> rfl
section
variable {M : Model} {A : Around} {E : Value → Shared → Prop} {s : Shared}
theorem entry_ok {base : Heap} {env : Env} {outer : List Env} {L e : Addr} {oe : Obj} {vs : Array Value} {hd0 : Value} {nx : Bool} {Q : Unit → Shared → Prop} (hfr : A.frames = some (env :: outer)) (hl : s.heap.FunFrames base (env :: outer)) (hf : env.frame = some L)
    (he : s.heap.get? e = some oe) (hdn : oe.dict = none) (hd : oe.data = .fields vs) (hsz : 1 < vs.size)
    (q : ∀ h' T, Lv ((env :: outer).filterMap (·.frame)) e [] oe.cls s.heap h' T → Q () { s with heap := h' }) :
    wpAny M A (do let a ← frameOf env; let pl ← entryPlaceOf L nx; let b ← EntryCells.newEntry hd0 a .none (rawInt L) .none pl; setField (.ref e) 1 b) (fun _ s' => wpAny M A (setFlight (.ref e) none) Q E s') E s := by
  have eS : e ∉ (env :: outer).filterMap (·.frame) := fun hm => by
    obtain ⟨_, o, ho, hnf⟩ := hl.mem hm
    rw [he] at ho
    cases ho
    exact hnf vs hd
  refine wpAny_bind (wpAny_frameOf_fun hfr hl hf fun k1 x1 => wpAny_bind (wpAny_entryPlaceOf fun pl hpl => ?_))
  unfold EntryCells.newEntry newFields
  refine wpAny_bind (wpAny_newObj_type ?_ (hpl.sizeOk5 _ _ _ _ _))
  have e1 : k1.get? e = some oe := (x1.2.1 e eS).trans he
  generalize hob : ({ cls := .type "traceback", dict := none, data := .fields ([hd0, .ref L, .none, rawInt L, .none] ++ (if pl.isEmpty then List.replicate 6 Value.none else pl)).toArray } : Obj) = ob
  have hobf : ∃ ts, ob.data = .fields ts ∧ 3 < ts.size := ⟨_, by rw [← hob], by simp only [List.size_toArray, List.length_append, List.length_cons, List.length_nil]; omega⟩
  obtain ⟨ts, hts, hts3⟩ := hobf
  have hfreed : ob.isFreed = false := by rw [← hob]; rfl
  have e2 : (k1.push ob).get? e = some oe := Heap.get?_push_of_some _ e1
  refine wpAny_setField e2 hd hsz ?_
  have nTe : k1.objs.size ≠ e := Nat.ne_of_gt (Heap.lt_size e1)
  have d3 := Obj.data_mapFields hd (·.setIfInBounds 1 (Value.ref k1.objs.size))
  have e3 := Heap.get?_update_self (Obj.mapFields (·.setIfInBounds 1 (Value.ref k1.objs.size))) e2 (Obj.isFreed_of_fields d3)
  have t3 := (Heap.get?_update_other (k1.push ob) (Obj.mapFields (·.setIfInBounds 1 (Value.ref k1.objs.size))) (Ne.symm nTe)).trans (Heap.get?_push_size k1 hfreed)
  unfold setFlight
  refine wpAny_bind (wpAny_field e3 d3 (x := .ref k1.objs.size) (by simp [hsz]) ?_)
  rw [if_pos (show (Value.ref k1.objs.size != Value.none) = true by simp)]
  refine wpAny_setField t3 hts hts3 (q _ k1.objs.size ?_)
  have up : ∀ b o, b ≠ e → k1.get? b = some o → (((k1.push ob).update e (Obj.mapFields (·.setIfInBounds 1 (Value.ref k1.objs.size)))).update k1.objs.size (Obj.mapFields (·.setIfInBounds 3 ((none : Option Addr).elim Value.none fun f => rawInt f)))).get? b = some o := fun b o nb hb => by
    rw [Heap.get?_update_other _ _ (Nat.ne_of_gt (Heap.lt_size hb)), Heap.get?_update_other _ _ (Ne.symm nb)]
    exact Heap.get?_push_of_some _ hb
  refine ⟨by rw [x1.1]; exact Nat.le_refl _, ⟨_, _, (Heap.get?_update_other _ _ nTe).trans e3, Obj.cls_mapFields _ _, d3, by simp [hsz], (map_dict _ _).trans hdn⟩, ?_, fun b o hb nb _ hbo => up b o nb ((x1.2.1 b hb).trans hbo), fun b o hb hbo => ?_⟩
  · have d4 := Obj.data_mapFields hts (·.setIfInBounds 3 ((none : Option Addr).elim Value.none fun f => rawInt f))
    exact ⟨_, _, Heap.get?_update_self _ t3 (Obj.isFreed_of_fields d4), d4, by simp [hts3]⟩
  · obtain ⟨sl, hs⟩ := x1.2.2 b o hbo
    exact ⟨sl, up b _ (fun z => eS (z ▸ hb)) hs⟩
/-- a new exception, or one that flew here with its last entry at T0 -/
def Trc (h : Heap) (e : Addr) (vs : Array Value) (old : List Addr) : Prop :=
  (vs[1]? = some .none ∧ old = []) ∨ ∃ T0 oT ts, old = [T0] ∧ vs[1]? = some (.ref T0) ∧ T0 ≠ e ∧ h.get? T0 = some oT ∧ oT.data = .fields ts ∧ ts[3]? = some .none
theorem lands {base : Heap} {env : Env} {outer : List Env} {L e : Addr} {oe : Obj} {vs : Array Value} {old : List Addr} {Q : Unit → Shared → Prop} (hfr : A.frames = some (env :: outer)) (hl : s.heap.FunFrames base (env :: outer)) (hf : env.frame = some L)
    (he : s.heap.get? e = some oe) (hdn : oe.dict = none) (hd : oe.data = .fields vs) (tr : Trc s.heap e vs old)
    (q : ∀ h' T, Lv ((env :: outer).filterMap (·.frame)) e old oe.cls s.heap h' T → Q () { s with heap := h' }) : wpAny M A (noteFrame (.ref e) env) (fun _ s' => wpAny M A (setFlight (.ref e) none) Q E s') E s := by
  unfold noteFrame
  simp only [hf]
  rcases tr with ⟨h1, rfl⟩ | ⟨T0, oT, ts, rfl, h1, nT, hT, hdT, h3⟩
  · refine wpAny_bind (wpAny_field he hd h1 ?_)
    rw [if_neg (by decide)]
    exact entry_ok hfr hl hf he hdn hd (Array.getElem?_eq_some_iff.mp h1).1 q
  · refine wpAny_bind (wpAny_field he hd h1 ?_)
    rw [if_pos (show (Value.ref T0 != Value.none) = true by simp)]
    refine wpAny_bind (wpAny_field hT hdT h3 ?_)
    rw [if_neg (show ¬ ((Value.none == rawInt L) = true) by simp [rawInt])]
    refine wpAny_bind (wpAny_setField hT hdT (Array.getElem?_eq_some_iff.mp h3).1 ?_)
    have ot : ∀ b, b ≠ T0 → (s.heap.update T0 (Obj.mapFields (·.setIfInBounds 3 Value.none))).get? b = s.heap.get? b := fun b hb => Heap.get?_update_other _ _ (Ne.symm hb)
    have nf : ∀ b o, s.heap.get? b = some o → (∀ vs, o.data ≠ .fields vs) → b ≠ T0 := fun b o hb hnf z => by
      rw [z, hT] at hb
      cases hb
      exact hnf ts hdT
    refine entry_ok hfr (hl.of_keeps fun b o hb hnf => ⟨o, (ot b (nf b o hb hnf)).trans hb, rfl⟩) hf ((ot e (Ne.symm nT)).trans he) hdn hd (Array.getElem?_eq_some_iff.mp h1).1 fun h' T x => q h' T ⟨?_, x.exc, x.tb, fun b o hb nb no hbo => ?_, fun b o hb hbo => ?_⟩
    · have := x.ge
      rw [show (s.heap.update T0 (Obj.mapFields (·.setIfInBounds 3 Value.none))).objs.size = s.heap.objs.size from Heap.size_after_update ..] at this
      exact this
    · exact x.keep b o hb nb (by simp) ((ot b (fun z => no (by simp [z]))).trans hbo)
    · obtain ⟨_, o', ho', hnf⟩ := hl.mem hb
      rw [hbo] at ho'
      cases ho'
      exact x.slot b o hb ((ot b (nf b o hbo hnf)).trans hbo)
theorem leaves {base : Heap} {env : Env} {outer : List Env} {L e : Addr} {oe : Obj} {vs : Array Value} {old : List Addr} {Q : Unit → Shared → Prop} (hfr : A.frames = some (env :: outer)) (hl : s.heap.FunFrames base (env :: outer)) (hf : env.frame = some L)
    (he : s.heap.get? e = some oe) (hdn : oe.dict = none) (hd : oe.data = .fields vs) (tr : Trc s.heap e vs old)
    (q : ∀ h' T, Lv ((env :: outer).filterMap (·.frame)) e old oe.cls s.heap h' T → Q () { s with heap := h' }) : wpAny M A (leaving env (.ref e)) Q E s := by
  unfold leaving
  exact wpAny_bind (lands hfr hl hf he hdn hd tr q)
end
end EX

set_option maxHeartbeats 4000000
/-! exceptions over the layer: a def that raises, its callers -/
namespace L2
open PySem PySem.Spec PyProof.Rows
/-- behind a call that raised: an exception of the class at C stands at e, its entry at T, both made in the call -/
def CX1 (P : Program) (w : World) : CXT := fun outer H s E er s' => ∃ e T C H', er = .ref e ∧ s'.os = s.os ∧ AllBare s'.gens ∧ Un (frs outer) [] H H' s.heap s'.heap ∧ HOk P w H' s'.heap ∧ s.heap.get? e = none ∧ s.heap.get? T = none ∧ T ≠ e ∧ H' e = none ∧ H' T = none ∧
  (∃ oe vs, s'.heap.get? e = some oe ∧ oe.cls = .ref C ∧ oe.data = .fields vs ∧ vs[1]? = some (.ref T) ∧ oe.dict = none) ∧ (∃ oT ts, s'.heap.get? T = some oT ∧ oT.data = .fields ts ∧ ts[3]? = some .none) ∧ E (.ref e) (some C) H'
theorem ObjOk.has {P : Program} {w : World} {H : Hp} {h : Heap} {a : Addr} {o : HO} (x : ObjOk P w H h a o) : ∃ u, h.get? a = some u := by
  cases o with
  | lst xs => obtain ⟨_, _, _, _, e⟩ := x; exact ⟨_, e⟩
  | tup xs => obtain ⟨_, _, _, _, e, _⟩ := x; exact ⟨_, e⟩
  | dK kvs => obtain ⟨_, _, _, _, o, _, _, e, _⟩ := x; exact ⟨_, e⟩
  | dT kvs => obtain ⟨_, _, _, _, o, _, _, e, _⟩ := x; exact ⟨_, e⟩
  | set S n => obtain ⟨o, _, _, _, e, _⟩ := x; exact ⟨_, e⟩
  | ins C dx fs => obtain ⟨_, _, _, e, _⟩ := x; exact ⟨_, e⟩
  | own y => exact x
  | xd fs => obtain ⟨_, ⟨_, _, _, e, _⟩, _⟩ := x; exact ⟨_, e⟩
  | rng lo hi => obtain ⟨_, _, _, e⟩ := x; exact ⟨_, e⟩
  | frz ob u => obtain ⟨e, _⟩ := x; exact ⟨_, e⟩
  | tbl ps => exact ⟨_, (show h.get? a = some _ from x)⟩
  | met f y => exact ⟨_, (show h.get? a = some _ from x)⟩
  | ext φ => obtain ⟨_, e, _⟩ := x; exact e
theorem HOk.unseen {P : Program} {w : World} {H : Hp} {h : Heap} {a : Addr} (x : HOk P w H h) (e : h.get? a = none) : H a = none := by
  cases q : H a with
  | none => rfl
  | some u =>
    obtain ⟨o, z⟩ := (x a u q).has
    rw [e] at z; cases z
/-- an untracked object of the body's own making: not the frame's, not pinned, unseen at the entry -/
def FlOk (X : Cx) (pins : List (Addr × Obj)) (H : Hp) (b : Addr) : Prop :=
  H b = none ∧ b ≠ X.env.locals ∧ b ∉ X.fs ∧ (b ∈ X.ex ∨ X.s₀.heap.get? b = none) ∧ (∀ x c, X.env.cells.lookup x = some c → c ≠ b) ∧ ∀ p ∈ X.pn ++ pins, p.1 ≠ b
theorem Inv.flOk {X : Cx} {pins : List (Addr × Obj)} {σ : St} {H H' : Hp} {s : Shared} {b : Addr} (I : Inv X pins σ H s) (hb : s.heap.get? b = none) (hn : H' b = none) : FlOk X pins H' b := by
  have no : ∀ {o : Obj}, s.heap.get? b = some o → False := fun z => by rw [hb] at z; cases z
  refine ⟨hn, fun z => ?_, fun z => ?_, ?_, fun x c e z => ?_, fun p hp z => ?_⟩
  · obtain ⟨m, ⟨o, es, ep, ho, _⟩, _⟩ := I.loc
    rw [← z] at ho; exact no ho
  · obtain ⟨_, o, ho, _⟩ := I.funs.mem z
    exact no ho
  · by_cases hx : b ∈ X.ex
    · exact .inl hx
    · refine .inr ?_
      cases q : X.s₀.heap.get? b with
      | none => rfl
      | some o =>
        obtain ⟨o', h'⟩ := I.base.there b o q hx
        exact (no h').elim
  · obtain ⟨v, q⟩ := I.cell x c e
    rw [z] at q
    obtain ⟨o, ho, _⟩ := q
    exact no ho
  · have := (I.pin p hp).1
    rw [z] at this
    exact no this
/-- an exception in flight within a body -/
structure Fly (X : Cx) (pins : List (Addr × Obj)) (H : Hp) (e C : Addr) (s : Shared) : Prop where
  fe : FlOk X pins H e
  obj : ∃ oe vs old, s.heap.get? e = some oe ∧ oe.cls = .ref C ∧ oe.data = .fields vs ∧ EX.Trc s.heap e vs old ∧ oe.dict = none ∧ ∀ b ∈ old, FlOk X pins H b
/-- what the body wants of an exception, by E -/
def XOk (X : Cx) (E : XK) : Prop := ∀ (pins : List (Addr × Obj)) (σ : St) (H : Hp) (s : Shared) (e C : Addr), Inv X pins σ H s → Fly X pins H e C s → E (.ref e) (some C) H → X.xe (.ref e) s
/-- behind a callee's exception the body stands as ahead of the call -/
theorem fly_of {X : Cx} {pins : List (Addr × Obj)} {σ : St} {H : Hp} {s s' : Shared} {E : XK} {er : Value} (I : Inv X pins σ H s) (h : CX1 X.prog X.w X.stack H s E er s') : ∃ e C H', er = .ref e ∧ Inv X pins σ H' s' ∧ Fly X pins H' e C s' ∧ E (.ref e) (some C) H' := by
  obtain ⟨e, T, C, H', rfl, os, bare, un, hok, ge, gT, ne, he, hT, ⟨oe, vs, h1, h2, h3, h4, h8⟩, ⟨oT, ts, h5, h6, h7⟩, q⟩ := h
  obtain ⟨hh, g, d, t, os'⟩ := s'
  obtain rfl : os' = s.os := os
  refine ⟨e, C, H', rfl, I.call (h' := hh) (g' := g) (d' := d) (t' := t) (ch := []) un hok bare (fun b z => absurd z (by simp)), ⟨I.flOk ge he, oe, vs, [T], h1, h2, h3, .inr ⟨T, oT, ts, rfl, h4, ne, h5, h6, h7⟩, h8, fun b hb => ?_⟩, q⟩
  rw [List.mem_singleton.mp hb]
  exact I.flOk gT hT
theorem pass1 {X : Cx} {E : XK} (h : XOk X E) : Passes (CX1 X.prog X.w) X E := fun pins σ H s er s' I hcx => by
  obtain ⟨e, C, H', rfl, I', fl, q⟩ := fly_of I hcx
  exact h pins σ H' s' e C I' fl q
theorem passN {P : Program} {w : World} {X : Cx} : Passes (CX1 P w) X E0 := fun _ _ _ _ _ _ _ h => by
  obtain ⟨_, _, _, _, _, _, _, _, _, _, _, _, _, _, _, _, q⟩ := h
  exact q.elim
section
variable {P : Program} {w : World} {K : PySem.W.Frag} {mg : Str → Option Value} {base : Heap}
/-- a def's body: an exception that leaves it is what E wants -/
theorem xok_fn {N : List Str} {qual : Str} {scope : Scope} {f : Addr} {cdv : Value} {A : Around} {outer : List Env} {s : Shared} {H : Hp} {E : XK} : XOk (cxOf (CX1 P w) P w K mg base N qual scope f cdv A outer s H E) E := by
  intro pins σ H' s' e C I fl q
  obtain ⟨fe, oe, vs, old, h1, h2, h3, tr, hdn, fo⟩ := fl
  show wpAny (model P w) (A.deeper (envOfC qual scope s.heap.objs.size f cdv)) (leaving (envOfC qual scope s.heap.objs.size f cdv) (.ref e)) (fun _ s'' => CX1 P w outer H s E (.ref e) s'') (fun e' s'' => CX1 P w outer H s E e' s'') s'
  have fr : (A.deeper (envOfC qual scope s.heap.objs.size f cdv)).frames = some (envOfC qual scope s.heap.objs.size f cdv :: outer) := I.ok.frames
  have ff : s'.heap.FunFrames base (envOfC qual scope s.heap.objs.size f cdv :: outer) := I.stack
  have free : ∀ b ∈ (envOfC qual scope s.heap.objs.size f cdv :: outer).filterMap (·.frame), H' b = none := I.stkFree
  have big : ∀ {b}, FlOk (cxOf (CX1 P w) P w K mg base N qual scope f cdv A outer s H E) pins H' b → s.heap.get? b = none := fun {b} hb => by
    rcases hb.2.2.2.1 with z | z
    · exact absurd z (by show b ∉ ([] : List Addr); simp)
    · exact z
  have old_lt : ∀ {b o}, s.heap.get? b = some o → b ≠ e ∧ b ∉ old ∧ b ≠ s.heap.objs.size := fun {b o} hb => by
    have lt := Heap.lt_size hb
    refine ⟨fun z => ?_, fun z => ?_, Nat.ne_of_lt lt⟩
    · have := big fe
      rw [← z, hb] at this; cases this
    · have := big (fo b z)
      rw [hb] at this; cases this
  refine EX.leaves (base := base) fr ff rfl h1 hdn h3 tr fun h' T lv => ?_
  have inS : ∀ {b}, b ∈ (envOfC qual scope s.heap.objs.size f cdv :: outer).filterMap (·.frame) → b = s.heap.objs.size ∨ b ∈ frs outer := fun {b} hb => by
    rw [List.filterMap_cons] at hb
    exact List.mem_cons.mp hb
  have toS : ∀ {b}, b ∈ frs outer → b ∈ (envOfC qual scope s.heap.objs.size f cdv :: outer).filterMap (·.frame) := fun {b} hb => by
    rw [List.filterMap_cons]
    exact List.mem_cons_of_mem _ hb
  have B := I.base
  have sge : s.heap.objs.size ≤ s'.heap.objs.size := I.sz
  have kp : ∀ b u, H' b ≠ none → s'.heap.get? b = some u → h'.get? b = some u := fun b u nb hb => by
    refine lv.keep b u (fun z => nb (free b z)) (fun z => nb (by rw [z]; exact fe.1)) (fun z => nb (fo b z).1) hb
  refine ⟨e, T, C, H', rfl, I.os, I.bare, ⟨fun b o e1 n hb hx => ?_, fun b o e1 n hb hx => ?_, fun b o e1 n hx => B.free b o e1 n hx, fun b o e1 hx => ?_, B.tups, B.frzs, B.tbls⟩, fun b u e1 => ?_, big fe, Heap.get?_none_of_le (Nat.le_trans sge lv.ge), ?_, fe.1, I.hok.fresh lv.ge, ?_, lv.tb, q⟩
  · obtain ⟨z1, z2, z3⟩ := old_lt e1
    refine lv.keep b o (fun z => ?_) z1 z2 (B.keep b o e1 n hb hx)
    rcases inS z with z | z
    · exact z3 z
    · exact hb z
  · obtain ⟨sl, e2⟩ := B.slot b o e1 n hb hx
    obtain ⟨sl', e3⟩ := lv.slot b _ (toS hb) e2
    exact ⟨sl', e3⟩
  · obtain ⟨o', e2⟩ := B.there b o e1 hx
    obtain ⟨z1, z2, z3⟩ := old_lt e1
    by_cases hS : b ∈ (envOfC qual scope s.heap.objs.size f cdv :: outer).filterMap (·.frame)
    · obtain ⟨sl, e3⟩ := lv.slot b _ hS e2
      exact ⟨_, e3⟩
    · exact ⟨o', lv.keep b o' hS z1 z2 e2⟩
  · refine (I.hok b u e1).stay (fun c v hc hv => kp c v (fun z => ?_) hv) (fun _ z => z) fun _ _ z => z
    rcases hc with y | y
    · rw [y, e1] at z; cases z
    · rw [y] at z; cases z
  · exact Nat.ne_of_gt (Nat.lt_of_lt_of_le (Heap.lt_size h1) lv.ge)
  · obtain ⟨oe', vs', y1, y2, y3, y4, y5⟩ := lv.exc
    exact ⟨oe', vs', y1, y2.trans h2, y3, y4, y5⟩
/-- the rule for a def that may raise -/
theorem Fun.okX {x qual : Str} {st : Stmt} {f : Addr} {fd : FuncData} {N ps : List Str} {k : Nat} {sp : Sp} (F : Fun K x qual st f fd) (S : FnScope N ps (defScope st)) (len : ∀ vs H Q E, sp vs H Q E → vs.length = ps.length)
    (hbody : ∀ (cdv : Value) (A : Around) (outer : List Env) (s : Shared) (H : Hp) (vs : List V) (Q : VK) (E : XK), Room k (A.deeper (envOfC qual (defScope st) s.heap.objs.size f cdv)) → sp vs H Q E →
      ∃ t, PSs (cxOf (CX1 P w) P w K mg base N qual (defScope st) f cdv A outer s H E) (defBody st) t ∧ t { nx := fun _ H' => Q .non H', rt := Q } (start N vs) H) : FnOk P w K mg base (CX1 P w) (k + 1) f fd ps sp := by
  obtain ⟨oc, od, kV, doc, pm, an, cdv, ct, osl, rfl, lk, hcd⟩ := F.ex
  exact fn_of lk hcd S len fun A outer s H vs Q E hr hsp => hbody cdv A outer s H vs Q E hr hsp
end
/-! raise C(..) of an own class -/
section
open PySem.W
theorem cls_in {K : Frag} {h : Heap} {C : Addr} {bmB : List Value} {newId : String} (X : K.In h) (q : excIn K C bmB newId = true) : ∃ bm N nm qn bs hdct sn sub ab col dd k0 k1 k2 k3 k5 mN,
    h.get? C = some (excClassObj nm qn C N bs bm hdct sn sub ab col dd k0 k1 k2 k3 k5 newId) ∧ h.Ns N mN ∧ mN "__init__" = none ∧ OwnTail h bmB bm := by
  have hk := q
  revert hk
  rw [excIn]
  intro hk
  cases hl : K.lookup C with
  | none => rw [hl] at hk; cases hk
  | some ob =>
    obtain ⟨c, dd, dt, sl⟩ := ob
    rw [hl] at hk
    split at hk
    next dd' cd sl' he =>
      cases he
      split at hk
      next C' bm k0 k1 k2 k3 n k5 hm hs =>
        simp only [Bool.and_eq_true, beq_iff_eq, Bool.not_eq_true'] at hk
        obtain ⟨⟨⟨⟨⟨hc, hn⟩, hdel⟩, ht⟩, hok⟩, hni⟩ := hk
        cases cd
        cases sl
        simp only at hm hdel hok hni hs
        rw [hm, hdel, hs] at hl
        rw [hc, hn] at hl
        exact ⟨_, _, _, _, _, _, _, _, _, _, _, _, _, _, _, _, _, X _ _ hl, .of_isNs (isNs_of_in X hok), nsMap_none_of_in X hok hni, tail_of_in X ht⟩
      next => cases hk
    next => cases hk
end
/-- raise C(args): E is told the class -/
def tRaise (C : Addr) (t : TA) (E : XK) : TS := fun _ σ H => t σ H fun vs H1 => vs.length ≤ sizeLine ∧ ∀ e, H1 e = none → E (.ref e) (some C) H1
theorem ps_raise {X : Cx} {E : XK} {C : Addr} {x : Str} {bmB : List Value} {B newId initId : String} {e : Expr} {es : List Expr} {t : TA} {np cpos pos : Pos} (F : ExcBaseFacts B newId initId bmB) (q : PySem.W.excIn X.K C bmB newId = true) (hbase : bmB.contains (.type "BaseException") = true)
    (hg : Gl X x) (hm : X.mg x = some (.ref C)) (hc : X.calm = true) (hx : XOk X E) (ha : PA X (e :: es) t) (hdb : (x == ("__debug__" : Str)) = false := by decide) (he : starEach (e :: es) X.env = (false, eval e X.env) :: starEach es X.env := by rfl)
    (hpl : (backTo cpos (starEach (e :: es) X.env)).any (·.1) = false := by rfl) : PS X (.Raise (some (.Call (.Name x np) (e :: es) [] cpos)) none pos) (tRaise C t E) := by
  intro pins s σ H D I h
  obtain ⟨bm, N, nm, qn, bs, hdct, sn, sub, ab, col, dd, k0, k1, k2, k3, k5, mN, hC, hN, hni, T⟩ := cls_in I.ok.mod.kin q
  refine wpAny_Raise_call_subT (nm := nm) (q := qn) (N := N) (bs := bs) (hdct := hdct) (sn := sn) (sub := sub) (ab := ab) (col := col) (dd := dd) (k0 := k0) (k1 := k1) (k2 := k2) (k3 := k3) (k5 := k5) F (T.hasType hbase) (I.ok.hd hc) hpl hni (ld_glob I hg hm ⟨rfl, ?_⟩ hdb)
  have a1 := ha cpos pins s σ H _ I h
  rw [he] at a1 ⊢
  refine Calls.evalArgs_plain (thn a1 fun us s1 ⟨vs, H1, I1, r, hz, q1⟩ => ⟨rfl, ?_, I1.bk _ _ hC, hN.keeps I1.bk, T.keeps I1.bk, fun h' e' hme => ?_⟩)
  · show us.length ≤ _
    rw [← r.length]; exact hz
  · have I2 : Inv X pins σ H1 { s1 with heap := h' } := I1.kept (t' := s1.toks) hme.keeps
    obtain ⟨tt, t1, t2, t3⟩ := hme.there
    exact hx pins σ H1 _ e' C I2 ⟨I1.flOk hme.new (I1.hok.unseen hme.new), _, _, [], t1, rfl, rfl, .inl ⟨rfl, rfl⟩, rfl, fun b hb => absurd hb (by simp)⟩ (q1 e' (I1.hok.unseen hme.new))
end L2

set_option maxHeartbeats 4000000
/-! try and except over the layer -/
namespace L2
open PySem PySem.Spec PyProof.Rows
/-- more objects of the body's own that may turn -/
def Cx.plus (X : Cx) (l : List Addr) : Cx := { X with ex := l ++ X.ex }
section
variable {X : Cx} {pins : List (Addr × Obj)} {σ : St} {H : Hp} {s : Shared} {l : List Addr}
theorem unseen_base (I : Inv X pins σ H s) {b : Addr} (hb : X.s₀.heap.get? b = none) (o : Obj) : X.base.get? b ≠ some o := fun z => by
  have := (I.ok.bs b o z).1
  rw [hb] at this; cases this
theorem Inv.plus (I : Inv X pins σ H s) (h : ∀ b ∈ l, FlOk X pins H b) : Inv (X.plus l) pins σ H s := by
  have K := I.ok
  refine ⟨⟨K.mod, K.kind, K.glob, K.blt, K.above, K.inj, K.has, K.cab, K.hd, K.frames, K.stk, fun b hb => ?_, K.bs, K.bsz, fun b o e hb => ?_, fun b hb => ?_, K.funs, K.frf⟩, I.os, I.bare, ?_, I.loc, I.cell, I.free, I.freeC, I.pin, I.hok, I.len⟩
  · rcases List.mem_append.mp hb with z | z
    · exact ⟨(h b z).2.1, (h b z).2.2.2.2.1⟩
    · exact K.exf b z
  · rcases List.mem_append.mp hb with z | z
    · rcases (h b z).2.2.2.1 with y | y
      · exact K.noex b o e y
      · exact unseen_base I y o e
    · exact K.noex b o e z
  · rcases List.mem_append.mp hb with z | z
    · exact (h b z).2.2.1
    · exact K.exfs b z
  · have no : ∀ {b : Addr}, b ∉ l ++ X.ex → b ∉ X.ex := fun hb z => hb (List.mem_append_right _ z)
    exact ⟨fun b o e n hb hx => I.base.keep b o e n hb (no hx), fun b o e n hb hx => I.base.slot b o e n hb (no hx), fun b o e n hx => I.base.free b o e n (no hx), fun b o e hx => I.base.there b o e (no hx), I.base.tups, I.base.frzs, I.base.tbls⟩
theorem Inv.minus (I : Inv (X.plus l) pins σ H s) (K : X.Ok) (h : ∀ b ∈ l, b ∈ X.ex ∨ X.s₀.heap.get? b = none) : Inv X pins σ H s := by
  have no : ∀ {b : Addr} {o : Obj}, X.s₀.heap.get? b = some o → b ∉ X.ex → b ∉ l ++ X.ex := fun {b o} e hb z => by
    rcases List.mem_append.mp z with y | y
    · rcases h b y with u | u
      · exact hb u
      · rw [u] at e; cases e
    · exact hb y
  exact ⟨K, I.os, I.bare, ⟨fun b o e n hb hx => I.base.keep b o e n hb (no e hx), fun b o e n hb hx => I.base.slot b o e n hb (no e hx), fun b o e n hx => I.base.free b o e n (no e hx), fun b o e hx => I.base.there b o e (no e hx), I.base.tups, I.base.frzs, I.base.tbls⟩,
    I.loc, I.cell, I.free, I.freeC, I.pin, I.hok, I.len⟩
/-- untracked objects of ours turned, the frames' slots too -/
theorem Inv.turn {h' : Heap} (I : Inv X pins σ H s) (h : ∀ b ∈ l, FlOk X pins H b)
    (keep : ∀ b o, b ∉ frs X.stack → b ∉ l → s.heap.get? b = some o → h'.get? b = some o) (slot : ∀ b o, b ∈ frs X.stack → s.heap.get? b = some o → ∃ sl, h'.get? b = some { o with slots := sl }) : Inv X pins σ H { s with heap := h' } := by
  have I1 := I.plus h
  have st : ∀ b, H b ≠ none → b ∉ frs X.stack ∧ b ∉ l := fun b n => ⟨fun z => n (I.stkFree b z), fun z => n (h b z).1⟩
  have u : Un (frs X.stack) l H H s.heap h' := by
    refine ⟨fun b o e n hb hx => keep b o hb hx e, fun b o e n hb hx => slot b o hb e, fun b o e n hx => n, fun b o e hx => ?_, fun _ _ e => e, fun _ _ _ e => e, fun b ps e => ⟨#[], by rw [e]; simp⟩⟩
    by_cases hb : b ∈ frs X.stack
    · obtain ⟨sl, q⟩ := slot b o hb e
      exact ⟨_, q⟩
    · exact ⟨o, keep b o hb hx e⟩
  have hok : HOk X.prog X.w H h' := fun b u e1 => by
    refine (I.hok b u e1).stay (fun c v hc hv => ?_) (fun _ z => z) fun _ _ z => z
    have n : H c ≠ none := fun z => by
      rcases hc with y | y
      · rw [y, e1] at z; cases z
      · rw [y] at z; cases z
    exact keep c v (st c n).1 (st c n).2 hv
  exact Inv.minus (l := l) (I1.call (g' := s.gens) (d' := s.drawn) (t' := s.toks) (ch := l) u hok I.bare fun b hb => ⟨.inl (List.mem_append_left _ hb), (h b hb).2.1, (h b hb).2.2.2.2.1, (h b hb).2.2.2.2.2⟩) I.ok fun b hb => (h b hb).2.2.2.1
/-- an exception that came to stand here: it has an entry at T -/
structure Held (X : Cx) (pins : List (Addr × Obj)) (H : Hp) (e C T : Addr) (s : Shared) : Prop where
  fe : FlOk X pins H e
  fT : FlOk X pins H T
  ne : T ≠ e
  exc : ∃ oe vs, s.heap.get? e = some oe ∧ oe.cls = .ref C ∧ oe.data = .fields vs ∧ vs[1]? = some (.ref T) ∧ oe.dict = none
  tb : ∃ oT ts, s.heap.get? T = some oT ∧ oT.data = .fields ts ∧ ts[3]? = some .none
theorem land {e C : Addr} {Q : Unit → Shared → Prop} (I : Inv X pins σ H s) (hs : X.stack = X.env :: X.outer ∧ X.env.frame = some X.env.locals) (fl : Fly X pins H e C s)
    (q : ∀ h' T, Inv X pins σ H { s with heap := h' } → Held X pins H e C T { s with heap := h' } → Q () { s with heap := h' }) {E : Value → Shared → Prop} :
    wpAny (model X.prog X.w) X.A (noteFrame (.ref e) X.env) (fun _ s' => wpAny (model X.prog X.w) X.A (setFlight (.ref e) none) Q E s') E s := by
  obtain ⟨fe, oe, vs, old, h1, h2, h3, tr, hdn, fo⟩ := fl
  have fr : X.A.frames = some (X.env :: X.outer) := by rw [I.ok.frames, hs.1]
  have ff : s.heap.FunFrames X.base (X.env :: X.outer) := by rw [← hs.1]; exact I.stack
  refine EX.lands fr ff hs.2 h1 hdn h3 tr fun h' T lv => ?_
  have es : frs X.stack = (X.env :: X.outer).filterMap (·.frame) := by rw [hs.1]; rfl
  have I2 : Inv X pins σ H { s with heap := h' } := by
    refine I.turn (l := e :: old) (fun b hb => ?_) (fun b o hb hl ho => ?_) (fun b o hb ho => ?_)
    · rcases List.mem_cons.mp hb with z | z
      · rw [z]; exact fe
      · exact fo b z
    · rw [es] at hb
      exact lv.keep b o hb (fun z => hl (by simp [z])) (fun z => hl (by simp [z])) ho
    · rw [es] at hb
      exact lv.slot b o hb ho
  have gT : s.heap.get? T = none := Heap.get?_none_of_le lv.ge
  refine q h' T I2 ⟨fe, I.flOk gT (I.hok.unseen gT), ?_, ?_, lv.tb⟩
  · exact Nat.ne_of_gt (Nat.lt_of_lt_of_le (Heap.lt_size h1) lv.ge)
  · obtain ⟨oe', vs', y1, y2, y3, y4, y5⟩ := lv.exc
    exact ⟨oe', vs', y1, y2.trans h2, y3, y4, y5⟩
theorem again {e C T : Addr} {Q : Unit → Shared → Prop} {A : Around} (I : Inv X pins σ H s) (hd : Held X pins H e C T s)
    (q : ∀ h', Inv X pins σ H { s with heap := h' } → Held X pins H e C T { s with heap := h' } → Q () { s with heap := h' }) {E : Value → Shared → Prop} :
    wpAny (model X.prog X.w) A (setFlight (.ref e) none) Q E s := by
  obtain ⟨fe, fT, ne, ⟨oe, vs, h1, h2, h3, h4, h5⟩, ⟨oT, ts, t1, t2, t3⟩⟩ := hd
  unfold setFlight
  refine wpAny_bind (wpAny_field h1 h3 h4 ?_)
  rw [if_pos (show (Value.ref T != Value.none) = true by simp)]
  refine wpAny_setField t1 t2 (Array.getElem?_eq_some_iff.mp t3).1 ?_
  have d4 := Obj.data_mapFields t2 (·.setIfInBounds 3 ((none : Option Addr).elim Value.none fun f => rawInt f))
  have ot : ∀ b, b ≠ T → (s.heap.update T (Obj.mapFields (·.setIfInBounds 3 ((none : Option Addr).elim Value.none fun f => rawInt f)))).get? b = s.heap.get? b := fun b hb => Heap.get?_update_other _ _ (Ne.symm hb)
  have notT : ∀ b, b ∈ frs X.stack → b ≠ T := fun b hb z => by
    obtain ⟨_, o, ho, nf⟩ := I.stack.mem hb
    rw [z, t1] at ho; cases ho
    exact nf ts t2
  refine q _ (I.turn (l := [T]) (fun b hb => ?_) (fun b o hb hl ho => ?_) fun b o hb ho => ?_) ⟨fe, fT, ne, ⟨oe, vs, (ot e (Ne.symm ne)).trans h1, h2, h3, h4, h5⟩, ⟨_, _, Heap.get?_update_self _ t1 (Obj.isFreed_of_fields d4), d4, ?_⟩⟩
  · rw [List.mem_singleton.mp hb]; exact fT
  · exact (ot b (fun z => hl (by simp [z]))).trans ho
  · exact ⟨o.slots, (ot b (notT b hb)).trans ho⟩
  · simp [(Array.getElem?_eq_some_iff.mp t3).1]
end

/-! matching -/
def mroIn (K : PySem.W.Frag) (C : Addr) : List Value := match K.lookup C with
  | some ⟨_, _, .cls cd, _⟩ => cd.mro
  | _ => []
section
open PySem.W
theorem exc_cls {K : Frag} {h : Heap} {C : Addr} (X : K.In h) (q : ktsIn K C "BaseException" = true) : ∃ nm qn N bs bm hdct sn sub ab col dd k0 k1 k2 k3 k5 newId,
    h.get? C = some (excClassObj nm qn C N bs bm hdct sn sub ab col dd k0 k1 k2 k3 k5 newId) ∧ bm.contains (.type "BaseException") = true ∧ mroIn K C = .ref C :: bm := by
  obtain ⟨nm, qn, N, bs, bm, hdct, sn, sub, ab, col, dd, k0, k1, k2, k3, k5, newId, hC, hb, _⟩ := kts_cls X q
  refine ⟨nm, qn, N, bs, bm, hdct, sn, sub, ab, col, dd, k0, k1, k2, k3, k5, newId, hC, hb, ?_⟩
  cases hl : K.lookup C with
  | none => unfold ktsIn at q; rw [hl] at q; cases q
  | some ob =>
    have := X _ _ hl
    rw [hC] at this
    cases this
    unfold mroIn
    rw [hl]
end
theorem matches_own {M : Model} {A : Around} {E : Value → Shared → Prop} {h : Heap} {g : Array GenState} {d : Drawn} {t : Nat} {os : OsState} {e C D : Addr} {oe : Obj} {K : PySem.W.Frag} {Q : Bool → Shared → Prop} (X : K.In h)
    (qC : PySem.W.ktsIn K C "BaseException" = true) (qD : PySem.W.ktsIn K D "BaseException" = true) (he : h.get? e = some oe) (hcls : oe.cls = .ref C) (hq : Q ((mroIn K C).contains (.ref D)) ⟨h, g, d, t, os⟩) :
    wpAny M A (excMatches (.ref e) (.ref D)) Q E ⟨h, g, d, t, os⟩ := by
  obtain ⟨nm, qn, N, bs, bm, hdct, sn, sub, ab, col, dd, k0, k1, k2, k3, k5, newId, hC, hbC, mC⟩ := exc_cls X qC
  obtain ⟨nm', qn', N', bs', bm', hdct', sn', sub', ab', col', dd', k0', k1', k2', k3', k5', newId', hD, hbD, mD⟩ := exc_cls X qD
  have hDB : (Value.ref D :: bm').contains (.type "BaseException") = true := by rw [List.contains_cons, hbD, Bool.or_true]
  have f := tc_notTuple
  rw [mC] at hq
  unfold excMatches
  repeat (first | (with_reducible refine wpAny_loadPart_at he ?_; rw [hcls]) | with_reducible refine wpAny_loadPart_at hD ?_ | (with_reducible refine wpAny_isSubtype_exc hD ?_; rw [hDB]) | with_reducible refine wpAny_isSubtype_exc hC ?_ | wp_step)
  all_goals (cases hb : (Value.ref C :: bm).contains (.ref D) <;> (rw [hb] at hq; wp_walk; exact hq))
end L2

set_option maxHeartbeats 4000000
/-! try and except: the rules -/
namespace L2
open PySem PySem.Spec PyProof.Rows
/-- within an except suite that raises nothing -/
def Cx.mk' (X : Cx) (e : Addr) : Cx := { X with A := X.A.mark (some (.ref e)), calm := false, xe := fun _ _ => False }
/-- within a try's body -/
def Cx.tr (X : Cx) (pins : List (Addr × Obj)) (Ex : St → XK) : Cx :=
  { X with pn := X.pn ++ pins, xe := fun er s => ∃ σ e C H, er = .ref e ∧ Inv X pins σ H s ∧ Fly X pins H e C s ∧ Ex σ (.ref e) (some C) H }
section
variable {X : Cx} {pins : List (Addr × Obj)} {σ : St} {H : Hp} {s : Shared} {e C T : Addr} {D : Ends} {f : Flow} {Ex : St → XK}
theorem Inv.mk' (I : Inv X pins σ H s) (e : Addr) : Inv (X.mk' e) pins σ H s :=
  ⟨⟨I.ok.mod, I.ok.kind, I.ok.glob, I.ok.blt, I.ok.above, I.ok.inj, I.ok.has, I.ok.cab, fun h => Bool.noConfusion h, I.ok.frames, I.ok.stk, I.ok.exf, I.ok.bs, I.ok.bsz, I.ok.noex, I.ok.exfs, I.ok.funs, I.ok.frf⟩, I.os, I.bare, I.base, I.loc, I.cell, I.free, I.freeC, I.pin, I.hok, I.len⟩
theorem Inv.unmk (I : Inv (X.mk' e) pins σ H s) (K : X.Ok) : Inv X pins σ H s := ⟨K, I.os, I.bare, I.base, I.loc, I.cell, I.free, I.freeC, I.pin, I.hok, I.len⟩
theorem Inv.tr (I : Inv X pins σ H s) (Ex : St → XK) : Inv (X.tr pins Ex) [] σ H s :=
  ⟨⟨I.ok.mod, I.ok.kind, I.ok.glob, I.ok.blt, I.ok.above, I.ok.inj, I.ok.has, I.ok.cab, I.ok.hd, I.ok.frames, I.ok.stk, I.ok.exf, I.ok.bs, I.ok.bsz, I.ok.noex, I.ok.exfs, I.ok.funs, I.ok.frf⟩, I.os, I.bare, I.base, I.loc, I.cell, I.free, I.freeC, fun p hp => I.pin p (by rw [List.append_nil] at hp; exact hp), I.hok, I.len⟩
theorem Inv.untr {pins' : List (Addr × Obj)} (I : Inv (X.tr pins Ex) pins' σ H s) : Inv X pins σ H s :=
  ⟨⟨I.ok.mod, I.ok.kind, I.ok.glob, I.ok.blt, I.ok.above, I.ok.inj, I.ok.has, I.ok.cab, I.ok.hd, I.ok.frames, I.ok.stk, I.ok.exf, I.ok.bs, I.ok.bsz, I.ok.noex, I.ok.exfs, I.ok.funs, I.ok.frf⟩, I.os, I.bare, I.base, I.loc, I.cell, I.free, I.freeC, fun p hp => I.pin p (List.mem_append_left _ hp), I.hok, I.len⟩
theorem Fly.untr {pins' : List (Addr × Obj)} (F : Fly (X.tr pins Ex) pins' H e C s) : Fly X pins H e C s := by
  have up : ∀ {b}, FlOk (X.tr pins Ex) pins' H b → FlOk X pins H b := fun {b} h => ⟨h.1, h.2.1, h.2.2.1, h.2.2.2.1, h.2.2.2.2.1, fun p hp => h.2.2.2.2.2 p (List.mem_append_left _ hp)⟩
  obtain ⟨oe, vs, old, h1, h2, h3, h4, h6, h5⟩ := F.obj
  exact ⟨up F.fe, oe, vs, old, h1, h2, h3, h4, h6, fun b hb => up (h5 b hb)⟩
/-- in a try's body, at the state σ -/
def XOkS (X : Cx) (Ex : St → XK) : Prop := ∀ (pins : List (Addr × Obj)) (σ : St) (H : Hp) (s : Shared) (e C : Addr), Inv X pins σ H s → Fly X pins H e C s → Ex σ (.ref e) (some C) H → X.xe (.ref e) s
theorem xok_tr : XOkS (X.tr pins Ex) Ex := fun pins' σ H s e C I fl q => ⟨σ, e, C, H, rfl, I.untr, fl.untr, q⟩
theorem XOk.toS {E : XK} (h : XOk X E) : XOkS X fun _ => E := fun pins σ H s e C I fl q => h pins σ H s e C I fl q
theorem SP.unmk (h : SP (X.mk' e) pins D f s) (K : X.Ok) : SP X pins D f s := by
  cases f with
  | ret u => obtain ⟨v, σ', H', I, r, q⟩ := h; exact ⟨v, σ', H', I.unmk K, r, q⟩
  | next => obtain ⟨σ', H', I, q⟩ := h; exact ⟨σ', H', I.unmk K, q⟩
  | brk => obtain ⟨σ', H', I, q⟩ := h; exact ⟨σ', H', I.unmk K, q⟩
  | cont => obtain ⟨σ', H', I, q⟩ := h; exact ⟨σ', H', I.unmk K, q⟩
theorem SP.untr (h : SP (X.tr pins Ex) [] D f s) : SP X pins D f s := by
  cases f with
  | ret u => obtain ⟨v, σ', H', I, r, q⟩ := h; exact ⟨v, σ', H', I.untr, r, q⟩
  | next => obtain ⟨σ', H', I, q⟩ := h; exact ⟨σ', H', I.untr, q⟩
  | brk => obtain ⟨σ', H', I, q⟩ := h; exact ⟨σ', H', I.untr, q⟩
  | cont => obtain ⟨σ', H', I, q⟩ := h; exact ⟨σ', H', I.untr, q⟩
end
/-- handlers -/
def PH (X : Cx) (hs : List ExceptHandler) (hd : Addr → Addr → TS) : Prop :=
  ∀ (pins : List (Addr × Obj)) (s : Shared) (σ : St) (H : Hp) (D : Ends) (e C T : Addr), Inv X pins σ H s → Held X pins H e C T s → hd e C D σ H → wpAny (model X.prog X.w) X.A (handleBy (.ref e) X.env hs) (SP X pins D) X.xe s
def tNoH : Addr → Addr → TS := fun _ _ _ _ _ => False
def tHd (K : PySem.W.Frag) (Dc : Addr) (su rest : Addr → Addr → TS) : Addr → Addr → TS := fun e C D σ H =>
  PySem.W.ktsIn K C "BaseException" = true ∧ if (mroIn K C).contains (.ref Dc) then su e C D σ H else rest e C D σ H
section
variable {X : Cx} {x : Str} {np pos : Pos} {Dc : Addr} {b₀ : Stmt} {body : List Stmt} {rest : List ExceptHandler} {hd : Addr → Addr → TS} {ts : TS}
theorem ph_nil : PH X [] tNoH := fun _ _ _ _ _ _ _ _ _ _ h => h.elim
theorem ph_cons (q : PySem.W.ktsIn X.K Dc "BaseException" = true) (hg : Gl X x) (hm : X.mg x = some (.ref Dc)) (hb : ∀ e, PSs (X.mk' e) (b₀ :: body) ts) (hr : PH X rest hd) (hdb : (x == ("__debug__" : Str)) = false := by decide) :
    PH X (.ExceptHandler (some (.Name x np)) none (b₀ :: body) pos :: rest) (tHd X.K Dc (fun _ _ => ts) hd) := by
  intro pins s σ H D e C T I hl h
  obtain ⟨qC, h⟩ := h
  refine wpAny_handleBy_cons (codeAny_handlers_test ?_) (by intro z; cases z)
  refine ld_glob (X := X.mk' e) (I.mk' e) hg hm ?_ hdb
  obtain ⟨oe, vs, h1, h2, h3, h4, h5⟩ := hl.exc
  obtain ⟨hp, g, d, t, os⟩ := s
  refine matches_own I.kIn qC q h1 h2 ?_
  cases hc : (mroIn X.K C).contains (.ref Dc) with
  | false =>
    rw [hc] at h
    exact hr pins _ σ H D e C T I hl h
  | true =>
    rw [hc] at h
    refine codeAny_handlers_suite (again (A := X.A.mark (some (.ref e))) I hl fun h' I2 hl2 => ?_)
    exact wpAny_mono (hb e pins _ σ H D (I2.mk' e) h) (fun f s2 z => z.unmk I.ok) fun _ _ z => z.elim
/-- try: body except ..: -/
def tTry (tb : (St → XK) → TS) (hd : Addr → Addr → TS) : TS := fun D σ H => tb (fun σ' er oc H' => ∃ e C, er = .ref e ∧ oc = some C ∧ hd e C D σ' H') D σ H
theorem ps_try {b : List Stmt} {h₀ : ExceptHandler} {hs : List ExceptHandler} {tb : (St → XK) → TS} (st : X.stack = X.env :: X.outer ∧ X.env.frame = some X.env.locals) (hb : ∀ pins Ex, PSs (X.tr pins Ex) b (tb Ex)) (hh : PH X (h₀ :: hs) hd) : PS X (.Try b (h₀ :: hs) [] [] pos) (tTry tb hd) := by
  intro pins s σ H D I h
  refine wpAny_Try_except (wpAny_mono (hb pins _ [] s σ H D (I.tr _) h) (fun f s2 z => ?_) fun er s2 z => ?_)
  · have z' := SP.untr z
    cases f with
    | next => exact wpAny_pure z'
    | ret u => exact z'
    | brk => exact z'
    | cont => exact z'
  · obtain ⟨σ', e, C, H', rfl, I2, fl, e2, C2, r1, r2, q⟩ := z
    cases r1; cases r2
    exact land I2 st fl fun h' T I3 hl => hh pins _ σ' H' D e C T I3 hl q
end

/-! calls whose exceptions are told with the state -/
def tCallX (sp : Sp) (dvs : List V) (Ex : St → XK) (t : TA) : TE := fun σ H Q => t σ H fun vs H1 => sp (vs ++ dvs) H1 Q (Ex σ)
section
variable {X : Cx} {k : Nat} {f C : Addr} {fd : FuncData} {ps : List Str} {sp : Sp} {dvs : List V} {ds : List Value} {Ex : St → XK} {x m : Str} {p pos apos : Pos} {e o : Expr} {es : List Expr} {ta : TE} {t : TA}
theorem run_fnX {pins : List (Addr × Obj)} {σ : St} {H : Hp} {s : Shared} {Q : VK} {us : List Value} {vs : List V} (hx : XOkS X Ex) (F : FnOk X.prog X.w X.K X.mg X.base (CX1 X.prog X.w) k f fd ps sp) (hr : Room k X.A) (hb : Binds X.K fd ps ds) (hd : Vals dvs ds)
    (I : Inv X pins σ H s) (r : Vals vs us) (h : sp (vs ++ dvs) H Q (Ex σ)) : wpAny (model X.prog X.w) X.A (call (.ref f) us) (EP X pins σ Q) X.xe s := by
  have all := r.append hd
  have n1 := all.length
  rw [F.len _ _ _ _ h] at n1
  apply wpAny_call
  apply codeAny_mono (F.run X.A X.stack s H ⟨us, []⟩ (us ++ ds) (vs ++ dvs) Q (Ex σ) hr I.env0 (hb s us I.kIn n1.symm) all h)
  intro res s2 q
  match res, q with
  | .ok (.ret u), q => exact I.after q
  | .error er, q =>
    obtain ⟨e, C, H2, hr, I2, fl, q2⟩ := fly_of I q
    rw [hr]
    exact hx pins σ H2 s2 e C I2 fl q2
theorem pe_callX (hx : XOkS X Ex) (F : FnOk X.prog X.w X.K X.mg X.base (CX1 X.prog X.w) k f fd ps sp) (hr : Room k X.A) (hg : Gl X x) (hm : X.mg x = some (.ref f)) (hk : PySem.W.keepIn X.K (.ref f) = true) (hb : Binds X.K fd ps ds) (hd : Vals dvs ds)
    (ha : PA X (e :: es) t) (hdb : (x == ("__debug__" : Str)) = false := by decide) (he : starEach (e :: es) X.env = (false, eval e X.env) :: starEach es X.env := by rfl) (hpl : (backTo pos (starEach es X.env)).any (·.1) = false := by rfl) :
    PE X (.Call (.Name x p) (e :: es) [] pos) (tCallX sp dvs Ex t) := fun pins s σ H Q I h =>
  wpAny_Call_Name_kw (ld_glob I hg hm (PySem.W.callWith_K I.mod.kin hk (thn (ha pos pins s σ H _ I h) fun us s2 ⟨vs, H2, I2, r2, q2⟩ => ⟨I2.kIn, run_fnX hx F hr hb hd I2 r2 q2⟩) he hpl) hdb)
end
end L2

set_option maxHeartbeats 4000000
/-! except .. as n -/
namespace L2
open PySem PySem.Spec PyProof.Rows
def excAt (a C : Addr) : Heap → Prop := fun h => ∃ o vs, h.get? a = some o ∧ o.cls = .ref C ∧ o.data = .fields vs ∧ o.dict = none
/-- an exception's object that is known -/
def xo (a C : Addr) : HO := .ext (excAt a C)
section
variable {X : Cx} {pins : List (Addr × Obj)} {σ : St} {H : Hp} {s : Shared} {e C T : Addr}
theorem Inv.seen {oe : Obj} (I : Inv X pins σ H s) (fe : FlOk X pins H e) (ho : s.heap.get? e = some oe) (hc : oe.cls = .ref C) {vs : Array Value} (hf : oe.data = .fields vs) (hdn : oe.dict = none) : Inv X pins σ (upd H e (xo e C)) s := by
  have ne : ∀ {b u}, H b = some u → b ≠ e := fun {b u} h z => by rw [z, fe.1] at h; cases h
  have up : ∀ {b u}, H b = some u → upd H e (xo e C) b = some u := fun {b u} h => (upd_ne (ne h)).trans h
  refine ⟨I.ok, I.os, I.bare, ⟨I.base.keep, I.base.slot, fun b o e1 n hx => ?_, I.base.there, fun b xs h => up (I.base.tups b xs h), fun b o u h => up (I.base.frzs b o u h), fun b ps h => ?_⟩, I.loc, I.cell, (upd_ne (Ne.symm fe.2.1)).trans I.free, fun x c h => (upd_ne (fe.2.2.2.2.1 x c h)).trans (I.freeC x c h), fun p hp => ?_, fun b u h => ?_, I.len⟩
  · refine (upd_ne fun z => ?_).trans (I.base.free b o e1 n hx)
    rcases fe.2.2.2.1 with y | y
    · exact hx (z ▸ y)
    · rw [z, y] at e1; cases e1
  · obtain ⟨more, q⟩ := I.base.tbls b ps h
    exact ⟨more, up q⟩
  · obtain ⟨a1, a2, a3⟩ := I.pin p hp
    exact ⟨a1, (upd_ne (fe.2.2.2.2.2 p hp)).trans a2, a3⟩
  · by_cases hb : b = e
    · rw [hb, upd_same] at h
      cases h
      rw [hb]
      exact ⟨⟨oe, vs, ho, hc, hf, hdn⟩, ⟨oe, ho⟩, fun h1 h2 ⟨o, vs, p1, p2⟩ k => ⟨o, vs, k o p1, p2⟩⟩
    · rw [upd_ne hb] at h
      exact (I.hok b u h).stay (fun c v _ q => q) (fun c q => up q) fun c xs q => up q
end
end L2

set_option maxHeartbeats 4000000
/-! isinstance of an exception of an own class -/
namespace L2
open PySem PySem.Spec PyProof.Rows
/-- what is known of an own exception class by the fragment -/
def exq (K : PySem.W.Frag) (C : Addr) : Bool :=
  (PySem.W.clsIn K C).isSome && PySem.W.findIn K (.ref C) "__getattribute__" == some (some (.builtin "BaseException.__getattribute__")) && PySem.W.findIn K (.ref C) "__getattr__" == some none
  && PySem.W.findIn K (.ref C) "__class__" == some (some (.builtin "object.__class__")) && PySem.W.specialIn K (.builtin "object.__class__") "__get__" == some (some (.builtin "getset_descriptor.__get__"))
  && PySem.W.takesIn K (.builtin "object.__class__") == some true && PySem.W.mroIn K C (.type "object") == some true && PySem.W.mroIn K C (.type "BaseException") == some true
section
open PySem.W PySem.Calls
variable {prog : Program} {w : World} {A : Around} {E : Value → Shared → Prop} {s : Shared} {K : Frag} {a C : Addr}
end
end L2

set_option maxHeartbeats 4000000
/-! calls within an except suite: the callee has an exception handled around it -/
namespace L2
open PySem PySem.Spec PyProof.Rows
structure RoomM (k : Nat) (A : Around) : Prop where
  dp : A.depth + 3 * k + 5 < recursionLimit
  un : A.units + 16 * k + 200 < cLine
theorem Room.m {k : Nat} {A : Around} (r : Room k A) : RoomM k A := ⟨r.dp, r.un⟩
theorem RoomM.mark {k : Nat} {A : Around} (r : RoomM k A) (v : Option Value) : RoomM k (A.mark v) := ⟨r.dp, r.un⟩
theorem RoomM.mono {j k : Nat} {A : Around} (r : RoomM k A) (h : j ≤ k) : RoomM j A := ⟨by have := r.dp; omega, by have := r.un; omega⟩
theorem RoomM.deeper {k : Nat} {A : Around} (r : RoomM (k + 1) A) (env : Env) : RoomM k (A.deeper env) :=
  ⟨by have := r.dp; show A.depth + 1 + 3 * k + 5 < _; omega, by have := r.un; show A.units + 3 + 16 * k + 200 < _; omega⟩
structure FnOkM (P : Program) (w : World) (K : PySem.W.Frag) (mg : Str → Option Value) (base : Heap) (CX : CXT) (k : Nat) (f : Addr) (fd : FuncData) (ps : List Str) (sp : Sp) : Prop where
  len : ∀ vs H Q E, sp vs H Q E → vs.length = ps.length
  run : ∀ (A : Around) (outer : List Env) (s : Shared) (H : Hp) (args : Args) (us : List Value) (vs : List V) (Q : VK) (E : XK), RoomM k A → Env0 P w K mg base A outer s H → BindsTo s fd args (ps.zip us) → Vals vs us → sp vs H Q E →
    codeAny (model P w) A (.call (.ref f) args) (CR CX outer P w H s Q E) s
section
variable {X : Cx} {CX : CXT} {k : Nat} {f C : Addr} {fd : FuncData} {ps : List Str} {sp : Sp} {dvs : List V} {ds : List Value} {E : XK} {x m : Str} {p pos apos : Pos} {e o : Expr} {es : List Expr} {ta : TE} {t : TA}
end

end L2

set_option maxHeartbeats 4000000
namespace L2
open PySem PySem.Spec PyProof.Rows
end L2

set_option maxHeartbeats 4000000
/-! dicts of tuples: their length, walked by their keys -/
namespace DT
open PySem
section
variable {prog : Program} {w : World} {A : Around} {E : Value → Shared → Prop} {s : Shared} {d it : Addr} {od : Obj} {es : Array DictEntry} {ep i : Nat}
theorem tyD (gd : s.heap.get? d = some od) (xd : od.ExactDict) : s.TypeIs (.ref d) "dict" := ⟨od, gd, xd.1⟩
theorem len_meets (d : Addr) (es : Array DictEntry) (nd : (d == sysModules) = false) : MeetsIn prog w (Builtin.«dict.__len__» ⟨[.ref d], []⟩) (fun _ R s => (∃ od ep, s.heap.get? d = some od ∧ od.data = .dict es ep) ∧ R (.ok (.ret (.int es.size s.toks))) { s with toks := s.toks + 1 }) :=
  .of_wp fun A R s ⟨⟨od, ep, gd, dd⟩, q⟩ => by
    show wpAny _ _ (dictSize d >>= _) _ _ s; unfold dictSize; refine wpAny_bind (wpAny_bind (wpAny_dictEntries gd dd (wpAny_pure ?_)))
    show wpAny _ _ (Builtin.Dict.pendingCount d >>= _) _ _ s; refine wpAny_bind (wpAny_pendingCount_other nd (wpAny_ret_mkInt ?_)); rw [Nat.add_zero]; exact q
theorem len_dict {Q : Value → Shared → Prop} (nd : (d == sysModules) = false) (gd : s.heap.get? d = some od) (xd : od.ExactDict) (dd : od.data = .dict es ep) (fit : (es.size : Int) < 2 ^ 63) (q : Q (.int es.size (s.toks + 1)) { s with toks := s.toks + 1 + 1 }) : wpAny (model prog w) A (call (.builtin "len") [.ref d]) Q E s := by
  refine Calls.call_function_entry kind_len plain_len entry_len (args_len1 _) ?_
  unfold Builtin.«len»; refine wpAny_bind (m := oneArg "len" _) (wpAny_pure ?_)
  refine wpAny_bind (m := callSpecial? (.ref d) (Str.ofString "__len__")) (wpAny_callSpecial?_slot (name := Str.ofString "__len__") (tyD gd xd) F.slot_dict_len (call_meetsIn F.slot_dict_len (tyD gd xd) F.entry_dict_len (F.args_dict_len_1 _) (len_meets d es nd) ⟨⟨od, ep, gd, dd⟩, ?_⟩))
  show wpAny _ _ _ _ _ { s with toks := s.toks + 1 }; refine wpAny_bind (wpAny_holding (wpAny_pure ?_)); refine wpAny_bind (wpAny_letGo ?_)
  show wpAny _ _ (if ((es.size : Nat) : Int) < 0 then _ else _) _ _ _; rw [if_neg (by omega)]
  show wpAny _ _ (if ((es.size : Nat) : Int) ≥ 2 ^ 63 then _ else _) _ _ _; rw [if_neg (by omega)]
  exact wpAny_bind (wpAny_mkInt (wpAny_pure ⟨_, rfl, q⟩))
theorem iter_dict {Q : Value → Shared → Prop} (nd : (d == sysModules) = false) (gd : s.heap.get? d = some od) (xd : od.ExactDict) (dd : od.data = .dict es ep)
    (q : Q (.ref s.heap.objs.size) { s with heap := s.heap.push { cls := .type "dict_keyiterator", data := .fields #[.ref d, .int 0 0, .int es.size 0, .int ep 0] } }) : wpAny (model prog w) A (pyIter (.ref d)) Q E s := by
  refine wpAny_pyIter_slot (tyD gd xd) F.slot_dict_iter (wpAny_call_entry F.slot_dict_iter (tyD gd xd) F.entry_dict_iter ?_ (F.args_dict_iter_1 _))
  unfold Builtin.«dict.__iter__»; refine wpAny_bind ?_; unfold Builtin.Dict.dictSlotNone; refine wpAny_bind (wpAny_notOrdered_dict (tyD gd xd) ?_)
  show wpAny _ _ (pure (Value.ref d)) _ _ s; refine wpAny_pure ?_
  show wpAny _ _ (Builtin.Dict.showsAll d >>= _) _ _ s; unfold Builtin.Dict.showsAll; rw [if_neg (by rw [nd]; exact Bool.false_ne_true)]
  refine wpAny_bind (wpAny_pure (wpAny_bind (wpAny_dictEntries gd dd (wpAny_bind (wpAny_dictEpoch gd dd ?_)))))
  refine wpAny_bind (wpAny_newObj_type (wpAny_pure ⟨_, rfl, "dict_keyiterator", _, ⟨_, Heap.get?_push_size _ rfl, rfl⟩, F.slot_dict_keyiterator_next.lookup, ?_⟩))
  simpa [rawInt] using q
theorem next_dict {e : DictEntry} {Q : Option Value → Shared → Prop} (st : s.heap.IsKeyIter it d i es.size ep) (gd : s.heap.get? d = some od) (dd : od.data = .dict es ep) (hx : es[i]? = some e)
    (q : ∀ h', h'.IsKeyIter it d (i + 1) es.size ep → Heap.SameBut it s.heap h' → Q (some e.key) { s with heap := h' }) : wpAny (model prog w) A (pyNext (.ref it)) Q E s := by
  obtain ⟨o, go, hc, hf⟩ := id st
  unfold pyNext; refine wpAny_bind (wpAny_attempt (wpAny_callSpecial?_slot (name := Str.ofString "__next__") st.typeIs F.slot_dict_keyiterator_next (wpAny_call_entry F.slot_dict_keyiterator_next st.typeIs F.entry_dict_keyiterator_next ?_ (F.args_dict_keyiterator_next_1 _))))
  refine wpAny_bind (wpAny_pure (wpAny_bind (wpAny_bind ?_)))
  first | refine wpAny_bind (wpAny_typeNameOfWhole_keyiter st.typeIs (wpAny_pure ?_)) | refine wpAny_bind (wpAny_typeNameOf_keyiter st.typeIs (wpAny_pure ?_))
  refine wpAny_bind (wpAny_fieldsOf go hf ?_)
  simp only [show Builtin.Dict_items.ownsTuple "dict_keyiterator" = false by decide, Bool.false_eq_true, if_false]
  show wpAny _ _ (if (Value.ref d == Value.none) = true then _ else _) _ _ s; rw [if_neg (show ¬ ((Value.ref d == Value.none) = true) from Bool.false_ne_true)]
  refine wpAny_bind (wpAny_pure (wpAny_bind (wpAny_dictEntries gd dd ?_))); rw [if_neg (by simp)]
  refine wpAny_bind (wpAny_pure (wpAny_bind (wpAny_dictEpoch gd dd ?_))); rw [if_neg (by simp)]; refine wpAny_pure ?_
  simp only [show ¬ ((i : Int) < 0) from by omega, if_false, Int.toNat_natCast, hx]; refine wpAny_bind ?_
  first | refine wpAny_bind (wpAny_typeNameOfWhole_keyiter st.typeIs (wpAny_pure ?_)) | refine wpAny_bind (wpAny_typeNameOf_keyiter st.typeIs (wpAny_pure ?_))
  refine wpAny_bind (wpAny_isOneOf_keyiter st.typeIs ?_)
  show wpAny _ _ (setField (.ref it) 1 (rawInt ((i : Int) + 1)) >>= _) _ _ s; refine wpAny_bind (wpAny_setField go hf (by simp) ?_)
  have st' : (s.heap.update it (Obj.mapFields (·.setIfInBounds 1 (rawInt ((i : Int) + 1))))).IsKeyIter it d (i + 1) es.size ep := ⟨_, Heap.get?_update_self _ go (Obj.isFreed_of_fields (Obj.data_mapFields hf _)), (Obj.cls_mapFields ..).trans hc, by rw [Obj.data_mapFields hf]; simp [rawInt]⟩
  refine wpAny_bind (wpAny_holding ?_); refine wpAny_bind (wpAny_isOneOf_keyiter (s := { s with heap := s.heap.update it (Obj.mapFields (·.setIfInBounds 1 (rawInt ((i : Int) + 1)))) }) st'.typeIs ?_)
  show wpAny _ _ (pure e.key) _ _ _; exact wpAny_pure (wpAny_pure ⟨_, rfl, wpAny_pure (q _ st' (Heap.SameBut.update ..))⟩)
theorem end_dict {Q : Option Value → Shared → Prop} (hh : A.handled = none) (st : s.heap.IsKeyIter it d i es.size ep) (gd : s.heap.get? d = some od) (dd : od.data = .dict es ep) (hx : es[i]? = none)
    (q : ∀ h', Heap.ExtBut it s.heap h' → Q none { s with heap := h' }) : wpAny (model prog w) A (pyNext (.ref it)) Q E s := by
  obtain ⟨o, go, hc, hf⟩ := id st
  unfold pyNext; refine wpAny_bind (wpAny_attempt (wpAny_callSpecial?_slot (name := Str.ofString "__next__") st.typeIs F.slot_dict_keyiterator_next (wpAny_call_entry F.slot_dict_keyiterator_next st.typeIs F.entry_dict_keyiterator_next ?_ (F.args_dict_keyiterator_next_1 _))))
  refine wpAny_bind (wpAny_pure (wpAny_bind (wpAny_bind ?_)))
  first | refine wpAny_bind (wpAny_typeNameOfWhole_keyiter st.typeIs (wpAny_pure ?_)) | refine wpAny_bind (wpAny_typeNameOf_keyiter st.typeIs (wpAny_pure ?_))
  refine wpAny_bind (wpAny_fieldsOf go hf ?_)
  simp only [show Builtin.Dict_items.ownsTuple "dict_keyiterator" = false by decide, Bool.false_eq_true, if_false]
  show wpAny _ _ (if (Value.ref d == Value.none) = true then _ else _) _ _ s; rw [if_neg (show ¬ ((Value.ref d == Value.none) = true) from Bool.false_ne_true)]
  refine wpAny_bind (wpAny_pure (wpAny_bind (wpAny_dictEntries gd dd ?_))); rw [if_neg (by simp)]
  refine wpAny_bind (wpAny_pure (wpAny_bind (wpAny_dictEpoch gd dd ?_))); rw [if_neg (by simp)]; refine wpAny_pure ?_
  simp only [show ¬ ((i : Int) < 0) from by omega, if_false, Int.toNat_natCast, hx]; refine wpAny_bind ?_
  first | refine wpAny_bind (wpAny_typeNameOfWhole_keyiter st.typeIs (wpAny_pure ?_)) | refine wpAny_bind (wpAny_typeNameOf_keyiter st.typeIs (wpAny_pure ?_))
  show wpAny _ _ (setField (.ref it) 0 .none >>= _) _ _ s; refine wpAny_bind (wpAny_setField go hf (by simp) ?_)
  show wpAny _ _ (newExc (.type "StopIteration") [] >>= _) _ _ _; refine wpAny_bind ?_; simp only [newExc, newTuple]; refine wpAny_bind (wpAny_newObj_type ?_ (by size_fits))
  refine wpAny_bind (m := firstArgMember _ _) (wpAny_of_eq (a := Value.none) (by first | rfl | (simp only [firstArgMember]; rfl)) (wpAny_newObj_type ?_ (by size_fits)))
  simp only [raiseNew]; refine wpAny_bind (wpAny_handled ?_); rw [show A.in1.handled = none from hh]; refine wpAny_bind (wpAny_pure (wpAny_throw ?_))
  refine wpAny_bind (wpAny_isInstance (T := "StopIteration") (b := true) ⟨_, Heap.get?_push_size _ rfl, rfl⟩ isSubtype_stop ?_); exact wpAny_pure (q _ (((Heap.SameBut.update ..).extBut.push _).push _))
theorem self_dict {n : Nat} {Q : Value → Shared → Prop} (st : s.heap.IsKeyIter it d i n ep) (q : Q (.ref it) s) : wpAny (model prog w) A (pyIter (.ref it)) Q E s := by
  refine wpAny_pyIter_slot st.typeIs F.slot_dict_keyiterator_iter (wpAny_call_entry F.slot_dict_keyiterator_iter st.typeIs F.entry_dict_keyiterator_iter ?_ (F.args_dict_keyiterator_iter_1 _))
  show wpAny _ _ (ret (.ref it)) _ _ s; exact wpAny_pure ⟨_, rfl, "dict_keyiterator", _, st.typeIs, F.slot_dict_keyiterator_next.lookup, q⟩
end
end DT
namespace L2
open PySem PySem.Spec PyProof.Rows
section
variable {X : Cx} {pins : List (Addr × Obj)} {σ : St} {H : Hp} {s : Shared} {d : Addr} {kvs : List (List Key × V)} {o : Obj}
/-- what stands at a dict of tuples -/
theorem Inv.dT (I : Inv X pins σ H s) (e : Rd H d (.dT kvs)) : kvs.length ≤ sizeLine ∧ (d == sysModules) = false ∧ ∃ (xs : List (List Key × Addr × Value)) (od : Obj) (es : Array DictEntry) (ep : Nat), KT H kvs xs ∧ s.heap.get? d = some od ∧ od.ExactDict ∧ od.data = .dict es ep ∧ es.size = kvs.length ∧
    ∀ (i : Nat) p, kvs[i]? = some p → ∃ (b : Addr) (h : Int) (v : Value), es[i]? = some ⟨h, .ref b, v⟩ ∧ H b = some (.tup (p.1.map kV)) := by
  obtain ⟨z, y, xs, r, od, es, ep, h1, h2, h3, h4, h5⟩ := (show ObjOk X.prog X.w H s.heap d (.dT kvs) from rd_of I.hok e)
  have hl : kvs.length = xs.length := Paired.length r
  have hs : es.size = kvs.length := by rw [hl, ← Array.length_toList, h4, List.length_map]
  refine ⟨z, y, xs, od, es, ep, r, h1, h2, h3, hs, fun i p hp => ?_⟩
  have at_ : ∀ {l : List (List Key × V)} {m : List (List Key × Addr × Value)} {j : Nat} {q : List Key × V}, KT H l m → l[j]? = some q → ∃ x, m[j]? = some x ∧ H x.2.1 = some (.tup (q.1.map kV)) := by
    intro l m j q t
    induction t generalizing j with
    | nil => intro z; simp at z
    | @cons a b as bs hq _ ih =>
      intro z
      cases j with
      | zero =>
        have : a = q := by simpa using z
        subst this
        exact ⟨b, rfl, hq.2.1⟩
      | succ j => exact ih (by simpa using z)
  obtain ⟨x, hx, hH⟩ := at_ r hp
  have : es[i]? = some (entryOfKey (tupleKind (mixKind X.prog X.w)) x) := by rw [← Array.getElem?_toList, h4, List.getElem?_map, hx]; rfl
  exact ⟨x.2.1, _, _, this, hH⟩
theorem Inv.freeze (I : Inv X pins σ H s) (e : H d = some (.dT kvs)) : ∃ od, s.heap.get? d = some od ∧ Inv X pins σ (upd H d (.frz od (.dT kvs))) s := by
  obtain ⟨z, y, xs, r, od, es, ep, h1, h2⟩ := (show ObjOk X.prog X.w H s.heap d (.dT kvs) from I.hok d _ e)
  refine ⟨od, h1, I.write (x := d) (e := d) (h' := s.heap) (t' := s.toks) (by rw [e]; exact trivial) (.inl rfl) (fun b u _ q => q) ⟨od, h1⟩ ⟨h1, z, y, xs, ?_, od, es, ep, h1, h2⟩⟩
  have go : ∀ {l : List (List Key × V)} {m : List (List Key × Addr × Value)}, KT H l m → KT (upd H d (.frz od (.dT kvs))) l m := by
    intro l m t
    induction t with
    | nil => exact .nil
    | cons hq _ ih => exact .cons ⟨hq.1, by rw [upd_ne (ne_of hq.2.1 e (fun z => nomatch z))]; exact hq.2.1, hq.2.2⟩ ih
  exact go r
theorem Inv.unfreeze (I : Inv X pins σ H s) (h0 : ∀ o u, X.H₀ d ≠ some (.frz o u)) (e : H d = some (.frz o (.dT kvs))) : Inv X pins σ (upd H d (.dT kvs)) s := by
  have nn : ∀ {b : Addr}, H b = none → upd H d (.dT kvs) b = none := fun {b} q => by rw [upd_ne (fun z => by rw [z, e] at q; cases q)]; exact q
  have nt : ∀ {b : Addr} {xs : List V}, H b = some (.tup xs) → upd H d (.dT kvs) b = some (.tup xs) := fun {b xs} q => by rw [upd_ne (ne_of q e (fun z => nomatch z))]; exact q
  have nw : ∀ {b x : Addr}, H b = some (.own x) → upd H d (.dT kvs) b = some (.own x) := fun {b xs} q => by rw [upd_ne (ne_of q e (fun z => nomatch z))]; exact q
  refine ⟨I.ok, I.os, I.bare, ⟨I.base.keep, I.base.slot, fun b u q n hx => nn (I.base.free b u q n hx), I.base.there, fun b xs q => nt (I.base.tups b xs q), fun b u v q => ?_, fun b ps q => ?_⟩, I.loc, I.cell, nn I.free, fun x c q => nn (I.freeC x c q), fun p hp => ?_, fun b u q => ?_, I.len⟩
  · rw [upd_ne (fun z => h0 u v (by rw [← z]; exact q))]; exact I.base.frzs b u v q
  · obtain ⟨more, hm⟩ := I.base.tbls b ps q
    exact ⟨more, by rw [upd_ne (ne_of hm e (fun z => nomatch z))]; exact hm⟩
  · obtain ⟨a1, a2, a3⟩ := I.pin p hp
    exact ⟨a1, nn a2, a3⟩
  · by_cases hb : b = d
    · subst hb
      rw [upd_same] at q
      cases q
      obtain ⟨_, ok⟩ := (show ObjOk X.prog X.w H s.heap b (.frz o (.dT kvs)) from I.hok b _ e)
      exact ok.stay (fun c v _ r => r) (fun c r => nw r) fun c xs r => nt r
    · rw [upd_ne hb] at q
      exact (I.hok b u q).stay (fun c v _ r => r) (fun c r => nw r) fun c xs r => nt r
end
/-- len(d) -/
def cLenT (_ : PySem.W.Frag) : List V → Hp → VK → Prop := fun vs H Q => match vs with
  | [.ref p] => ∃ kvs, Rd H p (.dT kvs) ∧ Q (.int kvs.length) H
  | _ => False
theorem c_lenT {X : Cx} : CallR X (.builtin "len") (cLenT X.K) := by
  intro pins s σ H xs us Q I r h
  match xs, h with
  | [.ref p], h =>
    obtain ⟨kvs, e, q⟩ := h
    obtain ⟨u1, rfl, e1⟩ := vals1 r
    cases e1
    obtain ⟨z, y, xs, od, es, ep, _, h1, h2, h3, h4, _⟩ := I.dT e
    refine DT.len_dict y h1 h2 h3 (by rw [h4, sizeLine_eq] at *; omega) ⟨.int kvs.length, H, I.tok _, ⟨_, by rw [h4]⟩, q⟩
/-! for k in d -/
def Itd (d : Addr) (kvs : List (List Key × V)) (o : Obj) : It :=
  ⟨fun i H => H d = some (.frz o (.dT kvs)) ∧ i < kvs.length, fun i H x H' => H' = H ∧ ∃ p b, kvs[i]? = some p ∧ x = .ref b ∧ H b = some (.tup (p.1.map kV)), fun i H => H d = some (.frz o (.dT kvs)) ∧ kvs.length ≤ i⟩
theorem turn_dT {P : Program} {w : World} {K : PySem.W.Frag} {tg : Expr} (d it : Addr) (kvs : List (List Key × V)) (o : Obj) (es : Array DictEntry) (ep : Nat) (hd : o.data = .dict es ep) (hs : es.size = kvs.length) :
    Turn P w K tg (Itd d kvs o) [it] it (fun i h => h.IsKeyIter it d i es.size ep) where
  mem := by simp
  obj := fun i h st b hb => by
    have e : b = it := by simpa using hb
    subst e
    obtain ⟨o, e, c, q⟩ := st
    exact ⟨o, e, fun v z => by rw [q] at z; cases z⟩
  keep := fun i h h' st k => by
    obtain ⟨o, e, c, q⟩ := st
    exact ⟨o, k it (by simp) o e, c, q⟩
  item := by
    intro X hP hw hK hc i pins s σ H E I hf st hg
    subst hP hw hK
    obtain ⟨f0, f1, f2, f3, f4, f5⟩ := hf it (by simp)
    obtain ⟨hz, hi⟩ := hg
    have g1 : s.heap.get? d = some o := (show ObjOk X.prog X.w H s.heap d (.frz o (.dT kvs)) from I.hok d _ hz).1
    obtain ⟨_, _, xs, od, es', ep', _, h1, h2, h3, h4, h5⟩ := I.dT (.inr ⟨o, hz⟩)
    rw [g1] at h1
    cases h1
    rw [hd] at h3
    cases h3
    obtain ⟨b, hh, v, hx, hb⟩ := h5 i kvs[i] (List.getElem?_eq_getElem hi)
    refine DT.next_dict st g1 hd hx fun h' st' sb => ?_
    have I1 : Inv X pins σ H { s with heap := h' } := I.turned (t' := s.toks) (fun b o hb e => (sb.2 b hb).trans e) f0 f1 f3 f4 f5
    obtain ⟨o', e, c, q⟩ := id st'
    exact ⟨_, rfl, go_of (s := { s with heap := h' }) e c q (by decide) ⟨.ref b, H, I1, rfl, ⟨rfl, _, b, List.getElem?_eq_getElem hi, rfl, hb⟩, st', fun b hb => (hf b hb).1⟩⟩
  done := by
    intro X hP hw hK hc i pins s σ H E I hf st hg
    subst hP hw hK
    obtain ⟨f0, f1, f2, f3, f4, f5⟩ := hf it (by simp)
    obtain ⟨hz, hi⟩ := hg
    have g1 : s.heap.get? d = some o := (show ObjOk X.prog X.w H s.heap d (.frz o (.dT kvs)) from I.hok d _ hz).1
    exact DT.end_dict (I.ok.hd hc) st g1 hd (Array.getElem?_eq_none (by omega)) fun h' eb => ⟨rfl, I.turned (t' := s.toks) (fun b o hb e => eb b o hb e) f0 f1 f3 f4 f5⟩
  self := fun _ _ _ _ _ st h => DT.self_dict st h
def iDT (tl : TE) : TI := fun σ H R => tl σ H fun x H1 => ∃ d kvs, x = .ref d ∧ H1 d = some (.dT kvs) ∧ ∀ o, R (Itd d kvs o) (upd H1 d (.frz o (.dT kvs)))
theorem pi_dT {X : Cx} {tg l : Expr} {tl : TE} (hl : PE X l tl) : PI X tg l (iDT tl) := by
  intro pins s σ H R I h
  refine thn (hl pins s σ H _ I h) fun v s1 ⟨x, H1, I1, r1, q1⟩ => ?_
  obtain ⟨d, kvs, e, hd, q⟩ := q1
  subst e
  cases r1
  obtain ⟨_, y, xs, od, es, ep, _, h1, h2, h3, h4, _⟩ := I1.dT (.inl hd)
  obtain ⟨od', g1, I2⟩ := I1.freeze hd
  rw [h1] at g1
  cases g1
  refine DT.iter_dict y h1 h2 h3 ?_
  refine ⟨s1.heap.objs.size, [s1.heap.objs.size], _, _, _, rfl, I2.kept (t' := s1.toks) fun b o e => Heap.get?_push_of_some _ e, turn_dT d _ kvs od es ep h3 h4, ⟨_, Heap.get?_push_size _ rfl, rfl, rfl⟩, fun b hb => ?_, q od⟩
  have e : b = s1.heap.objs.size := by simpa using hb
  subst e
  exact I2.fpOk (Nat.le_refl _) (I2.hok.fresh (Nat.le_refl _))
/-- a statement that freezes a dict; behind it is as before -/
def tUnf (t : TS) : TS := fun D σ H => ∃ d kvs, H d = some (.dT kvs) ∧ t { D with nx := fun σ' H' => (∃ o, H' d = some (.frz o (.dT kvs))) ∧ D.nx σ' (upd H' d (.dT kvs)) } σ H
theorem ps_unf {X : Cx} {st : Stmt} {t : TS} (h : PS X st t) : PS X st (tUnf t) := by
  intro pins s σ H D I q
  obtain ⟨d, kvs, hd, q⟩ := q
  have h0 : ∀ o u, X.H₀ d ≠ some (.frz o u) := fun o u e => by
    have := I.base.frzs d o u e
    rw [hd] at this
    cases this
  refine wpAny_mono (h pins s σ H _ I q) (fun f s' z => ?_) fun _ _ z => z
  cases f with
  | next =>
    obtain ⟨σ', H', I', ⟨o, e⟩, q'⟩ := z
    exact ⟨σ', _, I'.unfreeze h0 e, q'⟩
  | ret v => exact z
  | brk => exact z
  | cont => exact z
theorem tFor_dT {te : TE} {g : TG} {tb : TS} {D : Ends} {σ : St} {H : Hp} : tFor (iDT te) g tb D σ H = te σ H (fun x H1 => ∃ d kvs, x = .ref d ∧ H1 d = some (.dT kvs) ∧ ∀ o, ForGoal (Itd d kvs o) g tb D σ (upd H1 d (.frz o (.dT kvs)))) := rfl
theorem for_dG {g : TG} {tb : TS} {D : Ends} {σ : St} {H : Hp} {d : Addr} {kvs : List (List Key × V)} {o : Obj} (Pv : Nat → St → Hp → Prop) (h0 : Pv 0 σ H) (hk : ∀ i σ H, i ≤ kvs.length → Pv i σ H → H d = some (.frz o (.dT kvs)))
    (hs : ∀ i p b σ H, kvs[i]? = some p → H b = some (.tup (p.1.map kV)) → Pv i σ H → g (.ref b) σ H fun σ2 H2 => tb { D with nx := Pv (i + 1), ct := Pv (i + 1), bk := D.nx } σ2 H2) (hd : ∀ σ H, Pv kvs.length σ H → D.nx σ H) : ForGoal (Itd d kvs o) g tb D σ H := by
  refine ⟨fun i m σ H => i ≤ kvs.length ∧ m = kvs.length - i ∧ Pv i σ H, ⟨kvs.length, Nat.zero_le _, rfl, h0⟩, ?_⟩
  rintro i m σ H ⟨hi, rfl, hP⟩
  by_cases hlt : i < kvs.length
  · right
    refine ⟨⟨hk i σ H hi hP, hlt⟩, Pv (i + 1), fun σ' H' h' => ⟨kvs.length - (i + 1), by omega, hlt, rfl, h'⟩, ?_⟩
    rintro x H' ⟨rfl, p, b, hp, rfl, hb⟩
    exact hs i p b σ H' hp hb hP
  · left
    have e : i = kvs.length := by omega
    subst e
    exact ⟨⟨hk _ σ H hi hP, Nat.le_refl _⟩, hd σ H hP⟩
end L2

set_option maxHeartbeats 4000000
/-! for a, b in zip(l, m) -/
namespace L2
open PySem PySem.Spec PyProof.Rows
section
variable {X : Cx} {pins : List (Addr × Obj)} {σ : St} {H : Hp} {s : Shared}
theorem FpOk.fl {b : Addr} (h : FpOk X pins H b) : FlOk X pins H b := ⟨h.1, h.2.1, h.2.2.1, h.2.2.2.1.imp id fun z => by
  cases e : X.s₀.heap.get? b with
  | none => rfl
  | some o => exact absurd (Heap.lt_size e) (Nat.not_lt.mpr z), h.2.2.2.2.1, h.2.2.2.2.2⟩
end
end L2

set_option maxHeartbeats 4000000
/-! range(a, b, -1), reversed(range(a, b)) -/
namespace L2
open PySem PySem.Spec PyProof.Rows
section
variable {X : Cx} {tg : Expr}
end
end L2

set_option maxHeartbeats 4000000
/-! reversed(range(a, b)) -/
namespace RR
open PySem
section
variable {prog : Program} {w : World} {A : Around} {E : Value → Shared → Prop} {s : Shared}
end
end RR
namespace L2
open PySem PySem.Spec PyProof.Rows
section
variable {X : Cx} {tg : Expr}
end
section
variable {K : PySem.W.Frag} {ta : TA} {g : TG} {tb : TS} {D : Ends} {σ : St} {H : Hp}
end
end L2

set_option maxHeartbeats 4000000
/-! xs * n; products of any size -/
namespace L2
open PySem PySem.Spec PyProof.Rows
end L2

set_option maxHeartbeats 4000000
/-! list(reversed(l)) -/
namespace RV
open PySem
section
variable {prog : Program} {w : World} {A : Around} {E : Value → Shared → Prop} {s : Shared}
end
end RV
namespace L2
open PySem PySem.Spec PyProof.Rows
end L2

set_option maxHeartbeats 4000000
/-! laws that want the bound of the script's ints -/
namespace L2
open PySem PySem.Spec PyProof.Rows PySem.W
end L2

set_option maxRecDepth 20000
/-! lists of pairs: in, not in, index -/
namespace L2
open PySem PySem.Spec PyProof.Rows
variable {X : Cx}
structure PL (H : Hp) (p : Addr) (es : List En) : Prop where
  lst : H p = some (.lst (es.map fun e => V.ref e.1))
  tup : ∀ e ∈ es, H e.1 = some (.tup [.int e.2.1, .int e.2.2])
theorem PL.same {H H' : Hp} {p : Addr} {es : List En} (h : PL H p es) (s : Same H H') : PL H' p es := ⟨s _ _ h.lst, fun e he => s _ _ (h.tup e he)⟩
theorem PL.un {H H' : Hp} {p pl kl : Addr} {es : List En} {xs : List V} {kv : List (List Key × V)} (h : PL H p es) (hp : H pl = some (.lst xs)) (hk : H kl = some (.dT kv)) (n : p ≠ pl) (u : Un2 pl kl H H') : PL H' p es :=
  ⟨u _ _ n (ne_of h.lst hk (fun z => nomatch z)) h.lst, fun e he => u _ _ (ne_of (h.tup e he) hp (fun z => nomatch z)) (ne_of (h.tup e he) hk (fun z => nomatch z)) (h.tup e he)⟩
theorem PL.put {H : Hp} {p tp : Addr} {es : List En} {q : MF.Pr} (h : PL H p es) (ht : H tp = some (.tup [.int q.1, .int q.2])) : PL (upd H p (.lst ((es.map fun e => V.ref e.1) ++ [.ref tp]))) p (es ++ [(tp, q)]) := by
  have nt : ∀ {b : Addr} {ys : List V}, H b = some (.tup ys) → b ≠ p := fun e => ne_of e h.lst (fun z => nomatch z)
  refine ⟨by rw [upd_same, List.map_append]; rfl, fun e he => ?_⟩
  rcases List.mem_append.mp he with he | he
  · rw [upd_ne (nt (h.tup e he))]; exact h.tup e he
  · rw [List.mem_singleton] at he
    subst he
    rw [upd_ne (nt ht)]; exact ht
/-- a comprehension over a dict of pairs -/
theorem tComp_dT {te : TE} {k : Nat} {sel : List Nat} {g : TG} {tt : TT} {el : TE} {σ : L2.St} {H : Hp} {Q : VK} : tComp (iDT te) k sel g tt el σ H Q = te σ H (fun x H1 => ∃ d kvs, x = .ref d ∧ H1 d = some (.dT kvs) ∧ ∀ o, CompG (Itd d kvs o) σ k sel g tt el Q (upd H1 d (.frz o (.dT kvs)))) := rfl
/-! index of a text -/
end L2

set_option maxHeartbeats 4000000
/-! list(d) -/
namespace DT
open PySem
end DT
namespace L2
open PySem PySem.Spec PyProof.Rows
end L2

set_option maxHeartbeats 4000000
namespace K18
open PySem PySem.Spec PyProof.Rows L2
def top (i : Nat) : Stmt := PySem.Challenge.pw_gatefold_k18_columns_of_knots.main.body.getD i (.Pass ⟨0, 0, 0, 0⟩)
abbrev s_full_column : Stmt := top 1
abbrev N_full_column : List Str := ["many"]
theorem sc_full_column : FnScope N_full_column ["many"] (defScope s_full_column) := ⟨rfl, rfl, rfl, by decide +kernel, rfl, by decide +kernel, by decide +kernel⟩
abbrev s_input_columns : Stmt := top 2
abbrev N_input_columns : List Str := ["many", "columns", "every", "width", "place"]
theorem sc_input_columns : FnScope N_input_columns ["many"] (defScope s_input_columns) := ⟨rfl, rfl, rfl, by decide +kernel, rfl, by decide +kernel, by decide +kernel⟩
abbrev s_lit_knots : Stmt := top 8
abbrev N_lit_knots : List Str := ["fold", "top", "inputs", "every", "lit", "knot"]
theorem sc_lit_knots : FnScope N_lit_knots ["fold", "top", "inputs", "every"] (defScope s_lit_knots) := ⟨rfl, rfl, rfl, by decide +kernel, rfl, by decide +kernel, by decide +kernel⟩
abbrev s_lit_pair : Stmt := top 9
abbrev N_lit_pair : List Str := ["lit", "pair", "every"]
theorem sc_lit_pair : FnScope N_lit_pair ["lit", "pair", "every"] (defScope s_lit_pair) := ⟨rfl, rfl, rfl, by decide +kernel, rfl, by decide +kernel, by decide +kernel⟩
abbrev s_lit_tie : Stmt := top 10
abbrev N_lit_tie : List Str := ["lit", "tie", "every"]
theorem sc_lit_tie : FnScope N_lit_tie ["lit", "tie", "every"] (defScope s_lit_tie) := ⟨rfl, rfl, rfl, by decide +kernel, rfl, by decide +kernel, by decide +kernel⟩
abbrev s_need_tie : Stmt := top 11
abbrev N_need_tie : List Str := ["fold", "tie"]
theorem sc_need_tie : FnScope N_need_tie ["fold", "tie"] (defScope s_need_tie) := ⟨rfl, rfl, rfl, by decide +kernel, rfl, by decide +kernel, by decide +kernel⟩
abbrev s_column : Stmt := top 12
abbrev N_column : List Str := ["fold", "tie", "every"]
theorem sc_column : FnScope N_column ["fold", "tie"] (defScope s_column) := ⟨rfl, rfl, rfl, by decide +kernel, rfl, by decide +kernel, by decide +kernel⟩
abbrev s_knot_columns : Stmt := top 13
abbrev N_knot_columns : List Str := ["fold"]
theorem sc_knot_columns : FnScope N_knot_columns ["fold"] (defScope s_knot_columns) := ⟨rfl, rfl, rfl, by decide +kernel, rfl, by decide +kernel, by decide +kernel⟩
abbrev s_turned : Stmt := top 17
abbrev N_turned : List Str := ["tie"]
theorem sc_turned : FnScope N_turned ["tie"] (defScope s_turned) := ⟨rfl, rfl, rfl, by decide +kernel, rfl, by decide +kernel, by decide +kernel⟩
abbrev s_Fold___init__ : Stmt := inClass (top 18) 0
abbrev N_Fold___init__ : List Str := ["self", "many"]
theorem sc_Fold___init__ : FnScope N_Fold___init__ ["self", "many"] (defScope s_Fold___init__) := ⟨rfl, rfl, rfl, by decide +kernel, rfl, by decide +kernel, by decide +kernel⟩
abbrev s_Fold_total : Stmt := inClass (top 18) 1
abbrev N_Fold_total : List Str := ["self"]
theorem sc_Fold_total : FnScope N_Fold_total ["self"] (defScope s_Fold_total) := ⟨rfl, rfl, rfl, by decide +kernel, rfl, by decide +kernel, by decide +kernel⟩
abbrev s_Fold_has_tie : Stmt := inClass (top 18) 2
abbrev N_Fold_has_tie : List Str := ["self", "tie"]
theorem sc_Fold_has_tie : FnScope N_Fold_has_tie ["self", "tie"] (defScope s_Fold_has_tie) := ⟨rfl, rfl, rfl, by decide +kernel, rfl, by decide +kernel, by decide +kernel⟩
abbrev s_Fold_pair : Stmt := inClass (top 18) 3
abbrev N_Fold_pair : List Str := ["self", "knot"]
theorem sc_Fold_pair : FnScope N_Fold_pair ["self", "knot"] (defScope s_Fold_pair) := ⟨rfl, rfl, rfl, by decide +kernel, rfl, by decide +kernel, by decide +kernel⟩
abbrev s_Fold_both : Stmt := inClass (top 18) 4
abbrev N_Fold_both : List Str := ["self", "one", "other", "first", "second"]
theorem sc_Fold_both : FnScope N_Fold_both ["self", "one", "other"] (defScope s_Fold_both) := ⟨rfl, rfl, rfl, by decide +kernel, rfl, by decide +kernel, by decide +kernel⟩
abbrev s_Fold_and_knot : Stmt := inClass (top 18) 5
abbrev N_Fold_and_knot : List Str := ["self", "ties"]
theorem sc_Fold_and_knot : FnScope N_Fold_and_knot ["self", "ties"] (defScope s_Fold_and_knot) := ⟨rfl, rfl, rfl, by decide +kernel, rfl, by decide +kernel, by decide +kernel⟩
abbrev s_law_cell_at : Stmt := top 20
abbrev N_law_cell_at : List Str := ["_law_script", "_law_k"]
theorem sc_law_cell_at : FnScope N_law_cell_at ["_law_script", "_law_k"] (defScope s_law_cell_at) := ⟨rfl, rfl, rfl, by decide +kernel, rfl, by decide +kernel, by decide +kernel⟩
abbrev s_law_both : Stmt := top 21
abbrev N_law_both : List Str := ["_law_pairs", "_law_many", "_law_one", "_law_other", "_law_low", "_law_high"]
theorem sc_law_both : FnScope N_law_both ["_law_pairs", "_law_many", "_law_one", "_law_other"] (defScope s_law_both) := ⟨rfl, rfl, rfl, by decide +kernel, rfl, by decide +kernel, by decide +kernel⟩
abbrev s_law_lights : Stmt := top 22
abbrev N_law_lights : List Str := ["_law_pairs", "_law_many", "_law_lighting", "_law_lights_here", "_law_k", "_law_one", "_law_other", "_law_left"]
theorem sc_law_lights : FnScope N_law_lights ["_law_pairs", "_law_many", "_law_lighting"] (defScope s_law_lights) := ⟨rfl, rfl, rfl, by decide +kernel, rfl, by decide +kernel, by decide +kernel⟩
abbrev s_law_is_column : Stmt := top 23
abbrev N_law_is_column : List Str := ["_law_found", "_law_many"]
theorem sc_law_is_column : FnScope N_law_is_column ["_law_found", "_law_many"] (defScope s_law_is_column) := ⟨rfl, rfl, rfl, by decide +kernel, rfl, by decide +kernel, by decide +kernel⟩
abbrev s_law_knots : Stmt := top 24
abbrev N_law_knots : List Str := ["_law_found", "_law_many", "_law_count", "_law_one"]
theorem sc_law_knots : FnScope N_law_knots ["_law_found", "_law_many", "_law_count"] (defScope s_law_knots) := ⟨rfl, rfl, rfl, by decide +kernel, rfl, by decide +kernel, by decide +kernel⟩
abbrev s_law_refused : Stmt := top 25
abbrev N_law_refused : List Str := ["_law_fold", "_law_tie"]
theorem sc_law_refused : FnScope N_law_refused ["_law_fold", "_law_tie"] (defScope s_law_refused) := ⟨rfl, rfl, rfl, by decide +kernel, rfl, by decide +kernel, by decide +kernel⟩
abbrev s_law_chain : Stmt := top 26
abbrev N_law_chain : List Str := ["_law_fold", "_law_pairs", "_law_many", "_law_long", "_law_prev", "_law_j", "_law_other", "_law_one"]
theorem sc_law_chain : FnScope N_law_chain ["_law_fold", "_law_pairs", "_law_many", "_law_long"] (defScope s_law_chain) := ⟨rfl, rfl, rfl, by decide +kernel, rfl, by decide +kernel, by decide +kernel⟩
abbrev s_law_joined : Stmt := top 27
abbrev N_law_joined : List Str := ["_law_fold", "_law_pairs", "_law_many", "_law_cells", "_law_free", "_law_cell", "_law_size", "_law_one", "_law_other"]
theorem sc_law_joined : FnScope N_law_joined ["_law_fold", "_law_pairs", "_law_many", "_law_cells", "_law_free"] (defScope s_law_joined) := ⟨rfl, rfl, rfl, by decide +kernel, rfl, by decide +kernel, by decide +kernel⟩
abbrev s_law_behind : Stmt := top 28
abbrev N_law_behind : List Str := ["_law_fold", "_law_pairs", "_law_many", "_law_spots_here", "_law_size", "_law_tie", "_law_found", "_law_spot"]
theorem sc_law_behind : FnScope N_law_behind ["_law_fold", "_law_pairs", "_law_many", "_law_spots_here"] (defScope s_law_behind) := ⟨rfl, rfl, rfl, by decide +kernel, rfl, by decide +kernel, by decide +kernel⟩
abbrev s_law_spots : Stmt := top 29
abbrev N_law_spots : List Str := ["_law_script", "_law_many", "_law_size", "_law_start", "_law_step"]
theorem sc_law_spots : FnScope N_law_spots ["_law_script", "_law_many"] (defScope s_law_spots) := ⟨rfl, rfl, rfl, by decide +kernel, rfl, by decide +kernel, by decide +kernel⟩
abbrev s_law : Stmt := top 30
abbrev N_law : List Str := ["_law_script", "_law_many", "_law_fold", "_law_pairs", "_law_count", "_law_picked", "_law_told", "_law_ties", "_law_knot", "_law_spot", "_law_lights_here", "_law_k", "_law_off", "_law_kept"]
theorem sc_law : FnScope N_law ["_law_script"] (defScope s_law) := ⟨rfl, rfl, rfl, by decide +kernel, rfl, by decide +kernel, by decide +kernel⟩
structure Adr where
  f_full_column : Addr
  d_full_column : FuncData
  f_input_columns : Addr
  d_input_columns : FuncData
  f_lit_knots : Addr
  d_lit_knots : FuncData
  f_lit_pair : Addr
  d_lit_pair : FuncData
  f_lit_tie : Addr
  d_lit_tie : FuncData
  f_need_tie : Addr
  d_need_tie : FuncData
  f_column : Addr
  d_column : FuncData
  f_knot_columns : Addr
  d_knot_columns : FuncData
  f_turned : Addr
  d_turned : FuncData
  f_Fold___init__ : Addr
  d_Fold___init__ : FuncData
  f_Fold_total : Addr
  d_Fold_total : FuncData
  f_Fold_has_tie : Addr
  d_Fold_has_tie : FuncData
  f_Fold_pair : Addr
  d_Fold_pair : FuncData
  f_Fold_both : Addr
  d_Fold_both : FuncData
  f_Fold_and_knot : Addr
  d_Fold_and_knot : FuncData
  f_law_cell_at : Addr
  d_law_cell_at : FuncData
  f_law_both : Addr
  d_law_both : FuncData
  f_law_lights : Addr
  d_law_lights : FuncData
  f_law_is_column : Addr
  d_law_is_column : FuncData
  f_law_knots : Addr
  d_law_knots : FuncData
  f_law_refused : Addr
  d_law_refused : FuncData
  f_law_chain : Addr
  d_law_chain : FuncData
  f_law_joined : Addr
  d_law_joined : FuncData
  f_law_behind : Addr
  d_law_behind : FuncData
  f_law_spots : Addr
  d_law_spots : FuncData
  f_law : Addr
  d_law : FuncData
  c_Fold : Addr
  c_NoKnot : Addr
  c_NoTie : Addr
def gv_ALWAYS (_ : Adr) : V := .int 1
def gv_NEVER (_ : Adr) : V := .int 0
structure Txt (K : PySem.W.Frag) (mg : Str → Option Value) (a : Adr) : Prop where
  mg_full_column : mg "full_column" = some (.ref a.f_full_column)
  fn_full_column : Fun K "full_column" "full_column" s_full_column a.f_full_column a.d_full_column
  bi_full_column : Binds K a.d_full_column ["many"] []
  mg_input_columns : mg "input_columns" = some (.ref a.f_input_columns)
  fn_input_columns : Fun K "input_columns" "input_columns" s_input_columns a.f_input_columns a.d_input_columns
  bi_input_columns : Binds K a.d_input_columns ["many"] []
  mg_lit_knots : mg "lit_knots" = some (.ref a.f_lit_knots)
  fn_lit_knots : Fun K "lit_knots" "lit_knots" s_lit_knots a.f_lit_knots a.d_lit_knots
  bi_lit_knots : Binds K a.d_lit_knots ["fold", "top", "inputs", "every"] []
  mg_lit_pair : mg "lit_pair" = some (.ref a.f_lit_pair)
  fn_lit_pair : Fun K "lit_pair" "lit_pair" s_lit_pair a.f_lit_pair a.d_lit_pair
  bi_lit_pair : Binds K a.d_lit_pair ["lit", "pair", "every"] []
  mg_lit_tie : mg "lit_tie" = some (.ref a.f_lit_tie)
  fn_lit_tie : Fun K "lit_tie" "lit_tie" s_lit_tie a.f_lit_tie a.d_lit_tie
  bi_lit_tie : Binds K a.d_lit_tie ["lit", "tie", "every"] []
  mg_need_tie : mg "need_tie" = some (.ref a.f_need_tie)
  fn_need_tie : Fun K "need_tie" "need_tie" s_need_tie a.f_need_tie a.d_need_tie
  bi_need_tie : Binds K a.d_need_tie ["fold", "tie"] []
  mg_column : mg "column" = some (.ref a.f_column)
  fn_column : Fun K "column" "column" s_column a.f_column a.d_column
  bi_column : Binds K a.d_column ["fold", "tie"] []
  mg_knot_columns : mg "knot_columns" = some (.ref a.f_knot_columns)
  fn_knot_columns : Fun K "knot_columns" "knot_columns" s_knot_columns a.f_knot_columns a.d_knot_columns
  bi_knot_columns : Binds K a.d_knot_columns ["fold"] []
  mg_turned : mg "turned" = some (.ref a.f_turned)
  fn_turned : Fun K "turned" "turned" s_turned a.f_turned a.d_turned
  bi_turned : Binds K a.d_turned ["tie"] []
  fn_Fold___init__ : Fun K "__init__" "Fold.__init__" s_Fold___init__ a.f_Fold___init__ a.d_Fold___init__
  bi_Fold___init__ : Binds K a.d_Fold___init__ ["self", "many"] []
  fn_Fold_total : Fun K "total" "Fold.total" s_Fold_total a.f_Fold_total a.d_Fold_total
  bi_Fold_total : Binds K a.d_Fold_total ["self"] []
  me_Fold_total : Meth K a.c_Fold "total" a.f_Fold_total
  fn_Fold_has_tie : Fun K "has_tie" "Fold.has_tie" s_Fold_has_tie a.f_Fold_has_tie a.d_Fold_has_tie
  bi_Fold_has_tie : Binds K a.d_Fold_has_tie ["self", "tie"] []
  me_Fold_has_tie : Meth K a.c_Fold "has_tie" a.f_Fold_has_tie
  fn_Fold_pair : Fun K "pair" "Fold.pair" s_Fold_pair a.f_Fold_pair a.d_Fold_pair
  bi_Fold_pair : Binds K a.d_Fold_pair ["self", "knot"] []
  me_Fold_pair : Meth K a.c_Fold "pair" a.f_Fold_pair
  fn_Fold_both : Fun K "both" "Fold.both" s_Fold_both a.f_Fold_both a.d_Fold_both
  bi_Fold_both : Binds K a.d_Fold_both ["self", "one", "other"] []
  me_Fold_both : Meth K a.c_Fold "both" a.f_Fold_both
  fn_Fold_and_knot : Fun K "and_knot" "Fold.and_knot" s_Fold_and_knot a.f_Fold_and_knot a.d_Fold_and_knot
  bi_Fold_and_knot : Binds K a.d_Fold_and_knot ["self", "ties"] []
  me_Fold_and_knot : Meth K a.c_Fold "and_knot" a.f_Fold_and_knot
  mg_law_cell_at : mg "_law_cell_at" = some (.ref a.f_law_cell_at)
  fn_law_cell_at : Fun K "_law_cell_at" "_law_cell_at" s_law_cell_at a.f_law_cell_at a.d_law_cell_at
  bi_law_cell_at : Binds K a.d_law_cell_at ["_law_script", "_law_k"] []
  mg_law_both : mg "_law_both" = some (.ref a.f_law_both)
  fn_law_both : Fun K "_law_both" "_law_both" s_law_both a.f_law_both a.d_law_both
  bi_law_both : Binds K a.d_law_both ["_law_pairs", "_law_many", "_law_one", "_law_other"] []
  mg_law_lights : mg "_law_lights" = some (.ref a.f_law_lights)
  fn_law_lights : Fun K "_law_lights" "_law_lights" s_law_lights a.f_law_lights a.d_law_lights
  bi_law_lights : Binds K a.d_law_lights ["_law_pairs", "_law_many", "_law_lighting"] []
  mg_law_is_column : mg "_law_is_column" = some (.ref a.f_law_is_column)
  fn_law_is_column : Fun K "_law_is_column" "_law_is_column" s_law_is_column a.f_law_is_column a.d_law_is_column
  bi_law_is_column : Binds K a.d_law_is_column ["_law_found", "_law_many"] []
  mg_law_knots : mg "_law_knots" = some (.ref a.f_law_knots)
  fn_law_knots : Fun K "_law_knots" "_law_knots" s_law_knots a.f_law_knots a.d_law_knots
  bi_law_knots : Binds K a.d_law_knots ["_law_found", "_law_many", "_law_count"] []
  mg_law_refused : mg "_law_refused" = some (.ref a.f_law_refused)
  fn_law_refused : Fun K "_law_refused" "_law_refused" s_law_refused a.f_law_refused a.d_law_refused
  bi_law_refused : Binds K a.d_law_refused ["_law_fold", "_law_tie"] []
  mg_law_chain : mg "_law_chain" = some (.ref a.f_law_chain)
  fn_law_chain : Fun K "_law_chain" "_law_chain" s_law_chain a.f_law_chain a.d_law_chain
  bi_law_chain : Binds K a.d_law_chain ["_law_fold", "_law_pairs", "_law_many", "_law_long"] []
  mg_law_joined : mg "_law_joined" = some (.ref a.f_law_joined)
  fn_law_joined : Fun K "_law_joined" "_law_joined" s_law_joined a.f_law_joined a.d_law_joined
  bi_law_joined : Binds K a.d_law_joined ["_law_fold", "_law_pairs", "_law_many", "_law_cells", "_law_free"] []
  mg_law_behind : mg "_law_behind" = some (.ref a.f_law_behind)
  fn_law_behind : Fun K "_law_behind" "_law_behind" s_law_behind a.f_law_behind a.d_law_behind
  bi_law_behind : Binds K a.d_law_behind ["_law_fold", "_law_pairs", "_law_many", "_law_spots_here"] []
  mg_law_spots : mg "_law_spots" = some (.ref a.f_law_spots)
  fn_law_spots : Fun K "_law_spots" "_law_spots" s_law_spots a.f_law_spots a.d_law_spots
  bi_law_spots : Binds K a.d_law_spots ["_law_script", "_law_many"] []
  mg_law : mg "law" = some (.ref a.f_law)
  fn_law : Fun K "law" "law" s_law a.f_law a.d_law
  bi_law : Binds K a.d_law ["_law_script"] []
  mg_Fold : mg "Fold" = some (.ref a.c_Fold)
  cl_Fold : Cls K a.c_Fold
  mk_Fold : Mk K a.c_Fold a.f_Fold___init__
  na_Fold_many : NoAttr K a.c_Fold "many"
  na_Fold_pairs : NoAttr K a.c_Fold "pairs"
  na_Fold_knots : NoAttr K a.c_Fold "knots"
  mg_NoKnot : mg "NoKnot" = some (.ref a.c_NoKnot)
  mg_NoTie : mg "NoTie" = some (.ref a.c_NoTie)
  xi_NoKnot : PySem.W.excIn K a.c_NoKnot [.type "ValueError", .type "Exception", .type "BaseException", .type "object"] "ValueError.__new__" = true
  xq_NoKnot : exq K a.c_NoKnot = true
  kv_NoKnot : PySem.W.kitOne K (.ref a.c_NoKnot) (.type "ValueError") = some true
  xm_NoKnot_NoTie : (L2.mroIn K a.c_NoKnot).contains (.ref a.c_NoTie) = false
  xi_NoTie : PySem.W.excIn K a.c_NoTie [.type "ValueError", .type "Exception", .type "BaseException", .type "object"] "ValueError.__new__" = true
  xq_NoTie : exq K a.c_NoTie = true
  kv_NoTie : PySem.W.kitOne K (.ref a.c_NoTie) (.type "ValueError") = some true
  xm_NoTie_NoTie : (L2.mroIn K a.c_NoTie).contains (.ref a.c_NoTie) = true
  xk_NoKnot : PySem.W.ktsIn K a.c_NoKnot "BaseException" = true
  xk_NoTie : PySem.W.ktsIn K a.c_NoTie "BaseException" = true
  gx_ALWAYS : ∃ u, mg "ALWAYS" = some u ∧ RelV (gv_ALWAYS a) u
  gx_NEVER : ∃ u, mg "NEVER" = some u ∧ RelV (gv_NEVER a) u
  no_bool : mg "bool" = none
  no_int : mg "int" = none
  no_isinstance : mg "isinstance" = none
  no_len : mg "len" = none
  no_list : mg "list" = none
  no_max : mg "max" = none
  no_min : mg "min" = none
  no_range : mg "range" = none
seal PE PT PS PSs PA PG PGs PI PO PW PTs PPs PK PC PSet PIp OpR UnR CallR IxR SlR MtR MtM tMid
local macro_rules | `(tactic| walk_at "go") => `(tactic| try simp only [tSeq, tAsg, gName, gTup, gCons, gNil, tOp, tC, cVar, cI2, cI2c, cAdd, cMul, cEq, cNe, cBool, cTst, cTru, cChain, tRet, tDrop, tIfS, tIf, tCall, tCons, tNil, tNext, tCB, cLen, cIsinst, cMin, cMax, tNot, tOr, tAnd, tUn, cNeg, tFor_list, tFor_rng1, tFor_rng2, tComp_list, tComp_rng1, cRef, cInt1, cInt2, cIx, tSl, cSlU, cPart, tNoPart, tLst_n, tTup_n, cList_n, tDGet, tDNotIn, sDPut, tBM, tBM0, tMake, tMeth, tFld, sFld, tyV, tRaise, tTry, tHd, tNoH, tCallX, tUnf, tFor_dT, tComp_dT, cLenT, tDNewT_n, List.append_nil, List.cons_append, List.nil_append, List.getElem?_cons_zero, List.getElem?_cons_succ, List.set_cons_zero, List.set_cons_succ, decide_eq_true_eq, if_true, if_false, Bool.false_eq_true, eq_self, decide_true, decide_false, Bool.not_true, Bool.not_false, Bool.not_eq_true', decide_eq_false_iff_not, Bool.and_true, Bool.true_and])
local macro_rules | `(tactic| walk_at "sd") => `(tactic| first | exact And.intro (by decide) (by decide) | decide | omega | exact Or.inl (And.intro (by omega) (by omega)) | exact Or.inr (And.intro (by omega) (by omega)) | exact And.intro (by omega) (And.intro (by omega) (by decide)) | exact And.intro (by omega) (by omega))
local macro_rules | `(tactic| walk_at "gs") => `(tactic| (walk_at "go"; repeat (first | (refine And.intro (by walk_at "sd") ?_; walk_at "go"))))
/-! the program: folds -/
def sp_turned (_ : PySem.W.Frag) : Sp := fun vs H Q _ => ∃ t : Int, vs = [.int t] ∧ 0 ≤ t ∧ Q (.int (MF.tn t)) H
def rd_turned (K : PySem.W.Frag) : TS := (tRet (tOp (cI2 fun i j => .int (Builtin.bitXor i j)) (cVar 0) (tC (.int 1))))
theorem tm_turned {P : Program} {w : World} {K : PySem.W.Frag} {mg : Str → Option Value} {base : Heap} {a : Adr} (T : Txt K mg a) {cdv : Value} {A : Around} {outer : List Env} {s : Shared} {H : Hp} {E : XK} (hr : Room 0 (A.deeper (envOfC "turned" (defScope s_turned) s.heap.objs.size a.f_turned cdv))) :
    PSs (cxOf CX0 P w K mg base N_turned "turned" (defScope s_turned) a.f_turned cdv A outer s H E).nox (defBody s_turned) (rd_turned K) :=
  (pss_one (ps_ret (pe_op o_xor (cv 0) pe_int)))
theorem ok_turned {P : Program} {w : World} {K : PySem.W.Frag} {mg : Str → Option Value} {base : Heap} {a : Adr} (T : Txt K mg a) : FnOk P w K mg base CX0 1 a.f_turned a.d_turned ["tie"] (sp_turned K) := by
  refine T.fn_turned.ok sc_turned (fun vs H Q E h => ?_) (fun cdv A outer s H vs Q E hr h => ⟨_, tm_turned T hr, ?_⟩)
  · obtain ⟨t, rfl, _⟩ := h; rfl
  · obtain ⟨t, rfl, h0, q⟩ := h
    show rd_turned K _ [some (.int t)] H
    unfold rd_turned
    walk_at "go"
    rw [xor_one h0]
    exact q
def sp_Fold___init__ (a : Adr) (K : PySem.W.Frag) : Sp := fun vs H Q _ => ∃ (x dx : Addr) (m : Int), vs = [.ref x, .int m] ∧ H x = some (.ins a.c_Fold dx []) ∧
  ∀ H' pl kl, (∀ b o, b ≠ x → H b = some o → H' b = some o) → H pl = none → H kl = none → FoldAt a.c_Fold H' x m [] dx pl kl → Q .non H'
def rd_Fold___init__ (K : PySem.W.Frag) : TS := (tSeq (sFld K (cVar 0) (cVar 1) "many")
    (tSeq (sFld K (cVar 0) (tLst tNil) "pairs")
    (sFld K (cVar 0) tDNewT "knots")))
theorem tm_Fold___init__ {P : Program} {w : World} {K : PySem.W.Frag} {mg : Str → Option Value} {base : Heap} {a : Adr} (T : Txt K mg a) {cdv : Value} {A : Around} {outer : List Env} {s : Shared} {H : Hp} {E : XK} (hr : Room 0 (A.deeper (envOfC "Fold.__init__" (defScope s_Fold___init__) s.heap.objs.size a.f_Fold___init__ cdv))) :
    PSs (cxOf CX0 P w K mg base N_Fold___init__ "Fold.__init__" (defScope s_Fold___init__) a.f_Fold___init__ cdv A outer s H E).nox (defBody s_Fold___init__) (rd_Fold___init__ K) :=
  (pss_cons (ps_fld (cv 0) (cv 1) rfl)
      (pss_cons (ps_fld (cv 0) (pe_lst pa_nil) rfl)
      (pss_one (ps_fld (cv 0) pe_dnewT rfl))))
theorem ok_Fold___init__ {P : Program} {w : World} {K : PySem.W.Frag} {mg : Str → Option Value} {base : Heap} {a : Adr} (T : Txt K mg a) : FnOk P w K mg base CX0 1 a.f_Fold___init__ a.d_Fold___init__ ["self", "many"] (sp_Fold___init__ a K) := by
  refine T.fn_Fold___init__.ok sc_Fold___init__ (fun vs H Q E h => ?_) (fun cdv A outer s H vs Q E hr h => ⟨_, tm_Fold___init__ T hr, ?_⟩)
  · obtain ⟨x, dx, m, rfl, _⟩ := h; rfl
  · obtain ⟨x, dx, m, rfl, hx, q⟩ := h
    show rd_Fold___init__ K _ [some (.ref x), some (.int m)] H
    unfold rd_Fold___init__
    walk_at "go"
    refine ⟨x, a.c_Fold, dx, [], rfl, hx, T.cl_Fold, T.na_Fold_many, by decide, ?_⟩
    walk_at "go"
    refine ⟨by decide, fun pl H2 n2 => ?_⟩
    have x2 := n2.same _ _ (upd_same (H := H) (a := x) (o := .ins a.c_Fold dx (putF "many" (.int m) [])))
    refine ⟨x, a.c_Fold, dx, _, rfl, x2, T.cl_Fold, T.na_Fold_pairs, by have := length_putF "many" (.int m) []; simp only [List.length_nil] at this; omega, ?_⟩
    walk_at "go"
    intro kl H4 n4
    have x4 := n4.same _ _ (upd_same (H := H2) (a := x) (o := .ins a.c_Fold dx (putF "pairs" (.ref pl) (putF "many" (.int m) []))))
    refine ⟨x, a.c_Fold, dx, _, rfl, x4, T.cl_Fold, T.na_Fold_knots, by have h7 := length_putF "many" (.int m) []; have h8 := length_putF "pairs" (.ref pl) (putF "many" (.int m) []); simp only [List.length_nil] at h7; omega, ?_⟩
    have hpx : pl ≠ x := fun e => by have := n2.was; rw [e, upd_same] at this; cases this
    have hkx : kl ≠ x := fun e => by have := n4.was; rw [e, upd_same] at this; cases this
    have hp4 : H4 pl = some (.lst []) := n4.same _ _ (by rw [upd_ne hpx]; exact n2.at_)
    have hk4 : H4 kl = some (.dT []) := n4.at_
    have st : ∀ b o, b ≠ x → H b = some o → H4 b = some o := fun b o nb e => n4.same _ _ (by rw [upd_ne nb]; exact n2.same _ _ (by rw [upd_ne nb]; exact e))
    have nop : H pl = none := by
      have := n2.was
      rw [upd_ne hpx] at this
      exact this
    have nok : H kl = none := by
      have h1 := n4.was
      rw [upd_ne hkx] at h1
      have h2 := n2.same.nil h1
      rw [upd_ne hkx] at h2
      exact h2
    refine q _ pl kl (fun b o nb e => by rw [upd_ne nb]; exact st b o nb e) nop nok ⟨?_, ?_, ?_, fun e he => nomatch he⟩
    · rw [upd_same]
      have e1 : putF "knots" (.ref kl) (putF "pairs" (.ref pl) (putF "many" (.int m) [])) = ([("many", V.int m), ("pairs", V.ref pl), ("knots", V.ref kl)] : List (Str × V)) := by
        have z1 : ¬ ("many" : Str) = "pairs" := by decide +kernel
        have z2 : ¬ ("many" : Str) = "knots" := by decide +kernel
        have z3 : ¬ ("pairs" : Str) = "knots" := by decide +kernel
        simp [putF, z1, z2, z3]
      rw [e1]
    · rw [upd_ne hpx]; exact hp4
    · rw [upd_ne hkx]; exact hk4
def sp_Fold_total (a : Adr) (_ : PySem.W.Frag) : Sp := fun vs H Q _ => ∃ (f dx pl kl : Addr) (m : Int) (es : List En), vs = [.ref f] ∧ FoldAt a.c_Fold H f m es dx pl kl ∧ Q (.int (1 + m + es.length)) H
def rd_Fold_total (K : PySem.W.Frag) : TS := (tRet (tOp cAdd (tOp cAdd (tC (.int 1)) (tFld K (cVar 0) "many")) (tCB (cLen K) (tCons (tFld K (cVar 0) "pairs") tNil))))
theorem tm_Fold_total {P : Program} {w : World} {K : PySem.W.Frag} {mg : Str → Option Value} {base : Heap} {a : Adr} (T : Txt K mg a) {cdv : Value} {A : Around} {outer : List Env} {s : Shared} {H : Hp} {E : XK} (hr : Room 0 (A.deeper (envOfC "Fold.total" (defScope s_Fold_total) s.heap.objs.size a.f_Fold_total cdv))) :
    PSs (cxOf CX0 P w K mg base N_Fold_total "Fold.total" (defScope s_Fold_total) a.f_Fold_total cdv A outer s H E).nox (defBody s_Fold_total) (rd_Fold_total K) :=
  (pss_one (ps_ret (pe_op o_add (pe_op o_add pe_int (pe_fld (cv 0) rfl)) (pe_callB c_len (by rfl) T.no_len PySem.boot_len (pa_cons (pe_fld (cv 0) rfl) pa_nil)))))
theorem ok_Fold_total {P : Program} {w : World} {K : PySem.W.Frag} {mg : Str → Option Value} {base : Heap} {a : Adr} (T : Txt K mg a) : FnOk P w K mg base CX0 1 a.f_Fold_total a.d_Fold_total ["self"] (sp_Fold_total a K) := by
  refine T.fn_Fold_total.ok sc_Fold_total (fun vs H Q E h => ?_) (fun cdv A outer s H vs Q E hr h => ⟨_, tm_Fold_total T hr, ?_⟩)
  · obtain ⟨f, dx, pl, kl, m, es, rfl, _⟩ := h; rfl
  · obtain ⟨f, dx, pl, kl, m, es, rfl, hf, q⟩ := h
    show rd_Fold_total K _ [some (.ref f)] H
    unfold rd_Fold_total
    walk_at "go"
    refine ⟨f, a.c_Fold, dx, _, _, rfl, hf.ins, T.cl_Fold, T.na_Fold_many, rfl, ?_⟩
    walk_at "go"
    refine ⟨f, a.c_Fold, dx, _, _, rfl, hf.ins, T.cl_Fold, T.na_Fold_pairs, rfl, ?_⟩
    walk_at "go"
    refine .inl ⟨_, .inl (.of hf.prs.lst), ?_⟩
    rw [List.length_map]
    exact q
def sp_Fold_has_tie (a : Adr) (_ : PySem.W.Frag) : Sp := fun vs H Q _ => ∃ (f dx pl kl : Addr) (m t : Int) (es : List En), vs = [.ref f, .int t] ∧ FoldAt a.c_Fold H f m es dx pl kl ∧ Q (.bl (decide (0 ≤ t ∧ t < 2 * (1 + m + es.length)))) H
def rd_Fold_has_tie (a : Adr) (K : PySem.W.Frag) : TS := (tRet (cChain (cI2 fun i j => .bl (decide (i ≤ j))) (cI2 fun i j => .bl (decide (i < j))) (tC (.int 0)) (cVar 1) (tOp cMul (tC (.int 2)) (tMeth a.c_Fold "total" (sp_Fold_total a K) [] E0 (cVar 0) tNil))))
theorem tm_Fold_has_tie {P : Program} {w : World} {K : PySem.W.Frag} {mg : Str → Option Value} {base : Heap} {a : Adr} (T : Txt K mg a) {cdv : Value} {A : Around} {outer : List Env} {s : Shared} {H : Hp} {E : XK} (hr : Room 1 (A.deeper (envOfC "Fold.has_tie" (defScope s_Fold_has_tie) s.heap.objs.size a.f_Fold_has_tie cdv))) :
    PSs (cxOf CX0 P w K mg base N_Fold_has_tie "Fold.has_tie" (defScope s_Fold_has_tie) a.f_Fold_has_tie cdv A outer s H E).nox (defBody s_Fold_has_tie) (rd_Fold_has_tie a K) :=
  (pss_one (ps_ret (e_chain o_le o_lt pe_int (cv 1) (pe_op o_mul pe_int (pe_meth0 (cv 0) T.cl_Fold T.me_Fold_total (ok_Fold_total T) (hr.mono (by decide)) T.bi_Fold_total .nil pass0)))))
theorem ok_Fold_has_tie {P : Program} {w : World} {K : PySem.W.Frag} {mg : Str → Option Value} {base : Heap} {a : Adr} (T : Txt K mg a) : FnOk P w K mg base CX0 2 a.f_Fold_has_tie a.d_Fold_has_tie ["self", "tie"] (sp_Fold_has_tie a K) := by
  refine T.fn_Fold_has_tie.ok sc_Fold_has_tie (fun vs H Q E h => ?_) (fun cdv A outer s H vs Q E hr h => ⟨_, tm_Fold_has_tie T hr, ?_⟩)
  · obtain ⟨f, dx, pl, kl, m, t, es, rfl, _⟩ := h; rfl
  · obtain ⟨f, dx, pl, kl, m, t, es, rfl, hf, q⟩ := h
    show rd_Fold_has_tie a K _ [some (.ref f), some (.int t)] H
    unfold rd_Fold_has_tie
    walk_at "go"
    by_cases h0 : 0 ≤ t
    · rw [if_pos h0]
      refine ⟨f, dx, _, rfl, hf.ins, rfl, f, dx, pl, kl, m, es, rfl, hf, ?_⟩
      walk_at "go"
      refine ⟨.inl ⟨by decide, by decide⟩, ?_⟩
      have e : decide (t < 2 * (1 + m + (es.length : Int))) = decide (0 ≤ t ∧ t < 2 * (1 + m + es.length)) := by rw [decide_eq_decide]; omega
      rw [e]
      exact q
    · rw [if_neg h0]
      have e : false = decide (0 ≤ t ∧ t < 2 * (1 + m + (es.length : Int))) := by rw [decide_eq_false (by omega)]
      rw [e]
      exact q
def sp_Fold_pair (a : Adr) (_ : PySem.W.Frag) : Sp := fun vs H Q E => ∃ (f dx pl kl : Addr) (m k : Int) (es : List En), vs = [.ref f, .int k] ∧ FoldAt a.c_Fold H f m es dx pl kl ∧
  (0 ≤ k ∧ k < 1 + m + es.length → (k ≤ m → Q .non H) ∧ (∀ e, m < k → es[(k - m - 1).toNat]? = some e → Q (.ref e.1) H)) ∧ (¬ (0 ≤ k ∧ k < 1 + m + es.length) → ∀ e, H e = none → E (.ref e) (some a.c_NoKnot) H)
def rd_Fold_pair (a : Adr) (K : PySem.W.Frag) (E : XK) : TS := (tSeq (tIfS (tOr (cTst (tOp (cI2 fun i j => .bl (decide (i < j))) (cVar 1) (tC (.int 0)))) (cTst (tOp (cI2 fun i j => .bl (decide (j ≤ i))) (cVar 1) (tMeth a.c_Fold "total" (sp_Fold_total a K) [] E0 (cVar 0) tNil)))) (tRaise a.c_NoKnot (tCons (tC (.str "no knot of this fold")) tNil) E) tNext)
    (tSeq (tIfS (cTst (tOp (cI2 fun i j => .bl (decide (i ≤ j))) (cVar 1) (tFld K (cVar 0) "many"))) (tRet (tC .non)) tNext)
    (tRet (tOp (cIx K) (tFld K (cVar 0) "pairs") (tOp (cI2 fun i j => .int (i - j)) (tOp (cI2 fun i j => .int (i - j)) (cVar 1) (tFld K (cVar 0) "many")) (tC (.int 1)))))))
theorem tm_Fold_pair {P : Program} {w : World} {K : PySem.W.Frag} {mg : Str → Option Value} {base : Heap} {a : Adr} (T : Txt K mg a) {cdv : Value} {A : Around} {outer : List Env} {s : Shared} {H : Hp} {E : XK} (hr : Room 1 (A.deeper (envOfC "Fold.pair" (defScope s_Fold_pair) s.heap.objs.size a.f_Fold_pair cdv))) :
    PSs (cxOf (CX1 P w) P w K mg base N_Fold_pair "Fold.pair" (defScope s_Fold_pair) a.f_Fold_pair cdv A outer s H E) (defBody s_Fold_pair) (rd_Fold_pair a K E) :=
  (pss_cons (ps_if (PW.pt (pw_or (t_cmp o_lt (cv 1) pe_int (nomark _)) (pw_or1 (t_cmp o_ge (cv 1) (pe_meth0 (cv 0) T.cl_Fold T.me_Fold_total (ok_Fold_total T) (hr.mono (by decide)) T.bi_Fold_total .nil pass0) (nomark _))))) (pss_one (ps_raise PySem.F.excBase_ValueError T.xi_NoKnot (by decide) rfl T.mg_NoKnot rfl xok_fn (pa_cons pe_str pa_nil))) pss_nil)
      (pss_cons (ps_if (t_cmp o_le (cv 1) (pe_fld (cv 0) rfl) (nomark _)) (pss_one (ps_ret pe_non)) pss_nil)
      (pss_one (ps_ret (pe_ix i_seq (pe_fld (cv 0) rfl) (pe_op o_sub (pe_op o_sub (cv 1) (pe_fld (cv 0) rfl)) pe_int) (fun _ _ => rfl))))))
theorem ok_Fold_pair {P : Program} {w : World} {K : PySem.W.Frag} {mg : Str → Option Value} {base : Heap} {a : Adr} (T : Txt K mg a) : FnOk P w K mg base (CX1 P w) 2 a.f_Fold_pair a.d_Fold_pair ["self", "knot"] (sp_Fold_pair a K) := by
  refine T.fn_Fold_pair.okX sc_Fold_pair (fun vs H Q E h => ?_) (fun cdv A outer s H vs Q E hr h => ⟨_, tm_Fold_pair T hr, ?_⟩)
  · obtain ⟨f, dx, pl, kl, m, k, es, rfl, _⟩ := h; rfl
  · obtain ⟨f, dx, pl, kl, m, k, es, rfl, hf, qi, qo⟩ := h
    show rd_Fold_pair a K E _ [some (.ref f), some (.int k)] H
    unfold rd_Fold_pair
    walk_at "go"
    by_cases h0 : k < 0
    · rw [if_pos h0]
      exact ⟨by decide, qo (by omega)⟩
    rw [if_neg h0]
    refine ⟨f, dx, _, rfl, hf.ins, rfl, f, dx, pl, kl, m, es, rfl, hf, ?_⟩
    walk_at "go"
    by_cases h1 : 1 + m + (es.length : Int) ≤ k
    · rw [if_pos h1]
      exact ⟨by decide, qo (by omega)⟩
    rw [if_neg h1]
    obtain ⟨q1, q2⟩ := qi (by omega)
    refine ⟨f, a.c_Fold, dx, _, _, rfl, hf.ins, T.cl_Fold, T.na_Fold_many, rfl, ?_⟩
    walk_at "go"
    by_cases hk : k ≤ m
    · rw [if_pos hk]
      exact q1 hk
    · rw [if_neg hk]
      refine ⟨f, a.c_Fold, dx, _, _, rfl, hf.ins, T.cl_Fold, T.na_Fold_pairs, rfl, f, a.c_Fold, dx, _, _, rfl, hf.ins, T.cl_Fold, T.na_Fold_many, rfl, ?_⟩
      walk_at "go"
      have hlt : (k - m - 1).toNat < es.length := by omega
      refine ⟨_, _, .inl (.of hf.prs.lst), atI_ok .non (by omega) (by rw [List.length_map]; omega), ?_⟩
      rw [getD_refs es _ hlt]
      exact q2 _ (by omega) (List.getElem?_eq_getElem hlt)
def sp_Fold_and_knot (a : Adr) (_ : PySem.W.Frag) : Sp := fun vs H Q _ => ∃ (f dx pl kl tp : Addr) (m : Int) (p : MF.Pr) (es : List En), vs = [.ref f, .ref tp] ∧ FoldAt a.c_Fold H f m es dx pl kl ∧ H tp = some (.tup [.int p.1, .int p.2]) ∧ es.length ≤ 5000 ∧
  ∀ H' es', Un2 pl kl H H' → FoldAt a.c_Fold H' f m es' dx pl kl → psOf es' = MF.kp m (psOf es) p → Q (.int (MF.kn m (psOf es) p)) H'
def rd_Fold_and_knot (a : Adr) (K : PySem.W.Frag) : TS := (tMid (tIfS (cTst (tDNotIn (cVar 1) (tFld K (cVar 0) "knots"))) (tSeq (sDPut (tFld K (cVar 0) "knots") (cVar 1) (tMeth a.c_Fold "total" (sp_Fold_total a K) [] E0 (cVar 0) tNil))
    (tDrop (tBM K "list" rAppend (tFld K (cVar 0) "pairs") (tCons (cVar 1) tNil)))) tNext)
    (tRet (tDGet (tFld K (cVar 0) "knots") (cVar 1))))
theorem tm_Fold_and_knot {P : Program} {w : World} {K : PySem.W.Frag} {mg : Str → Option Value} {base : Heap} {a : Adr} (T : Txt K mg a) {cdv : Value} {A : Around} {outer : List Env} {s : Shared} {H : Hp} {E : XK} (hr : Room 1 (A.deeper (envOfC "Fold.and_knot" (defScope s_Fold_and_knot) s.heap.objs.size a.f_Fold_and_knot cdv))) :
    PSs (cxOf CX0 P w K mg base N_Fold_and_knot "Fold.and_knot" (defScope s_Fold_and_knot) a.f_Fold_and_knot cdv A outer s H E).nox (defBody s_Fold_and_knot) (rd_Fold_and_knot a K) :=
  (pss_mid (ps_if (t_pc (pc_dnotin (hu_of hr) (cv 1) (pe_fld (cv 0) rfl))) (pss_cons (ps_dput (hu_of hr) (pe_fld (cv 0) rfl) (cv 1) (pe_meth0 (cv 0) T.cl_Fold T.me_Fold_total (ok_Fold_total T) (hr.mono (by decide)) T.bi_Fold_total .nil pass0) rfl)
      (pss_one (ps_expr (pe_bm PySem.F.plainAttrs_list PySem.F.slot_list_append PySem.F.type_list_append (mtr mt_append) (pe_fld (cv 0) rfl) (pa_cons (cv 1) pa_nil))))) pss_nil)
      (pss_one (ps_ret (pe_dget (hu_of hr) (pe_fld (cv 0) rfl) (cv 1) (fun _ _ => rfl)))))
theorem ok_Fold_and_knot {P : Program} {w : World} {K : PySem.W.Frag} {mg : Str → Option Value} {base : Heap} {a : Adr} (T : Txt K mg a) : FnOk P w K mg base CX0 2 a.f_Fold_and_knot a.d_Fold_and_knot ["self", "ties"] (sp_Fold_and_knot a K) := by
  refine T.fn_Fold_and_knot.ok sc_Fold_and_knot (fun vs H Q E h => ?_) (fun cdv A outer s H vs Q E hr h => ⟨_, tm_Fold_and_knot T hr, ?_⟩)
  · obtain ⟨f, dx, pl, kl, tp, m, p, es, rfl, _⟩ := h; rfl
  · obtain ⟨f, dx, pl, kl, tp, m, p, es, rfl, hf, ht, hz, q⟩ := h
    show rd_Fold_and_knot a K _ [some (.ref f), some (.ref tp)] H
    unfold rd_Fold_and_knot
    have big : (5001 : Nat) ≤ sizeLine := by decide
    refine mid (fun σ' H' => σ' = [some (.ref f), some (.ref tp)] ∧ Un2 pl kl H H' ∧ ∃ es', FoldAt a.c_Fold H' f m es' dx pl kl ∧ psOf es' = MF.kp m (psOf es) p ∧ MF.fnd (m + 1) (psOf es') p = some (MF.kn m (psOf es) p) ∧ H' tp = some (.tup [.int p.1, .int p.2])) ?_ ?_
    · intro N hN
      walk_at "go"
      refine ⟨f, a.c_Fold, dx, _, _, rfl, hf.ins, T.cl_Fold, T.na_Fold_knots, rfl, kl, _, rfl, DGet.t (k := knK p) hf.prs.dct ht, ?_⟩
      rw [val_kvF]
      cases hfd : MF.fnd (m + 1) (psOf es) p with
      | some i =>
        walk_at "go"
        refine hN _ _ ⟨rfl, Un2.refl, es, hf, ?_, ?_, ht⟩
        · unfold MF.kp; rw [hfd]; rfl
        · unfold MF.kn; rw [hfd]; rfl
      | none =>
        walk_at "go"
        refine ⟨f, dx, _, rfl, hf.ins, rfl, f, dx, pl, kl, m, es, rfl, hf, ?_⟩
        walk_at "go"
        refine ⟨f, a.c_Fold, dx, _, _, rfl, hf.ins, T.cl_Fold, T.na_Fold_knots, rfl, ?_⟩
        walk_at "go"
        refine ⟨kl, _, rfl, DPut.t (k := knK p) hf.prs.dct ht (by rw [len_kvF, List.length_map]; omega), ?_⟩
        have e0 : (1 + m + (es.length : Int)) = (m + 1) + ((psOf es).length : Nat) := by rw [List.length_map]; omega
        rw [e0, put_kvF hfd]
        have nfk : f ≠ kl := ne_of hf.ins hf.prs.dct (fun z => nomatch z)
        have nfl : f ≠ pl := ne_of hf.ins hf.prs.lst (fun z => nomatch z)
        have i2 : upd H kl (.dT (kvF (m + 1) (psOf es ++ [p]))) f = some (.ins a.c_Fold dx [("many", .int m), ("pairs", .ref pl), ("knots", .ref kl)]) := by rw [upd_ne nfk]; exact hf.ins
        have l2 : upd H kl (.dT (kvF (m + 1) (psOf es ++ [p]))) pl = some (.lst (es.map fun e => V.ref e.1)) := by rw [upd_ne hf.prs.nlk]; exact hf.prs.lst
        walk_at "go"
        refine ⟨f, a.c_Fold, dx, _, _, rfl, i2, T.cl_Fold, T.na_Fold_pairs, rfl, ?_⟩
        walk_at "go"
        refine ⟨.inl ⟨by trivial, _, .of l2⟩, pl, _, _, rfl, rfl, l2, by rw [List.length_map]; omega, ?_⟩
        refine hN _ _ ⟨rfl, un_k.trans un_l, es ++ [(tp, p)], ⟨?_, hf.prs.put ht hfd⟩, ?_, ?_, ?_⟩
        · rw [upd_ne nfl]; exact i2
        · unfold MF.kp; rw [hfd, psOf, List.map_append]; rfl
        · unfold MF.kn; rw [hfd, psOf, List.map_append]; exact MF.fnd_snoc hfd
        · rw [upd_ne (ne_of ht hf.prs.lst (fun z => nomatch z)), upd_ne (ne_of ht hf.prs.dct (fun z => nomatch z))]; exact ht
    · rintro σ' H' ⟨rfl, u, es', hf', hp', hfd, ht'⟩
      walk_at "go"
      refine ⟨f, a.c_Fold, dx, _, _, rfl, hf'.ins, T.cl_Fold, T.na_Fold_knots, rfl, kl, .int (MF.kn m (psOf es) p), rfl, ?_, q _ es' u hf' hp'⟩
      have := DGet.t (k := knK p) hf'.prs.dct ht'
      rw [val_kvF, hfd] at this
      exact this
def sp_Fold_both (a : Adr) (_ : PySem.W.Frag) : Sp := fun vs H Q E => ∃ (f dx pl kl : Addr) (m s t : Int) (es : List En), vs = [.ref f, .int s, .int t] ∧ FoldAt a.c_Fold H f m es dx pl kl ∧ es.length ≤ 5000 ∧
  (0 ≤ s ∧ 0 ≤ t ∧ s < 2 * (1 + m + es.length) ∧ t < 2 * (1 + m + es.length) → ∀ H' es', Un2 pl kl H H' → FoldAt a.c_Fold H' f m es' dx pl kl → psOf es' = MF.bp m (psOf es) s t → Q (.int (MF.bt m (psOf es) s t)) H') ∧
  (¬ (0 ≤ s ∧ 0 ≤ t ∧ s < 2 * (1 + m + es.length) ∧ t < 2 * (1 + m + es.length)) → ∀ e, H e = none → E (.ref e) (some a.c_NoTie) H)
def rd_Fold_both (a : Adr) (K : PySem.W.Frag) (E : XK) : TS := (tSeq (tIfS (tOr (tNot (cTru K (tMeth a.c_Fold "has_tie" (sp_Fold_has_tie a K) [] E0 (cVar 0) (tCons (cVar 1) tNil)))) (tNot (cTru K (tMeth a.c_Fold "has_tie" (sp_Fold_has_tie a K) [] E0 (cVar 0) (tCons (cVar 2) tNil))))) (tRaise a.c_NoTie (tCons (tC (.str "no tie of this fold")) tNil) E) tNext)
    (tSeq (tAsg (tCB cMin (tCons (cVar 1) (tCons (cVar 2) tNil))) (gName 3))
    (tSeq (tAsg (tCB cMax (tCons (cVar 1) (tCons (cVar 2) tNil))) (gName 4))
    (tSeq (tIfS (cTst (tOp (cEq K) (cVar 3) (tC (gv_NEVER a)))) (tRet (tC (gv_NEVER a))) tNext)
    (tSeq (tIfS (tOr (cTst (tOp (cEq K) (cVar 3) (tC (gv_ALWAYS a)))) (cTst (tOp (cEq K) (cVar 3) (cVar 4)))) (tRet (cVar 4)) tNext)
    (tSeq (tIfS (cTst (tOp (cEq K) (cVar 3) (tCall (sp_turned K) [] E0 (tCons (cVar 4) tNil)))) (tRet (tC (gv_NEVER a))) tNext)
    (tRet (tOp cMul (tC (.int 2)) (tMeth a.c_Fold "and_knot" (sp_Fold_and_knot a K) [] E0 (cVar 0) (tCons (tTup (tCons (cVar 3) (tCons (cVar 4) tNil))) tNil))))))))))
theorem tm_Fold_both {P : Program} {w : World} {K : PySem.W.Frag} {mg : Str → Option Value} {base : Heap} {a : Adr} (T : Txt K mg a) {cdv : Value} {A : Around} {outer : List Env} {s : Shared} {H : Hp} {E : XK} (hr : Room 2 (A.deeper (envOfC "Fold.both" (defScope s_Fold_both) s.heap.objs.size a.f_Fold_both cdv))) :
    PSs (cxOf (CX1 P w) P w K mg base N_Fold_both "Fold.both" (defScope s_Fold_both) a.f_Fold_both cdv A outer s H E) (defBody s_Fold_both) (rd_Fold_both a K E) :=
  (pss_cons (ps_if (PW.pt (pw_or (pt_not (pt_tru (pe_meth (cv 0) T.cl_Fold T.me_Fold_has_tie (ok_Fold_has_tie T) (hr.mono (by decide)) T.bi_Fold_has_tie .nil pass0 (pa_cons (cv 1) pa_nil)))) (pw_or1 (pt_not (pt_tru (pe_meth (cv 0) T.cl_Fold T.me_Fold_has_tie (ok_Fold_has_tie T) (hr.mono (by decide)) T.bi_Fold_has_tie .nil pass0 (pa_cons (cv 2) pa_nil))))))) (pss_one (ps_raise PySem.F.excBase_ValueError T.xi_NoTie (by decide) rfl T.mg_NoTie rfl xok_fn (pa_cons pe_str pa_nil))) pss_nil)
      (pss_cons (ps_set (i := 3) sc_Fold_both.nd rfl (by first | exact Or.inl rfl | exact Or.inr rfl) (pe_callB (c_min rfl) (by rfl) T.no_min PyProof.Rows.boot_min (pa_cons (cv 1) (pa_cons (cv 2) pa_nil))))
      (pss_cons (ps_set (i := 4) sc_Fold_both.nd rfl (by first | exact Or.inl rfl | exact Or.inr rfl) (pe_callB (c_max rfl) (by rfl) T.no_max PyProof.Rows.boot_max (pa_cons (cv 1) (pa_cons (cv 2) pa_nil))))
      (pss_cons (ps_if (t_cmp (o_eq (hr8 hr)) (cv 3) (pe_globE rfl T.gx_NEVER) (nomark _)) (pss_one (ps_ret (pe_globE rfl T.gx_NEVER))) pss_nil)
      (pss_cons (ps_if (PW.pt (pw_or (t_cmp (o_eq (hr8 hr)) (cv 3) (pe_globE rfl T.gx_ALWAYS) (nomark _)) (pw_or1 (t_cmp (o_eq (hr8 hr)) (cv 3) (cv 4) (nomark _))))) (pss_one (ps_ret (cv 4))) pss_nil)
      (pss_cons (ps_if (t_cmp (o_eq (hr8 hr)) (cv 3) (pe_call (ok_turned T) (hr.mono (by decide)) rfl T.mg_turned T.fn_turned.kp T.bi_turned .nil pass0 (pa_cons (cv 4) pa_nil)) (nomark _)) (pss_one (ps_ret (pe_globE rfl T.gx_NEVER))) pss_nil)
      (pss_one (ps_ret (pe_op o_mul pe_int (pe_meth (cv 0) T.cl_Fold T.me_Fold_and_knot (ok_Fold_and_knot T) (hr.mono (by decide)) T.bi_Fold_and_knot .nil pass0 (pa_cons (pe_tup (pa_cons (cv 3) (pa_cons (cv 4) pa_nil))) pa_nil)))))))))))
theorem ok_Fold_both {P : Program} {w : World} {K : PySem.W.Frag} {mg : Str → Option Value} {base : Heap} {a : Adr} (T : Txt K mg a) : FnOk P w K mg base (CX1 P w) 3 a.f_Fold_both a.d_Fold_both ["self", "one", "other"] (sp_Fold_both a K) := by
  refine T.fn_Fold_both.okX sc_Fold_both (fun vs H Q E h => ?_) (fun cdv A outer s H vs Q E hr h => ⟨_, tm_Fold_both T hr, ?_⟩)
  · obtain ⟨f, dx, pl, kl, m, s, t, es, rfl, _⟩ := h; rfl
  · obtain ⟨f, dx, pl, kl, m, x, y, es, rfl, hf, hz, qi, qo⟩ := h
    show rd_Fold_both a K E _ [some (.ref f), some (.int x), some (.int y), none, none] H
    unfold rd_Fold_both gv_NEVER gv_ALWAYS
    walk_at "go"
    refine ⟨f, dx, _, rfl, hf.ins, rfl, f, dx, pl, kl, m, x, es, rfl, hf, ?_⟩
    by_cases gx : 0 ≤ x ∧ x < 2 * (1 + m + (es.length : Int))
    case neg =>
      rw [decide_eq_false gx]
      walk_at "go"
      exact ⟨by decide, qo (fun z => gx ⟨z.1, z.2.2.1⟩)⟩
    rw [decide_eq_true gx]
    walk_at "go"
    refine ⟨f, dx, _, rfl, hf.ins, rfl, f, dx, pl, kl, m, y, es, rfl, hf, ?_⟩
    by_cases gy : 0 ≤ y ∧ y < 2 * (1 + m + (es.length : Int))
    case neg =>
      rw [decide_eq_false gy]
      walk_at "go"
      exact ⟨by decide, qo (fun z => gy ⟨z.2.1, z.2.2.2⟩)⟩
    rw [decide_eq_true gy]
    obtain ⟨hx, hx'⟩ := gx
    obtain ⟨hy, hy'⟩ := gy
    have q := qi ⟨hx, hy, hx', hy'⟩
    walk_at "go"
    have q' := q
    unfold MF.bt MF.bp MF.sure at q'
    have e1 : (if y < x then y else x) = MF.lo x y := rfl
    have e2 : (if y > x then y else x) = MF.hi x y := rfl
    rw [e1, e2]
    by_cases h1 : MF.lo x y = 0
    · rw [if_pos h1] at q' ⊢
      exact q' H es Un2.refl hf rfl
    rw [if_neg h1] at q' ⊢
    by_cases h2 : MF.lo x y = 1 ∨ MF.lo x y = MF.hi x y
    · rw [if_pos h2] at q'
      have fin := q' H es Un2.refl hf rfl
      rcases h2 with h2 | h2
      · rw [if_pos h2]; exact fin
      · by_cases h3 : MF.lo x y = 1
        · rw [if_pos h3]; exact fin
        · rw [if_neg h3, if_pos h2]; exact fin
    rw [if_neg h2] at q'
    rw [if_neg (fun z => h2 (.inl z)), if_neg (fun z => h2 (.inr z))]
    have hhi : 0 ≤ MF.hi x y := by unfold MF.hi; split <;> omega
    refine ⟨MF.hi x y, rfl, hhi, ?_⟩
    walk_at "go"
    by_cases h3 : MF.lo x y = MF.tn (MF.hi x y)
    · rw [if_pos h3] at q' ⊢
      exact q' H es Un2.refl hf rfl
    rw [if_neg h3] at q' ⊢
    refine ⟨f, dx, _, rfl, hf.ins, rfl, by show 2 ≤ sizeLine; decide, fun tp H2 n2 => ?_⟩
    have hf2 := hf.same n2.same
    refine ⟨f, dx, pl, kl, tp, m, (MF.lo x y, MF.hi x y), es, rfl, hf2, n2.at_, hz, fun H' es' u hf' hp' => ?_⟩
    walk_at "go"
    refine ⟨.inl ⟨by decide, by decide⟩, q' H' es' (n2.same.un.trans u) hf' hp'⟩
theorem mk_Fold {a : Adr} {K : PySem.W.Frag} {H : Hp} {m : Int} {F : Addr → Hp → Prop} {E : XK} (q : ∀ x dx pl kl H', Same H H' → H x = none → H pl = none → H kl = none → FoldAt a.c_Fold H' x m [] dx pl kl → F x H') :
    ∀ x dx, H x = none → H dx = none → dx ≠ x → sp_Fold___init__ a K [.ref x, .int m] (upd (upd H dx (.own x)) x (.ins a.c_Fold dx [])) (fun v H2 => v = .non ∧ F x H2) E := by
  intro x dx hx hd hne
  refine ⟨x, dx, m, rfl, upd_same, fun H' pl kl st hp hk hf => ⟨rfl, q x dx pl kl H' (fun b o e => ?_) hx ?_ ?_ hf⟩⟩
  · have n1 : b ≠ x := ne_of_none e hx
    have n2 : b ≠ dx := ne_of_none e hd
    exact st b o n1 (by rw [upd_ne n1, upd_ne n2]; exact e)
  · cases e : H pl with
    | none => rfl
    | some o =>
      rw [upd_ne (ne_of_none e hx), upd_ne (ne_of_none e hd), e] at hp
      cases hp
  · cases e : H kl with
    | none => rfl
    | some o =>
      rw [upd_ne (ne_of_none e hx), upd_ne (ne_of_none e hd), e] at hk
      cases hk
/-- the script, whatever is done to other things -/
def Scr (K : PySem.W.Frag) (H : Hp) (p : Addr) (xs : List V) (L : Addr → Prop) : Prop := (SqL K H p xs ∧ ¬ L p) ∨ ∀ H', SqL K H' p xs
theorem Scr.sq {K : PySem.W.Frag} {H : Hp} {p : Addr} {xs : List V} {L : Addr → Prop} (h : Scr K H p xs L) : SqL K H p xs := h.elim (fun h => h.1) fun h => h H
theorem Scr.keep {K : PySem.W.Frag} {H H' : Hp} {p : Addr} {xs : List V} {L : Addr → Prop} (h : Scr K H p xs L) (k : Keep (fun b => ¬ L b) H H') : Scr K H' p xs L :=
  h.elim (fun h => .inl ⟨k.seq h.2 h.1, h.2⟩) fun h => .inr h
theorem Scr.un {K : PySem.W.Frag} {H H' : Hp} {p pl kl : Addr} {xs : List V} {L : Addr → Prop} (h : Scr K H p xs L) (hp : L pl) (hk : L kl) (u : Un2 pl kl H H') : Scr K H' p xs L :=
  h.keep fun b o n e => u b o (fun z => n (z ▸ hp)) (fun z => n (z ▸ hk)) e
theorem Scr.of {K : PySem.W.Frag} {H : Hp} {p : Addr} {xs : List V} {L : Addr → Prop} (h : SqL K H p xs) (hL : ∀ b, L b → H b = none) : Scr K H p xs L := by
  by_cases n : L p
  · rcases h with (h | ⟨o, h⟩) | h
    · rw [hL p n] at h; cases h
    · rw [hL p n] at h; cases h
    · exact .inr fun H' => .inr h
  · exact .inl ⟨h, n⟩

/-! the program: lighting -/
def nz (n : Nat) : V := .int (n : Int)
theorem at_nz {cs : List Nat} {i : Int} (h0 : 0 ≤ i) (h1 : i < cs.length) : atI (cs.map nz) i = some (.int (cs.getD i.toNat 0 : Nat)) := by
  rw [atI_ok .non h0 (by rw [List.length_map]; exact h1)]
  have : i.toNat < cs.length := by omega
  simp [List.getD, this, nz]
def fullN (m : Nat) : Nat := 2 ^ 2 ^ m - 1
def sp_full_column (_ : PySem.W.Frag) : Sp := fun vs H Q _ => ∃ m : Nat, vs = [.int m] ∧ m ≤ 10 ∧ Q (.int (fullN m : Nat)) H
def rd_full_column (K : PySem.W.Frag) : TS := (tRet (tOp (cI2 fun i j => .int (i - j)) (tOp (cI2c CPow fun i j => .int (i * 2 ^ j.toNat)) (tC (.int 1)) (tOp (cI2c CPow fun i j => .int (i * 2 ^ j.toNat)) (tC (.int 1)) (cVar 0))) (tC (.int 1))))
theorem tm_full_column {P : Program} {w : World} {K : PySem.W.Frag} {mg : Str → Option Value} {base : Heap} {a : Adr} (T : Txt K mg a) {cdv : Value} {A : Around} {outer : List Env} {s : Shared} {H : Hp} {E : XK} (hr : Room 0 (A.deeper (envOfC "full_column" (defScope s_full_column) s.heap.objs.size a.f_full_column cdv))) :
    PSs (cxOf CX0 P w K mg base N_full_column "full_column" (defScope s_full_column) a.f_full_column cdv A outer s H E).nox (defBody s_full_column) (rd_full_column K) :=
  (pss_one (ps_ret (pe_op o_sub (pe_op o_shl pe_int (pe_op o_shl pe_int (cv 0))) pe_int)))
theorem ok_full_column {P : Program} {w : World} {K : PySem.W.Frag} {mg : Str → Option Value} {base : Heap} {a : Adr} (T : Txt K mg a) : FnOk P w K mg base CX0 1 a.f_full_column a.d_full_column ["many"] (sp_full_column K) := by
  refine T.fn_full_column.ok sc_full_column (fun vs H Q E h => ?_) (fun cdv A outer s H vs Q E hr h => ⟨_, tm_full_column T hr, ?_⟩)
  · obtain ⟨m, rfl, _⟩ := h; rfl
  · obtain ⟨m, rfl, m10, q⟩ := h
    show rd_full_column K _ [some (.int m)] H
    unfold rd_full_column
    have hp10 : (2 : Nat) ^ m ≤ 2 ^ 10 := Nat.pow_le_pow_right (by decide) m10
    have ec : (1 * 2 ^ ((m : Int)).toNat : Int) = ((2 ^ m : Nat) : Int) := by simp
    have ef : (1 * 2 ^ (((2 ^ m : Nat) : Int)).toNat - 1 : Int) = ((fullN m : Nat) : Int) := by
      have := shl_val 1 (2 ^ m)
      rw [show ((1 : Nat) : Int) = 1 from rfl] at this
      rw [this, Nat.one_mul]
      have h1 : 1 ≤ 2 ^ 2 ^ m := Nat.one_le_two_pow
      unfold fullN
      omega
    walk_at "gs"
    rw [ec]
    have cp : CPow 1 ((2 ^ m : Nat) : Int) := by
      generalize 2 ^ m = N at hp10
      exact ⟨by omega, by omega, by decide⟩
    refine ⟨cp, ?_⟩
    rw [ef]
    exact q
def sp_lit_tie (K : PySem.W.Frag) : Sp := fun vs H Q _ => ∃ (pc : Addr) (cs : List Nat) (t : Int) (F : Nat), vs = [.ref pc, .int t, .int F] ∧ SqL K H pc (cs.map nz) ∧ 0 ≤ t ∧ t < 2 * cs.length ∧ Q (.int (MF.litC F cs t : Nat)) H
def rd_lit_tie (K : PySem.W.Frag) : TS := (tRet (tIf (cTst (tOp (cEq K) (tOp (cI2c (fun _ j => 0 < j) fun i j => .int (i % j)) (cVar 1) (tC (.int 2))) (tC (.int 1)))) (tOp (cI2 fun i j => .int (Builtin.bitXor i j)) (tOp (cIx K) (cVar 0) (tOp (cI2c CDiv fun i j => .int (i / j)) (cVar 1) (tC (.int 2)))) (cVar 2)) (tOp (cIx K) (cVar 0) (tOp (cI2c CDiv fun i j => .int (i / j)) (cVar 1) (tC (.int 2))))))
theorem tm_lit_tie {P : Program} {w : World} {K : PySem.W.Frag} {mg : Str → Option Value} {base : Heap} {a : Adr} (T : Txt K mg a) {cdv : Value} {A : Around} {outer : List Env} {s : Shared} {H : Hp} {E : XK} (hr : Room 0 (A.deeper (envOfC "lit_tie" (defScope s_lit_tie) s.heap.objs.size a.f_lit_tie cdv))) :
    PSs (cxOf CX0 P w K mg base N_lit_tie "lit_tie" (defScope s_lit_tie) a.f_lit_tie cdv A outer s H E).nox (defBody s_lit_tie) (rd_lit_tie K) :=
  (pss_one (ps_ret (pe_ifExp (t_cmp (o_eq (hr8 hr)) (pe_op o_mod (cv 1) pe_int) pe_int (nomark _)) (pe_op o_xor (pe_ix i_seq (cv 0) (pe_op o_fdiv (cv 1) pe_int) (fun _ _ => rfl)) (cv 2)) (pe_ix i_seq (cv 0) (pe_op o_fdiv (cv 1) pe_int) (fun _ _ => rfl)))))
theorem ok_lit_tie {P : Program} {w : World} {K : PySem.W.Frag} {mg : Str → Option Value} {base : Heap} {a : Adr} (T : Txt K mg a) : FnOk P w K mg base CX0 1 a.f_lit_tie a.d_lit_tie ["lit", "tie", "every"] (sp_lit_tie K) := by
  refine T.fn_lit_tie.ok sc_lit_tie (fun vs H Q E h => ?_) (fun cdv A outer s H vs Q E hr h => ⟨_, tm_lit_tie T hr, ?_⟩)
  · obtain ⟨pc, cs, t, F, rfl, _⟩ := h; rfl
  · obtain ⟨pc, cs, t, F, rfl, hC, h0, h1, q⟩ := h
    show rd_lit_tie K _ [some (.ref pc), some (.int t), some (.int F)] H
    unfold rd_lit_tie
    unfold MF.litC at q
    walk_at "gs"
    by_cases h : t % 2 = 1
    · rw [if_pos h] at q ⊢
      walk_at "gs"
      refine ⟨_, _, .inl hC, at_nz (by omega) (by omega), ?_⟩
      walk_at "gs"
      rw [xor_nat, Nat.xor_comm]
      exact q
    · rw [if_neg h] at q ⊢
      walk_at "gs"
      exact ⟨_, _, .inl hC, at_nz (by omega) (by omega), q⟩
def sp_lit_pair (K : PySem.W.Frag) : Sp := fun vs H Q _ => ∃ (pc tp : Addr) (cs : List Nat) (x y : Int) (F : Nat), vs = [.ref pc, .ref tp, .int F] ∧ SqL K H pc (cs.map nz) ∧ H tp = some (.tup [.int x, .int y]) ∧ 0 ≤ x ∧ x < 2 * cs.length ∧ 0 ≤ y ∧ y < 2 * cs.length ∧ Q (.int ((MF.litC F cs x &&& MF.litC F cs y : Nat))) H
def rd_lit_pair (K : PySem.W.Frag) : TS := (tRet (tOp (cI2 fun i j => .int (Builtin.bitAnd i j)) (tCall (sp_lit_tie K) [] E0 (tCons (cVar 0) (tCons (tOp (cIx K) (cVar 1) (tC (.int 0))) (tCons (cVar 2) tNil)))) (tCall (sp_lit_tie K) [] E0 (tCons (cVar 0) (tCons (tOp (cIx K) (cVar 1) (tC (.int 1))) (tCons (cVar 2) tNil))))))
theorem tm_lit_pair {P : Program} {w : World} {K : PySem.W.Frag} {mg : Str → Option Value} {base : Heap} {a : Adr} (T : Txt K mg a) {cdv : Value} {A : Around} {outer : List Env} {s : Shared} {H : Hp} {E : XK} (hr : Room 1 (A.deeper (envOfC "lit_pair" (defScope s_lit_pair) s.heap.objs.size a.f_lit_pair cdv))) :
    PSs (cxOf CX0 P w K mg base N_lit_pair "lit_pair" (defScope s_lit_pair) a.f_lit_pair cdv A outer s H E).nox (defBody s_lit_pair) (rd_lit_pair K) :=
  (pss_one (ps_ret (pe_op o_and (pe_call (ok_lit_tie T) (hr.mono (by decide)) rfl T.mg_lit_tie T.fn_lit_tie.kp T.bi_lit_tie .nil pass0 (pa_cons (cv 0) (pa_cons (pe_ix i_seq (cv 1) pe_int (fun _ _ => rfl)) (pa_cons (cv 2) pa_nil)))) (pe_call (ok_lit_tie T) (hr.mono (by decide)) rfl T.mg_lit_tie T.fn_lit_tie.kp T.bi_lit_tie .nil pass0 (pa_cons (cv 0) (pa_cons (pe_ix i_seq (cv 1) pe_int (fun _ _ => rfl)) (pa_cons (cv 2) pa_nil)))))))
theorem ok_lit_pair {P : Program} {w : World} {K : PySem.W.Frag} {mg : Str → Option Value} {base : Heap} {a : Adr} (T : Txt K mg a) : FnOk P w K mg base CX0 2 a.f_lit_pair a.d_lit_pair ["lit", "pair", "every"] (sp_lit_pair K) := by
  refine T.fn_lit_pair.ok sc_lit_pair (fun vs H Q E h => ?_) (fun cdv A outer s H vs Q E hr h => ⟨_, tm_lit_pair T hr, ?_⟩)
  · obtain ⟨pc, tp, cs, x, y, F, rfl, _⟩ := h; rfl
  · obtain ⟨pc, tp, cs, x, y, F, rfl, hC, ht, x0, x1, y0, y1, q⟩ := h
    show rd_lit_pair K _ [some (.ref pc), some (.ref tp), some (.int F)] H
    unfold rd_lit_pair
    walk_at "gs"
    refine ⟨_, _, .inr (.of ht), rfl, pc, _, x, F, rfl, hC, x0, x1, ?_⟩
    walk_at "gs"
    refine ⟨_, _, .inr (.of ht), rfl, pc, _, y, F, rfl, hC, y0, y1, ?_⟩
    walk_at "gs"
    rw [and_nat]
    exact q
def sp_lit_knots (a : Adr) (_ : PySem.W.Frag) : Sp := fun vs H Q _ => ∃ (f dx pl kl pin : Addr) (m : Nat) (top : Int) (F : Nat) (ins : List Nat) (es : List En), vs = [.ref f, .int top, .ref pin, .int F] ∧ FoldAt a.c_Fold H f m es dx pl kl ∧ H pin = some (.lst (ins.map nz)) ∧ ins.length = m ∧ 0 ≤ top ∧ top ≤ m + es.length ∧ es.length ≤ 5000 ∧ m ≤ 10 ∧ MF.Ok m (psOf es) ∧
  ∀ p H', Mad H p (.lst ((MF.growC F (0 :: ins) ((psOf es).take (top - m).toNat)).map nz)) H' → Q (.ref p) H'
def rd_lit_knots (a : Adr) (K : PySem.W.Frag) : TS := (tSeq (tAsg (tOp cAdd (tLst (tCons (tC (.int 0)) tNil)) (cVar 2)) (gName 4))
    (tSeq (tFor (iRng2 (tCons (tOp cAdd (tFld K (cVar 0) "many") (tC (.int 1))) (tCons (tOp cAdd (cVar 1) (tC (.int 1))) tNil))) (gName 5) (tDrop (tBM K "list" rAppend (cVar 4) (tCons (tCall (sp_lit_pair K) [] E0 (tCons (cVar 4) (tCons (tMeth a.c_Fold "pair" (sp_Fold_pair a K) [] E0 (cVar 0) (tCons (cVar 5) tNil)) (tCons (cVar 3) tNil)))) tNil))))
    (tRet (cVar 4))))
theorem tm_lit_knots {P : Program} {w : World} {K : PySem.W.Frag} {mg : Str → Option Value} {base : Heap} {a : Adr} (T : Txt K mg a) {cdv : Value} {A : Around} {outer : List Env} {s : Shared} {H : Hp} {E : XK} (hr : Room 2 (A.deeper (envOfC "lit_knots" (defScope s_lit_knots) s.heap.objs.size a.f_lit_knots cdv))) :
    PSs (cxOf CX0 P w K mg base N_lit_knots "lit_knots" (defScope s_lit_knots) a.f_lit_knots cdv A outer s H E).nox (defBody s_lit_knots) (rd_lit_knots a K) :=
  (pss_cons (ps_set (i := 4) sc_lit_knots.nd rfl (by first | exact Or.inl rfl | exact Or.inr rfl) (pe_op o_add (pe_lst (pa_cons pe_int pa_nil)) (cv 2)))
      (pss_cons (ps_for PassesOwn.never rfl (pi_range2 rfl T.no_range (pa_cons (pe_op o_add (pe_fld (cv 0) rfl) pe_int) (pa_cons (pe_op o_add (cv 1) pe_int) pa_nil))) (pg_name (i := 5) sc_lit_knots.nd rfl (by first | exact Or.inl rfl | exact Or.inr rfl)) (pss_one (ps_expr (pe_bm PySem.F.plainAttrs_list PySem.F.slot_list_append PySem.F.type_list_append (mtr mt_append) (cv 4) (pa_cons (pe_call (ok_lit_pair T) (hr.mono (by decide)) rfl T.mg_lit_pair T.fn_lit_pair.kp T.bi_lit_pair .nil pass0 (pa_cons (cv 4) (pa_cons (pe_meth (cv 0) T.cl_Fold T.me_Fold_pair (ok_Fold_pair T) (hr.mono (by decide)) T.bi_Fold_pair .nil passN (pa_cons (cv 5) pa_nil)) (pa_cons (cv 3) pa_nil)))) pa_nil)))))
      (pss_one (ps_ret (cv 4)))))
theorem ok_lit_knots {P : Program} {w : World} {K : PySem.W.Frag} {mg : Str → Option Value} {base : Heap} {a : Adr} (T : Txt K mg a) : FnOk P w K mg base CX0 3 a.f_lit_knots a.d_lit_knots ["fold", "top", "inputs", "every"] (sp_lit_knots a K) := by
  refine T.fn_lit_knots.ok sc_lit_knots (fun vs H Q E h => ?_) (fun cdv A outer s H vs Q E hr h => ⟨_, tm_lit_knots T hr, ?_⟩)
  · obtain ⟨f, dx, pl, kl, pin, m, top, F, ins, es, rfl, _⟩ := h; rfl
  · obtain ⟨f, dx, pl, kl, pin, m, top, F, ins, es, rfl, hf, hI, hil, ht0, ht1, hz, hm, hok, q⟩ := h
    show rd_lit_knots a K _ [some (.ref f), some (.int top), some (.ref pin), some (.int F), none, none] H
    unfold rd_lit_knots
    have big : (10000 : Nat) ≤ sizeLine := by decide
    walk_at "gs"
    intro r1 H1 n1
    refine ⟨_, _, n1.at_, n1.same _ _ hI, by simp only [List.length_map, List.length_cons, List.length_nil]; omega, fun p hp => ?_⟩
    have sp : Same H (upd H1 p (.lst (V.int 0 :: ins.map nz))) := n1.same.trans (same_upd hp)
    have ap : upd H1 p (.lst (V.int 0 :: ins.map nz)) p = some (.lst ((MF.growC F (0 :: ins) ((psOf es).take 0)).map nz)) := upd_same
    have hpf : H p = none := n1.same.nil hp
    walk_at "gs"
    generalize upd H1 p (.lst (V.int 0 :: ins.map nz)) = H2 at sp ap ⊢
    refine ⟨f, a.c_Fold, dx, _, _, rfl, sp _ _ hf.ins, T.cl_Fold, T.na_Fold_many, rfl, ?_⟩
    walk_at "gs"
    rw [show (top + 1 - ((m : Int) + 1)).toNat = (top - m).toNat by omega]
    refine for_rngG (fun i σ H3 => Same H H3 ∧ H3 p = some (.lst ((MF.growC F (0 :: ins) ((psOf es).take i)).map nz)) ∧ ∃ v5, σ = [some (.ref f), some (.int top), some (.ref pin), some (.int F), some (.ref p), v5]) ⟨sp, ap, _, rfl⟩ ?_ ?_
    · rintro i σ H3 hi ⟨s3, a3, v5, rfl⟩
      have f3 := hf.same s3
      have hie : i < es.length := by omega
      have hee : es[i]? = some es[i] := List.getElem?_eq_getElem hie
      have hpe : (psOf es)[i]? = some (es[i]).2 := by rw [List.getElem?_map, hee]; rfl
      obtain ⟨o1, o2, o3, o4⟩ := hok _ _ hpe
      have te := f3.prs.tup _ (List.getElem_mem hie)
      have hlk : (MF.growC F (0 :: ins) ((psOf es).take i)).length = m + 1 + i := by
        rw [MF.growC_len, List.length_take, List.length_map, List.length_cons]; omega
      generalize hE : es[i] = e at *
      walk_at "gs"
      refine ⟨.inl ⟨by trivial, _, .of a3⟩, f, dx, _, rfl, f3.ins, rfl, f, dx, pl, kl, m, _, es, rfl, f3, fun _ => ⟨fun z => absurd z (by omega), fun e' _ he' => ?_⟩, fun z => absurd ⟨by omega, by omega⟩ z⟩
      rw [show ((m : Int) + 1 + (i : Int) - (m : Int) - 1).toNat = i by omega, hee] at he'
      cases he'
      walk_at "gs"
      refine ⟨p, e.1, _, e.2.1, e.2.2, F, rfl, .of a3, te, by omega, by omega, by omega, by omega, ?_⟩
      walk_at "gs"
      refine ⟨p, _, _, rfl, rfl, a3, by rw [List.length_map]; omega, s3.put hpf, ?_, _, rfl⟩
      rw [upd_same, List.take_add_one, hpe]
      have hmap : ∀ (xs : List Nat) (y : Nat), xs.map nz ++ [V.int (y : Nat)] = (xs ++ [y]).map nz := fun xs y => by rw [List.map_append]; rfl
      rw [hmap]
      show _ = some (HO.lst ((MF.growC F (0 :: ins) ((psOf es).take i ++ [e.2])).map nz))
      rw [MF.growC_app]
      rfl
    · rintro σ H3 ⟨s3, a3, v5, rfl⟩
      walk_at "gs"
      exact q p H3 ⟨hpf, a3, s3⟩
def sp_need_tie (a : Adr) (_ : PySem.W.Frag) : Sp := fun vs H Q E => ∃ (f dx pl kl : Addr) (m t : Int) (es : List En), vs = [.ref f, .int t] ∧ FoldAt a.c_Fold H f m es dx pl kl ∧
  (0 ≤ t ∧ t < 2 * (1 + m + es.length) → Q .non H) ∧ (¬ (0 ≤ t ∧ t < 2 * (1 + m + es.length)) → ∀ e, H e = none → E (.ref e) (some a.c_NoTie) H)
def rd_need_tie (a : Adr) (K : PySem.W.Frag) (E : XK) : TS := (tIfS (tNot (cTru K (tMeth a.c_Fold "has_tie" (sp_Fold_has_tie a K) [] E0 (cVar 0) (tCons (cVar 1) tNil)))) (tRaise a.c_NoTie (tCons (tC (.str "no tie of this fold")) tNil) E) tNext)
theorem tm_need_tie {P : Program} {w : World} {K : PySem.W.Frag} {mg : Str → Option Value} {base : Heap} {a : Adr} (T : Txt K mg a) {cdv : Value} {A : Around} {outer : List Env} {s : Shared} {H : Hp} {E : XK} (hr : Room 2 (A.deeper (envOfC "need_tie" (defScope s_need_tie) s.heap.objs.size a.f_need_tie cdv))) :
    PSs (cxOf (CX1 P w) P w K mg base N_need_tie "need_tie" (defScope s_need_tie) a.f_need_tie cdv A outer s H E) (defBody s_need_tie) (rd_need_tie a K E) :=
  (pss_one (ps_if (pt_not (pt_tru (pe_meth (cv 0) T.cl_Fold T.me_Fold_has_tie (ok_Fold_has_tie T) (hr.mono (by decide)) T.bi_Fold_has_tie .nil pass0 (pa_cons (cv 1) pa_nil)))) (pss_one (ps_raise PySem.F.excBase_ValueError T.xi_NoTie (by decide) rfl T.mg_NoTie rfl xok_fn (pa_cons pe_str pa_nil))) pss_nil))
theorem ok_need_tie {P : Program} {w : World} {K : PySem.W.Frag} {mg : Str → Option Value} {base : Heap} {a : Adr} (T : Txt K mg a) : FnOk P w K mg base (CX1 P w) 3 a.f_need_tie a.d_need_tie ["fold", "tie"] (sp_need_tie a K) := by
  refine T.fn_need_tie.okX sc_need_tie (fun vs H Q E h => ?_) (fun cdv A outer s H vs Q E hr h => ⟨_, tm_need_tie T hr, ?_⟩)
  · obtain ⟨f, dx, pl, kl, m, t, es, rfl, _⟩ := h; rfl
  · obtain ⟨f, dx, pl, kl, m, t, es, rfl, hf, qi, qo⟩ := h
    show rd_need_tie a K E _ [some (.ref f), some (.int t)] H
    unfold rd_need_tie
    walk_at "gs"
    refine ⟨f, dx, _, rfl, hf.ins, rfl, f, dx, pl, kl, m, t, es, rfl, hf, ?_⟩
    by_cases g : 0 ≤ t ∧ t < 2 * (1 + m + (es.length : Int))
    · rw [decide_eq_true g]
      walk_at "gs"
      exact qi g
    · rw [decide_eq_false g]
      walk_at "gs"
      exact qo g
/-- a tie's column by the knots below alone -/
theorem lit_pre {F : Nat} {b : List Nat} {ps : List MF.Pr} {t : Int} {n : Nat} (h0 : 0 ≤ t) (h : t < 2 * (b.length + min n ps.length)) : MF.litC F (MF.growC F b (ps.take n)) t = MF.L F b ps t := by
  unfold MF.L
  have e : MF.growC F b ps = MF.growC F (MF.growC F b (ps.take n)) (ps.drop n) := by rw [← MF.growC_app, List.take_append_drop]
  rw [e]
  obtain ⟨x, hx⟩ := MF.growC_pre F (ps.drop n) (MF.growC F b (ps.take n))
  rw [hx, MF.litC_app h0]
  rw [MF.growC_len, List.length_take]
  omega

theorem size_big : (1000 : Nat) ≤ sizeLine := by decide
/-! the program: columns -/
def sp_input_columns (K : PySem.W.Frag) : Sp := fun vs H Q _ => ∃ m : Nat, vs = [.int m] ∧ m ≤ 10 ∧ ∀ q H', Same H H' → H q = none → H' q = some (.lst (((MC.inC m).1.map GM.nz).map V.int)) → Q (.ref q) H'
def shOr (w : Nat) : V → V | .int c => .int (Builtin.bitOr c (c * 2 ^ (GM.nz w).toNat)) | _ => .non
theorem two2 {i : Nat} (h : i ≤ 10) : 2 ^ i ≤ 1024 := by
  have : (2 : Nat) ^ i ≤ 2 ^ 10 := Nat.pow_le_pow_right (by decide) h
  omega
def rd_input_columns (K : PySem.W.Frag) : TS := (tSeq (tAsg (tLst tNil) (gName 1))
    (tSeq (tAsg (tC (.int 1)) (gName 2))
    (tSeq (tAsg (tC (.int 1)) (gName 3))
    (tSeq (tFor (iRng1 (tCons (cVar 0) tNil)) (gName 4) (tSeq (tAsg (tComp (iList K (cVar 1)) 1 [3] (gName 0) tTrue (tOp (cI2 fun i j => .int (Builtin.bitOr i j)) (cVar 0) (tOp (cI2c CShl fun i j => .int (i * 2 ^ j.toNat)) (cVar 0) (cVar 1)))) (gName 1))
    (tSeq (tDrop (tBM K "list" rAppend (cVar 1) (tCons (tOp (cI2c CShl fun i j => .int (i * 2 ^ j.toNat)) (cVar 2) (cVar 3)) tNil)))
    (tSeq (tAsg (tOp (cI2 fun i j => .int (Builtin.bitOr i j)) (cVar 2) (tOp (cI2c CShl fun i j => .int (i * 2 ^ j.toNat)) (cVar 2) (cVar 3))) (gName 2))
    (tAsg (tOp cMul (cVar 3) (tC (.int 2))) (gName 3))))))
    (tRet (cVar 1))))))
theorem tm_input_columns {P : Program} {w : World} {K : PySem.W.Frag} {mg : Str → Option Value} {base : Heap} {a : Adr} (T : Txt K mg a) {cdv : Value} {A : Around} {outer : List Env} {s : Shared} {H : Hp} {E : XK} (hr : Room 0 (A.deeper (envOfC "input_columns" (defScope s_input_columns) s.heap.objs.size a.f_input_columns cdv))) :
    PSs (cxOf CX0 P w K mg base N_input_columns "input_columns" (defScope s_input_columns) a.f_input_columns cdv A outer s H E).nox (defBody s_input_columns) (rd_input_columns K) :=
  (pss_cons (ps_set (i := 1) sc_input_columns.nd rfl (by first | exact Or.inl rfl | exact Or.inr rfl) (pe_lst pa_nil))
      (pss_cons (ps_set (i := 2) sc_input_columns.nd rfl (by first | exact Or.inl rfl | exact Or.inr rfl) pe_int)
      (pss_cons (ps_set (i := 3) sc_input_columns.nd rfl (by first | exact Or.inl rfl | exact Or.inr rfl) pe_int)
      (pss_cons (ps_for PassesOwn.never rfl (pi_range1 rfl T.no_range (pa_cons (cv 0) pa_nil)) (pg_name (i := 4) sc_input_columns.nd rfl (by first | exact Or.inl rfl | exact Or.inr rfl)) (pss_cons (ps_setC (i := 1) (N := ["column", "width"]) (k := 1) (sel := [3]) (CScope.of (defScope s_input_columns).names (by decide +kernel)) (CNames.of N_input_columns (by decide +kernel)) rfl (pi_list (cv 1)) (fun _ _ _ _ => (pg_name (i := 0) (show List.Nodup (["column", "width"] : List Str) by decide +kernel) rfl (by first | exact Or.inl rfl | exact Or.inr rfl))) (fun _ _ _ _ => pts_nil) (fun _ _ _ _ => (pe_op o_or (cv 0) (pe_op o_shlB (cv 0) (cv 1)))) sc_input_columns.nd rfl (by first | exact Or.inl rfl | exact Or.inr rfl) rfl)
      (pss_cons (ps_expr (pe_bm PySem.F.plainAttrs_list PySem.F.slot_list_append PySem.F.type_list_append (mtr mt_append) (cv 1) (pa_cons (pe_op o_shlB (cv 2) (cv 3)) pa_nil)))
      (pss_cons (ps_set (i := 2) sc_input_columns.nd rfl (by first | exact Or.inl rfl | exact Or.inr rfl) (pe_op o_or (cv 2) (pe_op o_shlB (cv 2) (cv 3))))
      (pss_one (ps_set (i := 3) sc_input_columns.nd rfl (by first | exact Or.inl rfl | exact Or.inr rfl) (pe_op o_mul (cv 3) pe_int)))))))
      (pss_one (ps_ret (cv 1)))))))
theorem ok_input_columns {P : Program} {w : World} {K : PySem.W.Frag} {mg : Str → Option Value} {base : Heap} {a : Adr} (T : Txt K mg a) : FnOk P w K mg base CX0 1 a.f_input_columns a.d_input_columns ["many"] (sp_input_columns K) := by
  refine T.fn_input_columns.ok sc_input_columns (fun vs H Q E h => ?_) (fun cdv A outer s H vs Q E hr h => ⟨_, tm_input_columns T hr, ?_⟩)
  · obtain ⟨m, rfl, _⟩ := h; rfl
  · obtain ⟨m, rfl, hm, q⟩ := h
    show rd_input_columns K _ [some (.int m), none, none, none, none] H
    unfold rd_input_columns
    have hbig := size_big
    walk_at "gs"
    intro r0 H0 n0
    walk_at "gs"
    rw [Int.toNat_natCast]
    refine for_rngG (fun i σ H2 => ∃ r, Same H H2 ∧ H r = none ∧ H2 r = some (.lst (((MC.inC i).1.map GM.nz).map V.int)) ∧ ∃ v, σ = [some (.int m), some (.ref r), some (.int (GM.nz (MC.inC i).2.1)), some (.int (GM.nz (MC.inC i).2.2)), v])
      ⟨r0, n0.same, n0.was, n0.at_, _, rfl⟩ ?_ ?_
    · rintro i σ H2 hi ⟨r, s2, fr, at2, v, rfl⟩
      have hw := MC.inC_w i
      have he := MC.inC_e i
      have hln := MC.inC_len i
      have h2i := two2 (show i ≤ 10 by omega)
      have hpos : 0 < 2 ^ i := Nat.pow_pos (by decide)
      walk_at "gs"
      refine ⟨⟨_, .of at2⟩, compG_list (shOr (MC.inC i).2.2) (.of at2) rfl (by rw [List.length_map, List.length_map]; omega) ?_ ?_⟩
      · intro x H' Q' hx _ q'
        obtain ⟨y, hy, rfl⟩ := List.mem_map.mp hx
        obtain ⟨c, hc, rfl⟩ := List.mem_map.mp hy
        walk_at "go"
        exact ⟨shl_nat (k := 2 ^ i) (MC.inC_lt i c hc) (by rw [hw]; omega), q'⟩
      · intro r2 H3 n3
        have hev : (MC.inC i).2.1 < 2 ^ (2 ^ i) := by rw [he]; have : 0 < 2 ^ (2 ^ i) := Nat.pow_pos (by decide); omega
        have hsh : CShl (GM.nz (MC.inC i).2.1) (GM.nz (MC.inC i).2.2) := shl_nat (k := 2 ^ i) hev (by rw [hw]; omega)
        walk_at "go"
        refine ⟨.inl ⟨by trivial, _, n3.sq⟩, hsh, r2, _, _, rfl, rfl, n3.at_, by rw [List.length_map, List.length_map, List.length_map]; omega, ?_⟩
        walk_at "go"
        refine ⟨hsh, .inr ⟨by decide, by decide⟩, r2, (s2.trans n3.same).put (s2.free n3.was), s2.free n3.was, ?_, some (.int (0 + (i : Int))), ?_⟩
        · rw [upd_same]
          congr 2
          show _ = (((MC.inC i).1.map (fun c => c ||| (c * 2 ^ (MC.inC i).2.2)) ++ [(MC.inC i).2.1 * 2 ^ (MC.inC i).2.2]).map GM.nz).map V.int
          rw [List.map_append, List.map_append, List.map_map, List.map_map, List.map_map, List.map_map]
          have z1 : ∀ c ∈ (MC.inC i).1, shOr (MC.inC i).2.2 (V.int (GM.nz c)) = V.int (GM.nz (c ||| (c * 2 ^ (MC.inC i).2.2))) := fun c _ => by
            show V.int (Builtin.bitOr (GM.nz c) (GM.nz c * 2 ^ (GM.nz (MC.inC i).2.2).toNat)) = V.int (GM.nz (c ||| (c * 2 ^ (MC.inC i).2.2)))
            unfold GM.nz
            rw [shl_val, or_nat]
          have z2 : GM.nz (MC.inC i).2.1 * 2 ^ (GM.nz (MC.inC i).2.2).toNat = GM.nz ((MC.inC i).2.1 * 2 ^ (MC.inC i).2.2) := by
            unfold GM.nz
            rw [shl_val]
          have z3 := List.map_congr_left z1
          rw [z2]
          exact congrArg (· ++ [V.int (GM.nz ((MC.inC i).2.1 * 2 ^ (MC.inC i).2.2))]) z3
        · have e1 : Builtin.bitOr (GM.nz (MC.inC i).2.1) (GM.nz (MC.inC i).2.1 * 2 ^ (GM.nz (MC.inC i).2.2).toNat) = GM.nz (MC.inC (i + 1)).2.1 := by
            show _ = GM.nz ((MC.inC i).2.1 ||| ((MC.inC i).2.1 * 2 ^ (MC.inC i).2.2))
            unfold GM.nz
            rw [shl_val, or_nat]
          have e2 : GM.nz (MC.inC i).2.2 * 2 = GM.nz (MC.inC (i + 1)).2.2 := by
            show _ = GM.nz ((MC.inC i).2.2 * 2)
            unfold GM.nz
            omega
          rw [e1, e2]
    · rintro σ H2 ⟨r, s2, fr, at2, v, rfl⟩
      walk_at "gs"
      exact q r H2 s2 fr at2

/-! the program: columns of ties -/
abbrev bC (m : Nat) : List Nat := 0 :: (MC.inC m).1
theorem len_bC (m : Nat) : (bC m).length = m + 1 := by show ((MC.inC m).1.length) + 1 = m + 1; rw [MC.inC_len]
theorem sub_full {m c : Nat} (h : c < 2 ^ 2 ^ m) : MF.Sub (fullN m) c := fun j hj => by
  unfold fullN
  rw [Nat.testBit_two_pow_sub_one]
  refine decide_eq_true (Decidable.byContradiction fun hn => ?_)
  have := Nat.testBit_lt_two_pow (Nat.lt_of_lt_of_le h (Nat.pow_le_pow_right (by decide) (show 2 ^ m ≤ j by omega)))
  rw [this] at hj
  cases hj
theorem full_sub {m c : Nat} (h : MF.Sub (fullN m) c) : c < 2 ^ 2 ^ m := by
  refine Nat.lt_pow_two_of_testBit _ fun j hj => ?_
  cases e : c.testBit j with
  | false => rfl
  | true =>
    have := h j e
    unfold fullN at this
    rw [Nat.testBit_two_pow_sub_one] at this
    have := of_decide_eq_true this
    omega
theorem baseC (m : Nat) : MF.Base (fullN m) m (bC m) := by
  refine ⟨by rw [len_bC]; omega, rfl, fun c hc => ?_⟩
  rcases List.mem_cons.mp hc with rfl | hc
  · exact MF.sub_zero _
  · exact sub_full (MC.inC_lt m c hc)
theorem nz_GM (cs : List Nat) : (cs.map GM.nz).map V.int = cs.map nz := by rw [List.map_map]; rfl
def sp_column (a : Adr) (_ : PySem.W.Frag) : Sp := fun vs H Q E => ∃ (f dx pl kl : Addr) (m : Nat) (t : Int) (es : List En), vs = [.ref f, .int t] ∧ FoldAt a.c_Fold H f m es dx pl kl ∧ es.length ≤ 5000 ∧ m ≤ 10 ∧ MF.Ok m (psOf es) ∧
  (0 ≤ t ∧ t < 2 * (1 + m + es.length) → ∀ H', Same H H' → Q (.int (MF.L (fullN m) (bC m) (psOf es) t : Nat)) H') ∧ (¬ (0 ≤ t ∧ t < 2 * (1 + m + es.length)) → ∀ e, H e = none → E (.ref e) (some a.c_NoTie) H)
def rd_column (a : Adr) (K : PySem.W.Frag) (E : XK) : TS := (tSeq (tDrop (tCall (sp_need_tie a K) [] E (tCons (cVar 0) (tCons (cVar 1) tNil))))
    (tSeq (tAsg (tCall (sp_full_column K) [] E0 (tCons (tFld K (cVar 0) "many") tNil)) (gName 2))
    (tRet (tCall (sp_lit_tie K) [] E0 (tCons (tCall (sp_lit_knots a K) [] E0 (tCons (cVar 0) (tCons (tOp (cI2c CDiv fun i j => .int (i / j)) (cVar 1) (tC (.int 2))) (tCons (tCall (sp_input_columns K) [] E0 (tCons (tFld K (cVar 0) "many") tNil)) (tCons (cVar 2) tNil))))) (tCons (cVar 1) (tCons (cVar 2) tNil)))))))
theorem tm_column {P : Program} {w : World} {K : PySem.W.Frag} {mg : Str → Option Value} {base : Heap} {a : Adr} (T : Txt K mg a) {cdv : Value} {A : Around} {outer : List Env} {s : Shared} {H : Hp} {E : XK} (hr : Room 3 (A.deeper (envOfC "column" (defScope s_column) s.heap.objs.size a.f_column cdv))) :
    PSs (cxOf (CX1 P w) P w K mg base N_column "column" (defScope s_column) a.f_column cdv A outer s H E) (defBody s_column) (rd_column a K E) :=
  (pss_cons (ps_expr (pe_call (ok_need_tie T) (hr.mono (by decide)) rfl T.mg_need_tie T.fn_need_tie.kp T.bi_need_tie .nil (pass1 xok_fn) (pa_cons (cv 0) (pa_cons (cv 1) pa_nil))))
      (pss_cons (ps_set (i := 2) sc_column.nd rfl (by first | exact Or.inl rfl | exact Or.inr rfl) (pe_call (ok_full_column T) (hr.mono (by decide)) rfl T.mg_full_column T.fn_full_column.kp T.bi_full_column .nil pass0 (pa_cons (pe_fld (cv 0) rfl) pa_nil)))
      (pss_one (ps_ret (pe_call (ok_lit_tie T) (hr.mono (by decide)) rfl T.mg_lit_tie T.fn_lit_tie.kp T.bi_lit_tie .nil pass0 (pa_cons (pe_call (ok_lit_knots T) (hr.mono (by decide)) rfl T.mg_lit_knots T.fn_lit_knots.kp T.bi_lit_knots .nil pass0 (pa_cons (cv 0) (pa_cons (pe_op o_fdiv (cv 1) pe_int) (pa_cons (pe_call (ok_input_columns T) (hr.mono (by decide)) rfl T.mg_input_columns T.fn_input_columns.kp T.bi_input_columns .nil pass0 (pa_cons (pe_fld (cv 0) rfl) pa_nil)) (pa_cons (cv 2) pa_nil))))) (pa_cons (cv 1) (pa_cons (cv 2) pa_nil))))))))
theorem ok_column {P : Program} {w : World} {K : PySem.W.Frag} {mg : Str → Option Value} {base : Heap} {a : Adr} (T : Txt K mg a) : FnOk P w K mg base (CX1 P w) 4 a.f_column a.d_column ["fold", "tie"] (sp_column a K) := by
  refine T.fn_column.okX sc_column (fun vs H Q E h => ?_) (fun cdv A outer s H vs Q E hr h => ⟨_, tm_column T hr, ?_⟩)
  · obtain ⟨f, dx, pl, kl, m, t, es, rfl, _⟩ := h; rfl
  · obtain ⟨f, dx, pl, kl, m, t, es, rfl, hf, hz, hm, hok, qi, qo⟩ := h
    show rd_column a K E _ [some (.ref f), some (.int t), none] H
    unfold rd_column
    walk_at "gs"
    refine ⟨f, dx, pl, kl, m, t, es, rfl, hf, fun g => ?_, qo⟩
    have q := qi g
    walk_at "gs"
    refine ⟨f, a.c_Fold, dx, _, _, rfl, hf.ins, T.cl_Fold, T.na_Fold_many, rfl, ?_⟩
    walk_at "gs"
    refine ⟨m, rfl, hm, ?_⟩
    walk_at "gs"
    refine ⟨f, a.c_Fold, dx, _, _, rfl, hf.ins, T.cl_Fold, T.na_Fold_many, rfl, ?_⟩
    walk_at "gs"
    refine ⟨m, rfl, hm, fun pin H1 s1 f1 a1 => ?_⟩
    rw [nz_GM] at a1
    walk_at "gs"
    refine ⟨f, dx, pl, kl, pin, m, _, fullN m, (MC.inC m).1, es, rfl, hf.same s1, a1, MC.inC_len m, by omega, by omega, hz, hm, hok, fun p H2 n2 => ?_⟩
    have hL : MF.litC (fullN m) (MF.growC (fullN m) (bC m) ((psOf es).take (t / 2 - m).toNat)) t = MF.L (fullN m) (bC m) (psOf es) t := lit_pre g.1 (by rw [len_bC, List.length_map]; omega)
    walk_at "gs"
    refine ⟨p, _, t, fullN m, rfl, .of n2.at_, g.1, ?_, ?_⟩
    · rw [MF.growC_len, len_bC, List.length_take, List.length_map]; omega
    rw [hL]
    exact q H2 (s1.trans n2.same)
def sp_knot_columns (a : Adr) (_ : PySem.W.Frag) : Sp := fun vs H Q _ => ∃ (f dx pl kl : Addr) (m : Nat) (es : List En), vs = [.ref f] ∧ FoldAt a.c_Fold H f m es dx pl kl ∧ es.length ≤ 5000 ∧ m ≤ 10 ∧ MF.Ok m (psOf es) ∧
  ∀ p H', Mad H p (.lst ((MF.growC (fullN m) (bC m) (psOf es)).map nz)) H' → Q (.ref p) H'
def rd_knot_columns (a : Adr) (K : PySem.W.Frag) : TS := (tRet (tCall (sp_lit_knots a K) [] E0 (tCons (cVar 0) (tCons (tOp (cI2 fun i j => .int (i - j)) (tMeth a.c_Fold "total" (sp_Fold_total a K) [] E0 (cVar 0) tNil) (tC (.int 1))) (tCons (tCall (sp_input_columns K) [] E0 (tCons (tFld K (cVar 0) "many") tNil)) (tCons (tCall (sp_full_column K) [] E0 (tCons (tFld K (cVar 0) "many") tNil)) tNil))))))
theorem tm_knot_columns {P : Program} {w : World} {K : PySem.W.Frag} {mg : Str → Option Value} {base : Heap} {a : Adr} (T : Txt K mg a) {cdv : Value} {A : Around} {outer : List Env} {s : Shared} {H : Hp} {E : XK} (hr : Room 3 (A.deeper (envOfC "knot_columns" (defScope s_knot_columns) s.heap.objs.size a.f_knot_columns cdv))) :
    PSs (cxOf CX0 P w K mg base N_knot_columns "knot_columns" (defScope s_knot_columns) a.f_knot_columns cdv A outer s H E).nox (defBody s_knot_columns) (rd_knot_columns a K) :=
  (pss_one (ps_ret (pe_call (ok_lit_knots T) (hr.mono (by decide)) rfl T.mg_lit_knots T.fn_lit_knots.kp T.bi_lit_knots .nil pass0 (pa_cons (cv 0) (pa_cons (pe_op o_sub (pe_meth0 (cv 0) T.cl_Fold T.me_Fold_total (ok_Fold_total T) (hr.mono (by decide)) T.bi_Fold_total .nil pass0) pe_int) (pa_cons (pe_call (ok_input_columns T) (hr.mono (by decide)) rfl T.mg_input_columns T.fn_input_columns.kp T.bi_input_columns .nil pass0 (pa_cons (pe_fld (cv 0) rfl) pa_nil)) (pa_cons (pe_call (ok_full_column T) (hr.mono (by decide)) rfl T.mg_full_column T.fn_full_column.kp T.bi_full_column .nil pass0 (pa_cons (pe_fld (cv 0) rfl) pa_nil)) pa_nil)))))))
theorem ok_knot_columns {P : Program} {w : World} {K : PySem.W.Frag} {mg : Str → Option Value} {base : Heap} {a : Adr} (T : Txt K mg a) : FnOk P w K mg base CX0 4 a.f_knot_columns a.d_knot_columns ["fold"] (sp_knot_columns a K) := by
  refine T.fn_knot_columns.ok sc_knot_columns (fun vs H Q E h => ?_) (fun cdv A outer s H vs Q E hr h => ⟨_, tm_knot_columns T hr, ?_⟩)
  · obtain ⟨f, dx, pl, kl, m, es, rfl, _⟩ := h; rfl
  · obtain ⟨f, dx, pl, kl, m, es, rfl, hf, hz, hm, hok, q⟩ := h
    show rd_knot_columns a K _ [some (.ref f)] H
    unfold rd_knot_columns
    walk_at "gs"
    refine ⟨f, dx, _, rfl, hf.ins, rfl, f, dx, pl, kl, m, es, rfl, hf, ?_⟩
    walk_at "gs"
    refine ⟨f, a.c_Fold, dx, _, _, rfl, hf.ins, T.cl_Fold, T.na_Fold_many, rfl, ?_⟩
    walk_at "gs"
    refine ⟨m, rfl, hm, fun pin H1 s1 f1 a1 => ?_⟩
    rw [nz_GM] at a1
    walk_at "gs"
    refine ⟨f, a.c_Fold, dx, _, _, rfl, s1 _ _ hf.ins, T.cl_Fold, T.na_Fold_many, rfl, ?_⟩
    walk_at "gs"
    refine ⟨m, rfl, hm, ?_⟩
    walk_at "gs"
    refine ⟨f, dx, pl, kl, pin, m, _, fullN m, (MC.inC m).1, es, rfl, hf.same s1, a1, MC.inC_len m, by omega, by omega, hz, hm, hok, fun p H2 n2 => ?_⟩
    rw [show (1 + (m : Int) + (es.length : Int) - 1 - m).toNat = (psOf es).length by rw [List.length_map]; omega, List.take_length] at n2
    exact q p H2 ⟨s1.nil n2.was, n2.at_, s1.trans n2.same⟩

end K18

set_option maxHeartbeats 4000000
namespace K18
open PySem PySem.Spec PyProof.Rows L2
seal PE PT PS PSs PA PG PGs PI PO PW PTs PPs PK PC PSet PIp OpR UnR CallR IxR SlR MtR MtM tMid
local macro_rules | `(tactic| walk_at "go") => `(tactic| try simp only [tSeq, tAsg, gName, gTup, gCons, gNil, tOp, tC, cVar, cI2, cI2c, cAdd, cMul, cEq, cNe, cBool, cTst, cTru, cChain, tRet, tDrop, tIfS, tIf, tCall, tCons, tNil, tNext, tCB, cLen, cIsinst, cMin, cMax, tNot, tOr, tAnd, tUn, cNeg, tFor_list, tFor_rng1, tFor_rng2, tComp_list, tComp_rng1, cRef, cInt1, cInt2, cIx, tSl, cSlU, cPart, tNoPart, tLst_n, tTup_n, cList_n, tDGet, tDNotIn, sDPut, tBM, tBM0, tMake, tMeth, tFld, sFld, tyV, tRaise, tTry, tHd, tNoH, tCallX, tUnf, tFor_dT, tComp_dT, cLenT, tDNewT_n, List.append_nil, List.cons_append, List.nil_append, List.getElem?_cons_zero, List.getElem?_cons_succ, List.set_cons_zero, List.set_cons_succ, decide_eq_true_eq, if_true, if_false, Bool.false_eq_true, eq_self, decide_true, decide_false, Bool.not_true, Bool.not_false, Bool.not_eq_true', decide_eq_false_iff_not, Bool.and_true, Bool.true_and])
local macro_rules | `(tactic| walk_at "sd") => `(tactic| first | exact And.intro (by decide) (by decide) | decide | omega | exact Or.inl (And.intro (by omega) (by omega)) | exact Or.inr (And.intro (by omega) (by omega)) | exact And.intro (by omega) (And.intro (by omega) (by decide)) | exact And.intro (by omega) (by omega))
local macro_rules | `(tactic| walk_at "gs") => `(tactic| (walk_at "go"; repeat (first | (refine And.intro (by walk_at "sd") ?_; walk_at "go"))))
/-! the law -/
def sp_law_cell_at (K : PySem.W.Frag) : Sp := fun vs H Q _ => ∃ (p : Addr) (ns : List Int) (k : Nat), vs = [.ref p, .int k] ∧ SqL K H p (ns.map V.int) ∧ ∀ c, Q (.int c) H
def rd_law_cell_at (K : PySem.W.Frag) : TS := (tSeq (tIfS (cTst (tOp (cI2 fun i j => .bl (decide (i < j))) (cVar 1) (tCB (cLen K) (tCons (cVar 0) tNil)))) (tRet (tOp (cIx K) (cVar 0) (cVar 1))) tNext)
    (tRet (tC (.int 0))))
theorem tm_law_cell_at {P : Program} {w : World} {K : PySem.W.Frag} {mg : Str → Option Value} {base : Heap} {a : Adr} (T : Txt K mg a) {cdv : Value} {A : Around} {outer : List Env} {s : Shared} {H : Hp} {E : XK} (hr : Room 0 (A.deeper (envOfC "_law_cell_at" (defScope s_law_cell_at) s.heap.objs.size a.f_law_cell_at cdv))) :
    PSs (cxOf CX0 P w K mg base N_law_cell_at "_law_cell_at" (defScope s_law_cell_at) a.f_law_cell_at cdv A outer s H E).nox (defBody s_law_cell_at) (rd_law_cell_at K) :=
  (pss_cons (ps_if (t_cmp o_lt (cv 1) (pe_callB c_len (by rfl) T.no_len PySem.boot_len (pa_cons (cv 0) pa_nil)) (nomark _)) (pss_one (ps_ret (pe_ix i_seq (cv 0) (cv 1) (fun _ _ => rfl)))) pss_nil)
      (pss_one (ps_ret pe_int)))
theorem ok_law_cell_at {P : Program} {w : World} {K : PySem.W.Frag} {mg : Str → Option Value} {base : Heap} {a : Adr} (T : Txt K mg a) : FnOk P w K mg base CX0 1 a.f_law_cell_at a.d_law_cell_at ["_law_script", "_law_k"] (sp_law_cell_at K) := by
  refine T.fn_law_cell_at.ok sc_law_cell_at (fun vs H Q E h => ?_) (fun cdv A outer s H vs Q E hr h => ⟨_, tm_law_cell_at T hr, ?_⟩)
  · obtain ⟨p, ns, k, rfl, _⟩ := h; rfl
  · obtain ⟨p, ns, k, rfl, hS, q⟩ := h
    show rd_law_cell_at K _ [some (.ref p), some (.int k)] H
    unfold rd_law_cell_at
    walk_at "go"
    refine .inl ⟨_, .inl hS, ?_⟩
    rw [List.length_map]
    by_cases h : (k : Int) < ns.length
    · rw [if_pos h]
      exact ixI hS (by omega) h (q _)
    · rw [if_neg h]
      exact q 0
def Un1 (bd : Addr) (H H' : Hp) : Prop := ∀ b o, b ≠ bd → H b = some o → H' b = some o
theorem Un1.trans {bd : Addr} {H H' H1 : Hp} (u : Un1 bd H H') (v : Un1 bd H' H1) : Un1 bd H H1 := fun b o n e => v b o n (u b o n e)
theorem un1_of {bd : Addr} {H H' : Hp} (s : Same H H') : Un1 bd H H' := fun b o _ e => s b o e
theorem FoldAt_un1 {C : Addr} {H H' : Hp} {f dx pl kl bd : Addr} {m : Int} {es : List En} {kv : List (List Key × V)} (h : FoldAt C H f m es dx pl kl) (hb : H bd = some (.dT kv)) (n : kl ≠ bd) (u : Un1 bd H H') : FoldAt C H' f m es dx pl kl :=
  ⟨u _ _ (ne_of h.ins hb (fun z => nomatch z)) h.ins, u _ _ (ne_of h.prs.lst hb (fun z => nomatch z)) h.prs.lst, u _ _ n h.prs.dct, fun e he => u _ _ (ne_of (h.prs.tup e he) hb (fun z => nomatch z)) (h.prs.tup e he)⟩
def sp_law_both (_ : PySem.W.Frag) : Sp := fun vs H Q _ => ∃ (bd : Addr) (m s t : Int) (ps : List MF.Pr), vs = [.ref bd, .int m, .int s, .int t] ∧ H bd = some (.dT (kvF (m + 1) ps)) ∧ 0 ≤ s ∧ 0 ≤ t ∧ ps.length ≤ 5000 ∧
  ∀ H', Un1 bd H H' → H' bd = some (.dT (kvF (m + 1) (MF.bp m ps s t))) → Q (.int (MF.bt m ps s t)) H'
def rd_law_both (K : PySem.W.Frag) : TS := (tSeq (tAsg (tCB cMin (tCons (cVar 2) (tCons (cVar 3) tNil))) (gName 4))
    (tSeq (tAsg (tCB cMax (tCons (cVar 2) (tCons (cVar 3) tNil))) (gName 5))
    (tSeq (tIfS (tOr (cTst (tOp (cEq K) (cVar 4) (tC (.int 0)))) (tAnd (cTst (tOp (cEq K) (tOp (cI2c CDiv fun i j => .int (i / j)) (cVar 4) (tC (.int 2))) (tOp (cI2c CDiv fun i j => .int (i / j)) (cVar 5) (tC (.int 2))))) (cTst (tOp (cNe K) (cVar 4) (cVar 5))))) (tRet (tC (.int 0))) tNext)
    (tSeq (tIfS (tOr (cTst (tOp (cEq K) (cVar 4) (tC (.int 1)))) (cTst (tOp (cEq K) (cVar 4) (cVar 5)))) (tRet (cVar 5)) tNext)
    (tMid (tIfS (cTst (tDNotIn (tTup (tCons (cVar 4) (tCons (cVar 5) tNil))) (cVar 0))) (sDPut (cVar 0) (tTup (tCons (cVar 4) (tCons (cVar 5) tNil))) (tOp cAdd (tOp cAdd (cVar 1) (tC (.int 1))) (tCB (cLenT K) (tCons (cVar 0) tNil)))) tNext)
    (tRet (tOp cMul (tC (.int 2)) (tDGet (cVar 0) (tTup (tCons (cVar 4) (tCons (cVar 5) tNil)))))))))))
theorem tm_law_both {P : Program} {w : World} {K : PySem.W.Frag} {mg : Str → Option Value} {base : Heap} {a : Adr} (T : Txt K mg a) {cdv : Value} {A : Around} {outer : List Env} {s : Shared} {H : Hp} {E : XK} (hr : Room 0 (A.deeper (envOfC "_law_both" (defScope s_law_both) s.heap.objs.size a.f_law_both cdv))) :
    PSs (cxOf CX0 P w K mg base N_law_both "_law_both" (defScope s_law_both) a.f_law_both cdv A outer s H E).nox (defBody s_law_both) (rd_law_both K) :=
  (pss_cons (ps_set (i := 4) sc_law_both.nd rfl (by first | exact Or.inl rfl | exact Or.inr rfl) (pe_callB (c_min rfl) (by rfl) T.no_min PyProof.Rows.boot_min (pa_cons (cv 2) (pa_cons (cv 3) pa_nil))))
      (pss_cons (ps_set (i := 5) sc_law_both.nd rfl (by first | exact Or.inl rfl | exact Or.inr rfl) (pe_callB (c_max rfl) (by rfl) T.no_max PyProof.Rows.boot_max (pa_cons (cv 2) (pa_cons (cv 3) pa_nil))))
      (pss_cons (ps_if (PW.pt (pw_or (t_cmp (o_eq (hr8 hr)) (cv 4) pe_int (nomark _)) (pw_or1 (PW.pt (pw_and (t_cmp (o_eq (hr8 hr)) (pe_op o_fdiv (cv 4) pe_int) (pe_op o_fdiv (cv 5) pe_int) (nomark _)) (pw_and1 (t_cmp (o_ne (hr8 hr)) (cv 4) (cv 5) (nomark _)))))))) (pss_one (ps_ret pe_int)) pss_nil)
      (pss_cons (ps_if (PW.pt (pw_or (t_cmp (o_eq (hr8 hr)) (cv 4) pe_int (nomark _)) (pw_or1 (t_cmp (o_eq (hr8 hr)) (cv 4) (cv 5) (nomark _))))) (pss_one (ps_ret (cv 5))) pss_nil)
      (pss_mid (ps_if (t_pc (pc_dnotin (hu_of hr) (pe_tup (pa_cons (cv 4) (pa_cons (cv 5) pa_nil))) (cv 0))) (pss_one (ps_dput (hu_of hr) (cv 0) (pe_tup (pa_cons (cv 4) (pa_cons (cv 5) pa_nil))) (pe_op o_add (pe_op o_add (cv 1) pe_int) (pe_callB c_lenT (by rfl) T.no_len PySem.boot_len (pa_cons (cv 0) pa_nil))) rfl)) pss_nil)
      (pss_one (ps_ret (pe_op o_mul pe_int (pe_dget (hu_of hr) (cv 0) (pe_tup (pa_cons (cv 4) (pa_cons (cv 5) pa_nil))) (fun _ _ => rfl))))))))))
theorem ok_law_both {P : Program} {w : World} {K : PySem.W.Frag} {mg : Str → Option Value} {base : Heap} {a : Adr} (T : Txt K mg a) : FnOk P w K mg base CX0 1 a.f_law_both a.d_law_both ["_law_pairs", "_law_many", "_law_one", "_law_other"] (sp_law_both K) := by
  refine T.fn_law_both.ok sc_law_both (fun vs H Q E h => ?_) (fun cdv A outer s H vs Q E hr h => ⟨_, tm_law_both T hr, ?_⟩)
  · obtain ⟨bd, m, s, t, ps, rfl, _⟩ := h; rfl
  · obtain ⟨bd, m, x, y, ps, rfl, hB, hx, hy, hz, q⟩ := h
    show rd_law_both K _ [some (.ref bd), some (.int m), some (.int x), some (.int y), none, none] H
    unfold rd_law_both
    have big : (6000 : Nat) ≤ sizeLine := by decide
    walk_at "go"
    have q' := q
    unfold MF.bt MF.bp MF.sure at q'
    have e1 : (if y < x then y else x) = MF.lo x y := rfl
    have e2 : (if y > x then y else x) = MF.hi x y := rfl
    rw [e1, e2]
    have hlh := MF.lo_le_hi x y
    have hl0 : 0 ≤ MF.lo x y := by unfold MF.lo; split <;> omega
    generalize hlo : MF.lo x y = l at *
    generalize hhi : MF.hi x y = g at *
    by_cases h1 : l = 0
    · rw [if_pos h1] at q' ⊢
      exact q' H (un1_of (Same.refl _)) hB
    rw [if_neg h1] at q' ⊢
    have htn : l = MF.tn g ↔ (l / 2 = g / 2 ∧ l ≠ g) := by unfold MF.tn; split <;> omega
    refine ⟨⟨by decide, by decide⟩, ⟨by decide, by decide⟩, ?_⟩
    by_cases h4 : l / 2 = g / 2 ∧ l ≠ g
    · rw [if_pos h4.1, if_pos h4.2]
      have h2 : ¬ (l = 1 ∨ l = g) := fun z => by rcases z with z | z <;> omega
      rw [if_neg h2, if_pos (htn.mpr h4)] at q'
      exact q' H (un1_of (Same.refl _)) hB
    have rest : ∀ (P1 P2 : Prop), (¬ (l / 2 = g / 2 ∧ l ≠ g) → P2) → (if l / 2 = g / 2 then (if l ≠ g then P1 else P2) else P2) := fun P1 P2 hp => by
      by_cases a1 : l / 2 = g / 2
      · rw [if_pos a1]
        by_cases a2 : l ≠ g
        · exact absurd ⟨a1, a2⟩ h4
        · rw [if_neg a2]; exact hp h4
      · rw [if_neg a1]; exact hp h4
    refine rest _ _ fun _ => ?_
    by_cases h2 : l = 1 ∨ l = g
    · rw [if_pos h2] at q'
      have fin := q' H (un1_of (Same.refl _)) hB
      by_cases h3 : l = 1
      · rw [if_pos h3]; exact fin
      · rw [if_neg h3, if_pos (h2.resolve_left h3)]; exact fin
    rw [if_neg h2, if_neg (fun z => h4 (htn.mp z))] at q'
    rw [if_neg (fun z => h2 (.inl z)), if_neg (fun z => h2 (.inr z))]
    refine mid (fun σ' H' => σ' = [some (.ref bd), some (.int m), some (.int x), some (.int y), some (.int l), some (.int g)] ∧ Un1 bd H H' ∧ H' bd = some (.dT (kvF (m + 1) (MF.kp m ps (l, g)))) ∧ MF.fnd (m + 1) (MF.kp m ps (l, g)) (l, g) = some (MF.kn m ps (l, g))) ?_ ?_
    · intro N hN
      walk_at "go"
      refine ⟨by show 2 ≤ sizeLine; decide, fun t1 H1 n1 => ?_⟩
      refine ⟨bd, _, rfl, DGet.t (k := knK (l, g)) (n1.same _ _ hB) n1.at_, ?_⟩
      rw [val_kvF]
      cases hfd : MF.fnd (m + 1) ps (l, g) with
      | some i =>
        walk_at "go"
        have ek : MF.kp m ps (l, g) = ps := by unfold MF.kp; rw [hfd]; rfl
        refine hN _ _ ⟨rfl, un1_of n1.same, by rw [ek]; exact n1.same _ _ hB, ?_⟩
        rw [ek, hfd]; unfold MF.kn; rw [hfd]; rfl
      | none =>
        walk_at "go"
        refine ⟨_, .inl (n1.same _ _ hB), ?_⟩
        rw [len_kvF]
        walk_at "go"
        refine ⟨by show 2 ≤ sizeLine; decide, fun t2 H2 n2 => ?_⟩
        refine ⟨bd, _, rfl, DPut.t (k := knK (l, g)) (n2.same _ _ (n1.same _ _ hB)) n2.at_ (by rw [len_kvF]; omega), ?_⟩
        rw [put_kvF hfd]
        have ek : MF.kp m ps (l, g) = ps ++ [(l, g)] := by unfold MF.kp; rw [hfd]; rfl
        refine hN _ _ ⟨rfl, fun b o n e => by rw [upd_ne n]; exact n2.same _ _ (n1.same _ _ e), by rw [ek]; exact upd_same, ?_⟩
        rw [ek]
        unfold MF.kn
        rw [hfd]
        exact MF.fnd_snoc hfd
    · rintro σ' H' ⟨rfl, u, hB', hfd⟩
      walk_at "go"
      refine ⟨by show 2 ≤ sizeLine; decide, fun t4 H4 n4 => ?_⟩
      refine ⟨bd, .int (MF.kn m ps (l, g)), rfl, ?_, .inl ⟨by decide, by decide⟩, q' H4 (u.trans (un1_of n4.same)) (n4.same _ _ hB')⟩
      have := DGet.t (k := knK (l, g)) (n4.same _ _ hB') n4.at_
      rw [val_kvF, hfd] at this
      exact this

def bitsN (lt m : Nat) : List Nat := (List.range m).map fun i => lt / 2 ^ i % 2
theorem len_bits (lt m : Nat) : (bitsN lt m).length = m := by unfold bitsN; rw [List.length_map, List.length_range]
theorem base1 (lt m : Nat) : MF.Base 1 m (0 :: bitsN lt m) := by
  refine ⟨by rw [List.length_cons, len_bits]; omega, rfl, fun c hc => ?_⟩
  rcases List.mem_cons.mp hc with rfl | hc
  · exact MF.sub_zero _
  · obtain ⟨i, _, rfl⟩ := List.mem_map.mp hc
    rcases Nat.mod_two_eq_zero_or_one (lt / 2 ^ i) with e | e <;> rw [e]
    · exact MF.sub_zero _
    · exact fun j h => h
theorem shr_bit (lt i : Nat) : Builtin.bitAnd ((lt : Int) / 2 ^ ((0 : Int) + (i : Int)).toNat) 1 = ((lt / 2 ^ i % 2 : Nat) : Int) := by
  rw [Int.zero_add, Int.toNat_natCast]
  have e : ((lt : Int) / 2 ^ i) = ((lt / 2 ^ i : Nat) : Int) := by simp
  rw [e, show (1 : Int) = ((1 : Nat) : Int) from rfl, and_nat, Nat.and_one_is_mod]
theorem sub_one {x : Nat} (h : MF.Sub 1 x) : x = 0 ∨ x = 1 := by
  have key : ∀ j, x.testBit (j + 1) = false := fun j => by
    cases e : x.testBit (j + 1) with
    | false => rfl
    | true =>
      have := h _ e
      rw [show (1 : Nat) = 2 ^ 0 from rfl, Nat.testBit_two_pow] at this
      simp at this
  have h2 : x / 2 = 0 := by
    apply Nat.eq_of_testBit_eq
    intro j
    rw [Nat.testBit_div_two, key j, Nat.zero_testBit]
  omega
theorem kvF_at : ∀ (n : Int) (ps : List MF.Pr) (i : Nat) (x : List Key × V), (kvF n ps)[i]? = some x → ∃ p, ps[i]? = some p ∧ x = (knK p, .int (n + i))
  | n, [], i, x, h => by simp [kvF] at h
  | n, q :: r, 0, x, h => by
    have : (knK q, V.int n) = x := by simpa [kvF] using h
    exact ⟨q, rfl, by rw [← this]; simp⟩
  | n, q :: r, i + 1, x, h => by
    obtain ⟨p, h1, h2⟩ := kvF_at (n + 1) r i x (by simpa [kvF] using h)
    exact ⟨p, by simpa using h1, by rw [h2]; congr 2; omega⟩
theorem lit_I {cs : List Nat} (h : MF.AllSub 1 cs) (t : Int) : ((cs.getD (t / 2).toNat 0 : Nat) + t : Int) % 2 = ((MF.litC 1 cs t : Nat) : Int) := by
  unfold MF.litC
  rcases sub_one (h.getD (t / 2).toNat) with e | e <;> rw [e] <;> by_cases h1 : t % 2 = 1
  · rw [if_pos h1]; show _ = (1 : Int); omega
  · rw [if_neg h1]; omega
  · rw [if_pos h1]; show _ = (0 : Int); omega
  · rw [if_neg h1]; omega
theorem mul_I {x y : Nat} (hx : x = 0 ∨ x = 1) (hy : y = 0 ∨ y = 1) : (x : Int) * (y : Int) = ((x &&& y : Nat) : Int) := by
  rcases hx with rfl | rfl <;> rcases hy with rfl | rfl <;> rfl
def sp_law_lights (_ : PySem.W.Frag) : Sp := fun vs H Q _ => ∃ (bd : Addr) (m lt : Nat) (ps : List MF.Pr), vs = [.ref bd, .int m, .int lt] ∧ H bd = some (.dT (kvF (m + 1) ps)) ∧ MF.Ok m ps ∧ ps.length ≤ 5000 ∧ m ≤ 10 ∧
  ∀ p H', Mad H p (.lst ((MF.growC 1 (0 :: bitsN lt m) ps).map nz)) H' → Q (.ref p) H'
def rd_law_lights (K : PySem.W.Frag) : TS := (tSeq (tAsg (tLst (tCons (tC (.int 0)) tNil)) (gName 3))
    (tSeq (tFor (iRng1 (tCons (cVar 1) tNil)) (gName 4) (tDrop (tBM K "list" rAppend (cVar 3) (tCons (tOp (cI2 fun i j => .int (Builtin.bitAnd i j)) (tOp (cI2c (fun _ j => 0 ≤ j) fun i j => .int (i / 2 ^ j.toNat)) (cVar 2) (cVar 4)) (tC (.int 1))) tNil))))
    (tSeq (tUnf (tFor (iDT (cVar 0)) (gTup K 2 (gCons (gName 5) (gCons (gName 6) gNil))) (tSeq (tAsg (tOp (cI2c (fun _ j => 0 < j) fun i j => .int (i % j)) (tOp cAdd (tOp (cIx K) (cVar 3) (tOp (cI2c CDiv fun i j => .int (i / j)) (cVar 5) (tC (.int 2)))) (cVar 5)) (tC (.int 2))) (gName 7))
    (tDrop (tBM K "list" rAppend (cVar 3) (tCons (tOp cMul (cVar 7) (tOp (cI2c (fun _ j => 0 < j) fun i j => .int (i % j)) (tOp cAdd (tOp (cIx K) (cVar 3) (tOp (cI2c CDiv fun i j => .int (i / j)) (cVar 6) (tC (.int 2)))) (cVar 6)) (tC (.int 2)))) tNil))))))
    (tRet (cVar 3)))))
theorem tm_law_lights {P : Program} {w : World} {K : PySem.W.Frag} {mg : Str → Option Value} {base : Heap} {a : Adr} (T : Txt K mg a) {cdv : Value} {A : Around} {outer : List Env} {s : Shared} {H : Hp} {E : XK} (hr : Room 0 (A.deeper (envOfC "_law_lights" (defScope s_law_lights) s.heap.objs.size a.f_law_lights cdv))) :
    PSs (cxOf CX0 P w K mg base N_law_lights "_law_lights" (defScope s_law_lights) a.f_law_lights cdv A outer s H E).nox (defBody s_law_lights) (rd_law_lights K) :=
  (pss_cons (ps_set (i := 3) sc_law_lights.nd rfl (by first | exact Or.inl rfl | exact Or.inr rfl) (pe_lst (pa_cons pe_int pa_nil)))
      (pss_cons (ps_for PassesOwn.never rfl (pi_range1 rfl T.no_range (pa_cons (cv 1) pa_nil)) (pg_name (i := 4) sc_law_lights.nd rfl (by first | exact Or.inl rfl | exact Or.inr rfl)) (pss_one (ps_expr (pe_bm PySem.F.plainAttrs_list PySem.F.slot_list_append PySem.F.type_list_append (mtr mt_append) (cv 3) (pa_cons (pe_op o_and (pe_op o_shr (cv 2) (cv 4)) pe_int) pa_nil)))))
      (pss_cons (ps_unf (ps_for PassesOwn.never rfl (pi_dT (cv 0)) (pg_tup rfl (pgs_cons (pg_name (i := 5) sc_law_lights.nd rfl (by first | exact Or.inl rfl | exact Or.inr rfl)) (pgs_cons (pg_name (i := 6) sc_law_lights.nd rfl (by first | exact Or.inl rfl | exact Or.inr rfl)) pgs_nil))) (pss_cons (ps_set (i := 7) sc_law_lights.nd rfl (by first | exact Or.inl rfl | exact Or.inr rfl) (pe_op o_mod (pe_op o_add (pe_ix i_seq (cv 3) (pe_op o_fdiv (cv 5) pe_int) (fun _ _ => rfl)) (cv 5)) pe_int))
      (pss_one (ps_expr (pe_bm PySem.F.plainAttrs_list PySem.F.slot_list_append PySem.F.type_list_append (mtr mt_append) (cv 3) (pa_cons (pe_op o_mul (cv 7) (pe_op o_mod (pe_op o_add (pe_ix i_seq (cv 3) (pe_op o_fdiv (cv 6) pe_int) (fun _ _ => rfl)) (cv 6)) pe_int)) pa_nil)))))))
      (pss_one (ps_ret (cv 3))))))
theorem ok_law_lights {P : Program} {w : World} {K : PySem.W.Frag} {mg : Str → Option Value} {base : Heap} {a : Adr} (T : Txt K mg a) : FnOk P w K mg base CX0 1 a.f_law_lights a.d_law_lights ["_law_pairs", "_law_many", "_law_lighting"] (sp_law_lights K) := by
  refine T.fn_law_lights.ok sc_law_lights (fun vs H Q E h => ?_) (fun cdv A outer s H vs Q E hr h => ⟨_, tm_law_lights T hr, ?_⟩)
  · obtain ⟨bd, m, lt, ps, rfl, _⟩ := h; rfl
  · obtain ⟨bd, m, lt, ps, rfl, hB, hok, hz, hm, q⟩ := h
    show rd_law_lights K _ [some (.ref bd), some (.int m), some (.int lt), none, none, none, none, none] H
    unfold rd_law_lights
    have big : (10000 : Nat) ≤ sizeLine := by decide
    walk_at "gs"
    intro p H1 n1
    walk_at "gs"
    rw [Int.toNat_natCast]
    refine for_rngG (fun i σ H2 => Same H H2 ∧ H2 p = some (.lst ((0 :: (bitsN lt m).take i).map nz)) ∧ ∃ v4, σ = [some (.ref bd), some (.int m), some (.int lt), some (.ref p), v4, none, none, none]) ⟨n1.same, n1.at_, _, rfl⟩ ?_ ?_
    · rintro i σ H2 hi ⟨s2, a2, v4, rfl⟩
      have hbi : (bitsN lt m)[i]? = some (lt / 2 ^ i % 2) := by unfold bitsN; rw [List.getElem?_map, List.getElem?_range hi]; rfl
      walk_at "gs"
      refine ⟨.inl ⟨by trivial, _, .of a2⟩, ?_⟩
      walk_at "gs"
      rw [shr_bit]
      refine ⟨p, _, _, rfl, rfl, a2, by simp only [List.length_map, List.length_cons, List.length_take, len_bits]; omega, s2.put n1.was, ?_, _, rfl⟩
      rw [upd_same, List.take_add_one, hbi, List.map_cons, List.map_cons, List.map_append]
      rfl
    · rintro σ H2 ⟨s2, a2, v4, rfl⟩
      rw [List.take_of_length_le (by rw [len_bits]; exact Nat.le_refl _)] at a2
      have b2 := s2 _ _ hB
      walk_at "gs"
      refine ⟨bd, _, b2, bd, _, rfl, b2, fun o => ?_⟩
      have npb : p ≠ bd := (ne_of_none hB n1.was).symm
      refine for_dG (fun i σ H3 => (∀ b u, b ≠ bd → H b = some u → H3 b = some u) ∧ H3 bd = some (.frz o (.dT (kvF (m + 1) ps))) ∧ H3 p = some (.lst ((MF.growC 1 (0 :: bitsN lt m) (ps.take i)).map nz)) ∧ ∃ v4 v5 v6 v7, σ = [some (.ref bd), some (.int m), some (.int lt), some (.ref p), v4, v5, v6, v7]) ⟨fun b u n e => by rw [upd_ne n]; exact s2 _ _ e, upd_same, by rw [upd_ne npb]; exact a2, _, _, _, _, rfl⟩ ?_ ?_ ?_
      · rintro i σ H3 _ ⟨_, h, _⟩
        exact h
      · rintro i x b σ H3 hx hb ⟨u3, b3, a3, v4, v5, v6, v7, rfl⟩
        obtain ⟨pr, hpr, rfl⟩ := kvF_at _ _ _ _ hx
        have hi : i < ps.length := (List.getElem?_eq_some_iff.mp hpr).1
        obtain ⟨o1, o2, o3, o4⟩ := hok _ _ hpr
        have hb' : H3 b = some (.tup [.int pr.1, .int pr.2]) := hb
        have hsub := (base1 lt m).sub.grow (ps.take i)
        have hlk : (MF.growC 1 (0 :: bitsN lt m) (ps.take i)).length = m + 1 + i := by
          rw [MF.growC_len, List.length_take, List.length_cons, len_bits]; omega
        have hgr : MF.growC 1 (0 :: bitsN lt m) (ps.take (i + 1)) = MF.growC 1 (0 :: bitsN lt m) (ps.take i) ++ [MF.litC 1 (MF.growC 1 (0 :: bitsN lt m) (ps.take i)) pr.1 &&& MF.litC 1 (MF.growC 1 (0 :: bitsN lt m) (ps.take i)) pr.2] := by
          rw [List.take_add_one, hpr]
          show MF.growC 1 _ (ps.take i ++ [pr]) = _
          rw [MF.growC_app]; rfl
        rw [hgr]
        generalize MF.growC 1 (0 :: bitsN lt m) (ps.take i) = cs at *
        have hl := lit_I hsub pr.1
        have hr := lit_I hsub pr.2
        have hm2 := mul_I (sub_one (hsub.lit pr.1)) (sub_one (hsub.lit pr.2))
        walk_at "gs"
        refine ⟨b, _, rfl, .of hb', rfl, _, _, rfl, _, _, rfl, rfl, ?_⟩
        walk_at "gs"
        refine ⟨_, _, .inl (.of a3), at_nz (by omega) (by omega), ?_⟩
        walk_at "gs"
        refine ⟨.inl ⟨by trivial, _, .of a3⟩, ?_⟩
        walk_at "gs"
        refine ⟨_, _, .inl (.of a3), at_nz (by omega) (by omega), ?_⟩
        walk_at "gs"
        rw [hl, hr, hm2]
        refine ⟨p, _, _, rfl, rfl, a3, by rw [List.length_map]; omega, fun b u n e => by rw [upd_ne (ne_of_none e n1.was)]; exact u3 b u n e, by rw [upd_ne npb.symm]; exact b3, ?_, _, _, _, _, rfl⟩
        rw [upd_same, List.map_append]
        rfl
      · rintro σ H3 ⟨u3, b3, a3, v4, v5, v6, v7, rfl⟩
        rw [len_kvF, List.take_length] at a3
        refine ⟨⟨o, b3⟩, ?_⟩
        walk_at "gs"
        refine q p _ ⟨n1.was, by rw [upd_ne npb]; exact a3, fun b u e => ?_⟩
        by_cases hb : b = bd
        · rw [hb, upd_same, ← hB, ← e, hb]
        · rw [upd_ne hb]; exact u3 b u hb e

/-! columns and lights -/
theorem full_bit {m j : Nat} (h : j < 2 ^ m) : (fullN m).testBit j = true := by
  unfold fullN
  rw [Nat.testBit_two_pow_sub_one]
  exact decide_eq_true h
theorem lit_bit {F j : Nat} {cs ds : List Nat} (hF : F.testBit j = true) (hd : MF.AllSub 1 ds) (h : ∀ i, (cs.getD i 0).testBit j = decide (ds.getD i 0 = 1)) (t : Int) : (MF.litC F cs t).testBit j = decide (MF.litC 1 ds t = 1) := by
  unfold MF.litC
  by_cases ht : t % 2 = 1
  · rw [if_pos ht, if_pos ht, Nat.testBit_xor, hF, h]
    rcases sub_one (hd.getD (t / 2).toNat) with e | e <;> rw [e] <;> rfl
  · rw [if_neg ht, if_neg ht, h]
theorem getD_snoc (xs : List Nat) (x i : Nat) : (xs ++ [x]).getD i 0 = if i < xs.length then xs.getD i 0 else if i = xs.length then x else 0 := by
  simp only [List.getD, List.getElem?_append]
  by_cases h : i < xs.length
  · rw [if_pos h, if_pos h]
  · rw [if_neg h, if_neg h]
    by_cases g : i = xs.length
    · rw [if_pos g, g, Nat.sub_self]; rfl
    · rw [if_neg g, List.getElem?_eq_none (by simp; omega)]; rfl
theorem grow_bit {F j : Nat} (hF : F.testBit j = true) : ∀ (ps : List MF.Pr) (cs ds : List Nat), MF.AllSub 1 ds → cs.length = ds.length → (∀ i, (cs.getD i 0).testBit j = decide (ds.getD i 0 = 1)) → ∀ i, ((MF.growC F cs ps).getD i 0).testBit j = decide ((MF.growC 1 ds ps).getD i 0 = 1)
  | [], cs, ds, _, _, h => h
  | p :: r, cs, ds, hd, hl, h => by
    refine grow_bit hF r _ _ (hd.grow [p]) (by rw [List.length_append, List.length_append, hl]; rfl) fun i => ?_
    rw [getD_snoc, getD_snoc, hl]
    by_cases g : i < ds.length
    · rw [if_pos g, if_pos g]; exact h i
    rw [if_neg g, if_neg g]
    by_cases g2 : i = ds.length
    · rw [if_pos g2, if_pos g2, Nat.testBit_and, lit_bit hF hd h, lit_bit hF hd h]
      rcases sub_one (hd.lit p.1) with e | e <;> rcases sub_one (hd.lit p.2) with e' | e' <;> rw [e, e'] <;> rfl
    · rw [if_neg g2, if_neg g2, Nat.zero_testBit]; rfl
theorem base_bit {m j : Nat} (hj : j < 2 ^ m) (i : Nat) : ((bC m).getD i 0).testBit j = decide ((0 :: bitsN j m).getD i 0 = 1) := by
  cases i with
  | zero => show (0 : Nat).testBit j = _; rw [Nat.zero_testBit]; rfl
  | succ i =>
    show (((MC.inC m).1).getD i 0).testBit j = decide ((bitsN j m).getD i 0 = 1)
    by_cases hi : i < m
    · rw [MC.inC_bit m i j hi hj]
      have hbi : (bitsN j m).getD i 0 = j / 2 ^ i % 2 := by unfold bitsN; simp [List.getD, hi]
      rw [hbi, Nat.testBit_eq_decide_div_mod_eq]
    · have h1 : ((MC.inC m).1).getD i 0 = 0 := by rw [List.getD, List.getElem?_eq_none (by rw [MC.inC_len]; omega)]; rfl
      have h2 : (bitsN j m).getD i 0 = 0 := by rw [List.getD, List.getElem?_eq_none (by rw [len_bits]; omega)]; rfl
      rw [h1, h2, Nat.zero_testBit]; rfl
theorem bit_of {x d j : Nat} (h : x.testBit j = decide (d = 1)) (hd : d = 0 ∨ d = 1) : x / 2 ^ j % 2 = d := by
  rw [Nat.testBit_eq_decide_div_mod_eq] at h
  have h2 := Nat.mod_two_eq_zero_or_one (x / 2 ^ j)
  rcases hd with rfl | rfl <;> rcases h2 with e | e <;> rw [e] at h ⊢ <;> simp_all
theorem col_bit {m j : Nat} (hj : j < 2 ^ m) (ps : List MF.Pr) (i : Nat) : (MF.growC (fullN m) (bC m) ps).getD i 0 / 2 ^ j % 2 = (MF.growC 1 (0 :: bitsN j m) ps).getD i 0 :=
  bit_of (grow_bit (full_bit hj) ps _ _ (base1 j m).sub (by rw [len_bC, List.length_cons, len_bits]) (base_bit hj) i) (sub_one (((base1 j m).sub.grow ps _).getD i))
theorem tie_bit {m j : Nat} (hj : j < 2 ^ m) (ps : List MF.Pr) (t : Int) : MF.L (fullN m) (bC m) ps t / 2 ^ j % 2 = MF.L 1 (0 :: bitsN j m) ps t :=
  bit_of (lit_bit (full_bit hj) ((base1 j m).sub.grow ps _) (grow_bit (full_bit hj) ps _ _ (base1 j m).sub (by rw [len_bC, List.length_cons, len_bits]) (base_bit hj)) t) (sub_one (((base1 j m).sub.grow ps _).lit t))
theorem shr_int (x j : Nat) : Builtin.bitAnd ((x : Int) / 2 ^ ((j : Int)).toNat) 1 = ((x / 2 ^ j % 2 : Nat) : Int) := by
  have := shr_bit x j
  rw [Int.zero_add] at this
  exact this
theorem col_lt (m : Nat) (ps : List MF.Pr) : ∀ c ∈ MF.growC (fullN m) (bC m) ps, c < 2 ^ 2 ^ m := fun c hc => full_sub (((baseC m).sub.grow ps _) c hc)
theorem tie_lt (m : Nat) (ps : List MF.Pr) (t : Int) : MF.L (fullN m) (bC m) ps t < 2 ^ 2 ^ m := full_sub (((baseC m).sub.grow ps _).lit t)
def sp_law_is_column (_ : PySem.W.Frag) : Sp := fun vs H Q _ => ∃ c m : Nat, vs = [.int c, .int m] ∧ m ≤ 10 ∧ c < 2 ^ 2 ^ m ∧ Q (.bl true) H
def rd_law_is_column (K : PySem.W.Frag) : TS := (tSeq (tIfS (tOr (tNot (cTru K (tCB (cIsinst K) (tCons (cVar 0) (tCons (tC (.ty "int")) tNil))))) (cTru K (tCB (cIsinst K) (tCons (cVar 0) (tCons (tC (.ty "bool")) tNil))))) (tRet (tC (.bl false))) tNext)
    (tRet (cChain (cI2 fun i j => .bl (decide (i ≤ j))) (cI2 fun i j => .bl (decide (i < j))) (tC (.int 0)) (cVar 0) (tOp (cI2c CPow fun i j => .int (i * 2 ^ j.toNat)) (tC (.int 1)) (tOp (cI2c CPow fun i j => .int (i * 2 ^ j.toNat)) (tC (.int 1)) (cVar 1))))))
theorem tm_law_is_column {P : Program} {w : World} {K : PySem.W.Frag} {mg : Str → Option Value} {base : Heap} {a : Adr} (T : Txt K mg a) {cdv : Value} {A : Around} {outer : List Env} {s : Shared} {H : Hp} {E : XK} (hr : Room 0 (A.deeper (envOfC "_law_is_column" (defScope s_law_is_column) s.heap.objs.size a.f_law_is_column cdv))) :
    PSs (cxOf CX0 P w K mg base N_law_is_column "_law_is_column" (defScope s_law_is_column) a.f_law_is_column cdv A outer s H E).nox (defBody s_law_is_column) (rd_law_is_column K) :=
  (pss_cons (ps_if (PW.pt (pw_or (pt_not (pt_tru (pe_callB c_isinst (by rfl) T.no_isinstance PyProof.Rows.boot_isinstance (pa_cons (cv 0) (pa_cons (pe_bltn (v := .ty "int") rfl T.no_int PyProof.Rows.boot_int rfl) pa_nil))))) (pw_or1 (pt_tru (pe_callB c_isinst (by rfl) T.no_isinstance PyProof.Rows.boot_isinstance (pa_cons (cv 0) (pa_cons (pe_bltn (v := .ty "bool") rfl T.no_bool PyProof.Rows.boot_bool rfl) pa_nil))))))) (pss_one (ps_ret pe_bl)) pss_nil)
      (pss_one (ps_ret (e_chain o_le o_lt pe_int (cv 0) (pe_op o_shl pe_int (pe_op o_shl pe_int (cv 1)))))))
theorem ok_law_is_column {P : Program} {w : World} {K : PySem.W.Frag} {mg : Str → Option Value} {base : Heap} {a : Adr} (T : Txt K mg a) : FnOk P w K mg base CX0 1 a.f_law_is_column a.d_law_is_column ["_law_found", "_law_many"] (sp_law_is_column K) := by
  refine T.fn_law_is_column.ok sc_law_is_column (fun vs H Q E h => ?_) (fun cdv A outer s H vs Q E hr h => ⟨_, tm_law_is_column T hr, ?_⟩)
  · obtain ⟨c, m, rfl, _⟩ := h; rfl
  · obtain ⟨c, m, rfl, m10, hc, q⟩ := h
    show rd_law_is_column K _ [some (.int c), some (.int m)] H
    unfold rd_law_is_column
    have hp10 : (2 : Nat) ^ m ≤ 2 ^ 10 := Nat.pow_le_pow_right (by decide) m10
    have ec : (1 * 2 ^ ((m : Int)).toNat : Int) = ((2 ^ m : Nat) : Int) := by simp
    have ef : (1 * 2 ^ (((2 ^ m : Nat) : Int)).toNat : Int) = ((2 ^ 2 ^ m : Nat) : Int) := by
      have := shl_val 1 (2 ^ m)
      rw [show ((1 : Nat) : Int) = 1 from rfl] at this
      rw [this, Nat.one_mul]
    have cp : CPow 1 ((2 ^ m : Nat) : Int) := by
      generalize 2 ^ m = N at hp10
      exact ⟨by omega, by omega, by decide⟩
    walk_at "gs"
    refine ⟨_, true, .int _, rfl, ?_⟩
    walk_at "gs"
    refine ⟨_, false, .int _, rfl, ?_⟩
    walk_at "gs"
    rw [ec, ef, decide_eq_true (show ((c : Nat) : Int) < ((2 ^ 2 ^ m : Nat) : Int) by exact_mod_cast hc)]
    exact ⟨cp, q⟩
def sp_law_knots (K : PySem.W.Frag) : Sp := fun vs H Q _ => ∃ (p : Addr) (cs : List Nat) (m : Nat) (n : Int), vs = [.ref p, .int m, .int n] ∧ H p = some (.lst (cs.map nz)) ∧ (cs.length : Int) = n ∧ m ≤ 10 ∧ (∀ c ∈ cs, c < 2 ^ 2 ^ m) ∧ Q (.bl true) H
def rd_law_knots (K : PySem.W.Frag) : TS := (tSeq (tIfS (tOr (tNot (cTru K (tCB (cIsinst K) (tCons (cVar 0) (tCons (tC (.ty "list")) tNil))))) (cTst (tOp (cNe K) (tCB (cLen K) (tCons (cVar 0) tNil)) (cVar 2)))) (tRet (tC (.bl false))) tNext)
    (tSeq (tFor (iList K (cVar 0)) (gName 3) (tIfS (tNot (cTru K (tCall (sp_law_is_column K) [] E0 (tCons (cVar 3) (tCons (cVar 1) tNil))))) (tRet (tC (.bl false))) tNext))
    (tRet (tC (.bl true)))))
theorem tm_law_knots {P : Program} {w : World} {K : PySem.W.Frag} {mg : Str → Option Value} {base : Heap} {a : Adr} (T : Txt K mg a) {cdv : Value} {A : Around} {outer : List Env} {s : Shared} {H : Hp} {E : XK} (hr : Room 1 (A.deeper (envOfC "_law_knots" (defScope s_law_knots) s.heap.objs.size a.f_law_knots cdv))) :
    PSs (cxOf CX0 P w K mg base N_law_knots "_law_knots" (defScope s_law_knots) a.f_law_knots cdv A outer s H E).nox (defBody s_law_knots) (rd_law_knots K) :=
  (pss_cons (ps_if (PW.pt (pw_or (pt_not (pt_tru (pe_callB c_isinst (by rfl) T.no_isinstance PyProof.Rows.boot_isinstance (pa_cons (cv 0) (pa_cons (pe_bltn (v := .ty "list") rfl T.no_list PyProof.Rows.boot_list rfl) pa_nil))))) (pw_or1 (t_cmp (o_ne (hr8 hr)) (pe_callB c_len (by rfl) T.no_len PySem.boot_len (pa_cons (cv 0) pa_nil)) (cv 2) (nomark _))))) (pss_one (ps_ret pe_bl)) pss_nil)
      (pss_cons (ps_for PassesOwn.never rfl (pi_list (cv 0)) (pg_name (i := 3) sc_law_knots.nd rfl (by first | exact Or.inl rfl | exact Or.inr rfl)) (pss_one (ps_if (pt_not (pt_tru (pe_call (ok_law_is_column T) (hr.mono (by decide)) rfl T.mg_law_is_column T.fn_law_is_column.kp T.bi_law_is_column .nil pass0 (pa_cons (cv 3) (pa_cons (cv 1) pa_nil))))) (pss_one (ps_ret pe_bl)) pss_nil)))
      (pss_one (ps_ret pe_bl))))
theorem ok_law_knots {P : Program} {w : World} {K : PySem.W.Frag} {mg : Str → Option Value} {base : Heap} {a : Adr} (T : Txt K mg a) : FnOk P w K mg base CX0 2 a.f_law_knots a.d_law_knots ["_law_found", "_law_many", "_law_count"] (sp_law_knots K) := by
  refine T.fn_law_knots.ok sc_law_knots (fun vs H Q E h => ?_) (fun cdv A outer s H vs Q E hr h => ⟨_, tm_law_knots T hr, ?_⟩)
  · obtain ⟨p, cs, m, n, rfl, _⟩ := h; rfl
  · obtain ⟨p, cs, m, n, rfl, hp, hn, m10, hc, q⟩ := h
    show rd_law_knots K _ [some (.ref p), some (.int m), some (.int n), none] H
    unfold rd_law_knots
    walk_at "gs"
    refine ⟨_, true, .lst hp, rfl, ?_⟩
    walk_at "gs"
    refine .inl ⟨_, .inl (.of hp), ?_⟩
    walk_at "gs"
    rw [List.length_map, hn]
    walk_at "gs"
    refine ⟨⟨_, .of hp⟩, for_listG (xs := cs.map nz) (fun i σ H2 => H2 = H ∧ ∃ v, σ = [some (.ref p), some (.int m), some (.int n), v]) ⟨rfl, _, rfl⟩ ?_ ?_ ?_⟩
    · rintro i σ H5 _ ⟨rfl, _⟩
      exact .of hp
    · rintro i x σ H5 hx ⟨rfl, v, rfl⟩
      obtain ⟨c, hg, rfl⟩ := get_map_of hx
      walk_at "gs"
      refine ⟨c, m, rfl, m10, hc c (List.mem_of_getElem? hg), ?_⟩
      walk_at "gs"
      exact ⟨_, rfl⟩
    · rintro σ H5 ⟨rfl, v, rfl⟩
      walk_at "gs"
      exact q
def sp_law_refused (a : Adr) (_ : PySem.W.Frag) : Sp := fun vs H Q _ => ∃ (f dx pl kl : Addr) (m : Nat) (t : Int) (es : List En), vs = [.ref f, .int t] ∧ FoldAt a.c_Fold H f m es dx pl kl ∧ es.length ≤ 5000 ∧ m ≤ 10 ∧ MF.Ok m (psOf es) ∧
  ¬ (0 ≤ t ∧ t < 2 * (1 + m + es.length)) ∧ ∀ H', Same H H' → Q (.bl true) H'
def rd_law_refused (a : Adr) (K : PySem.W.Frag) : TS := (tSeq (tTry (fun Ex => (tDrop (tCallX (sp_column a K) [] Ex (tCons (cVar 0) (tCons (cVar 1) tNil))))) (tHd K a.c_NoTie (fun _ _ => (tRet (tC (.bl true)))) tNoH))
    (tRet (tC (.bl false))))
theorem tm_law_refused {P : Program} {w : World} {K : PySem.W.Frag} {mg : Str → Option Value} {base : Heap} {a : Adr} (T : Txt K mg a) {cdv : Value} {A : Around} {outer : List Env} {s : Shared} {H : Hp} {E : XK} (hr : Room 4 (A.deeper (envOfC "_law_refused" (defScope s_law_refused) s.heap.objs.size a.f_law_refused cdv))) :
    PSs (cxOf CX0 P w K mg base N_law_refused "_law_refused" (defScope s_law_refused) a.f_law_refused cdv A outer s H E).nox (defBody s_law_refused) (rd_law_refused a K) :=
  (pss_cons (ps_try ⟨rfl, rfl⟩ (fun _ Ex => (pss_one (ps_expr (pe_callX xok_tr (ok_column T) (hr.mono (by decide)) rfl T.mg_column T.fn_column.kp T.bi_column .nil (pa_cons (cv 0) (pa_cons (cv 1) pa_nil)))))) (ph_cons T.xk_NoTie rfl T.mg_NoTie (fun _ => (pss_one (ps_ret pe_bl))) ph_nil))
      (pss_one (ps_ret pe_bl)))
theorem ok_law_refused {P : Program} {w : World} {K : PySem.W.Frag} {mg : Str → Option Value} {base : Heap} {a : Adr} (T : Txt K mg a) : FnOk P w K mg base CX0 5 a.f_law_refused a.d_law_refused ["_law_fold", "_law_tie"] (sp_law_refused a K) := by
  refine T.fn_law_refused.ok sc_law_refused (fun vs H Q E h => ?_) (fun cdv A outer s H vs Q E hr h => ⟨_, tm_law_refused T hr, ?_⟩)
  · obtain ⟨f, dx, pl, kl, m, t, es, rfl, _⟩ := h; rfl
  · obtain ⟨f, dx, pl, kl, m, t, es, rfl, hf, hz, hm, ok, hn, q⟩ := h
    show rd_law_refused a K _ [some (.ref f), some (.int t)] H
    unfold rd_law_refused
    walk_at "go"
    refine ⟨f, dx, pl, kl, m, t, es, rfl, hf, hz, hm, ok, fun z => absurd z hn, fun _ e he => ⟨e, _, rfl, rfl, T.xk_NoTie, ?_⟩⟩
    rw [T.xm_NoTie_NoTie]
    walk_at "go"
    exact q _ (Same.refl _)
theorem xor_small {t : Int} (h : 0 ≤ t) (j : Int) (h0 : 0 ≤ j) (h1 : j ≤ 1) : Builtin.bitXor t j = t ∨ Builtin.bitXor t j = MF.tn t := by
  have : j = 0 ∨ j = 1 := by omega
  rcases this with rfl | rfl
  · left
    obtain ⟨x, rfl⟩ := Int.eq_ofNat_of_zero_le h
    have := xor_nat x 0
    rw [show ((0 : Nat) : Int) = 0 from rfl] at this
    rw [this, Nat.xor_zero]
  · right; exact xor_one h
def sp_law_chain (a : Adr) (_ : PySem.W.Frag) : Sp := fun vs H Q _ => ∃ (f dx pl kl bd : Addr) (m n : Nat), vs = [.ref f, .ref bd, .int m, .int n] ∧ FoldAt a.c_Fold H f m [] dx pl kl ∧ H bd = some (.dT (kvF (m + 1) [])) ∧ 1 ≤ m ∧ m ≤ 10 ∧ n ≤ 1000 ∧ kl ≠ bd ∧
  ∀ H' es, Keep (fun b => ¬ (b = pl ∨ b = kl ∨ b = bd)) H H' → FoldAt a.c_Fold H' f m es dx pl kl → H' bd = some (.dT (kvF (m + 1) (psOf es))) → MF.Ok m (psOf es) → es.length ≤ n → Q .non H'
def rd_law_chain (a : Adr) (K : PySem.W.Frag) : TS := (tSeq (tAsg (tOp cMul (tC (.int 2)) (cVar 2)) (gName 4))
    (tFor (iRng1 (tCons (cVar 3) tNil)) (gName 5) (tSeq (tAsg (tOp cAdd (tOp cAdd (tC (.int 2)) (tOp cMul (tC (.int 2)) (tOp (cI2c (fun _ j => 0 < j) fun i j => .int (i % j)) (cVar 5) (tCB cMax (tCons (tC (.int 1)) (tCons (tOp (cI2 fun i j => .int (i - j)) (cVar 2) (tC (.int 1))) tNil)))))) (tOp (cI2c (fun _ j => 0 < j) fun i j => .int (i % j)) (tOp (cI2c CDiv fun i j => .int (i / j)) (cVar 5) (tC (.int 3))) (tC (.int 2)))) (gName 6))
    (tSeq (tAsg (tOp (cI2 fun i j => .int (Builtin.bitXor i j)) (cVar 4) (tOp (cI2 fun i j => .int (i - j)) (tC (.int 1)) (tOp (cI2c CDiv fun i j => .int (i / j)) (tOp (cI2c (fun _ j => 0 < j) fun i j => .int (i % j)) (cVar 5) (tC (.int 3))) (tC (.int 2))))) (gName 7))
    (tSeq (tAsg (tCall (sp_law_both K) [] E0 (tCons (cVar 1) (tCons (cVar 2) (tCons (cVar 7) (tCons (cVar 6) tNil))))) (gName 4))
    (tDrop (tMeth a.c_Fold "both" (sp_Fold_both a K) [] E0 (cVar 0) (tCons (cVar 7) (tCons (cVar 6) tNil)))))))))
theorem tm_law_chain {P : Program} {w : World} {K : PySem.W.Frag} {mg : Str → Option Value} {base : Heap} {a : Adr} (T : Txt K mg a) {cdv : Value} {A : Around} {outer : List Env} {s : Shared} {H : Hp} {E : XK} (hr : Room 3 (A.deeper (envOfC "_law_chain" (defScope s_law_chain) s.heap.objs.size a.f_law_chain cdv))) :
    PSs (cxOf CX0 P w K mg base N_law_chain "_law_chain" (defScope s_law_chain) a.f_law_chain cdv A outer s H E).nox (defBody s_law_chain) (rd_law_chain a K) :=
  (pss_cons (ps_set (i := 4) sc_law_chain.nd rfl (by first | exact Or.inl rfl | exact Or.inr rfl) (pe_op o_mul pe_int (cv 2)))
      (pss_one (ps_for PassesOwn.never rfl (pi_range1 rfl T.no_range (pa_cons (cv 3) pa_nil)) (pg_name (i := 5) sc_law_chain.nd rfl (by first | exact Or.inl rfl | exact Or.inr rfl)) (pss_cons (ps_set (i := 6) sc_law_chain.nd rfl (by first | exact Or.inl rfl | exact Or.inr rfl) (pe_op o_add (pe_op o_add pe_int (pe_op o_mul pe_int (pe_op o_mod (cv 5) (pe_callB (c_max rfl) (by rfl) T.no_max PyProof.Rows.boot_max (pa_cons pe_int (pa_cons (pe_op o_sub (cv 2) pe_int) pa_nil)))))) (pe_op o_mod (pe_op o_fdiv (cv 5) pe_int) pe_int)))
      (pss_cons (ps_set (i := 7) sc_law_chain.nd rfl (by first | exact Or.inl rfl | exact Or.inr rfl) (pe_op o_xor (cv 4) (pe_op o_sub pe_int (pe_op o_fdiv (pe_op o_mod (cv 5) pe_int) pe_int))))
      (pss_cons (ps_set (i := 4) sc_law_chain.nd rfl (by first | exact Or.inl rfl | exact Or.inr rfl) (pe_call (ok_law_both T) (hr.mono (by decide)) rfl T.mg_law_both T.fn_law_both.kp T.bi_law_both .nil pass0 (pa_cons (cv 1) (pa_cons (cv 2) (pa_cons (cv 7) (pa_cons (cv 6) pa_nil))))))
      (pss_one (ps_expr (pe_meth (cv 0) T.cl_Fold T.me_Fold_both (ok_Fold_both T) (hr.mono (by decide)) T.bi_Fold_both .nil passN (pa_cons (cv 7) (pa_cons (cv 6) pa_nil)))))))))))
theorem ok_law_chain {P : Program} {w : World} {K : PySem.W.Frag} {mg : Str → Option Value} {base : Heap} {a : Adr} (T : Txt K mg a) : FnOk P w K mg base CX0 4 a.f_law_chain a.d_law_chain ["_law_fold", "_law_pairs", "_law_many", "_law_long"] (sp_law_chain a K) := by
  refine T.fn_law_chain.ok sc_law_chain (fun vs H Q E h => ?_) (fun cdv A outer s H vs Q E hr h => ⟨_, tm_law_chain T hr, ?_⟩)
  · obtain ⟨f, dx, pl, kl, bd, m, n, rfl, _⟩ := h; rfl
  · obtain ⟨f, dx, pl, kl, bd, m, n, rfl, hf, hB, m1, m10, hn, d1, q⟩ := h
    show rd_law_chain a K _ [some (.ref f), some (.ref bd), some (.int m), some (.int n), none, none, none, none] H
    unfold rd_law_chain
    walk_at "gs"
    rw [Int.toNat_natCast]
    refine for_rngG (fun i σ H2 => ∃ (es : List En) (t : Int) (v5 v6 v7 : Option V), Keep (fun b => ¬ (b = pl ∨ b = kl ∨ b = bd)) H H2 ∧ FoldAt a.c_Fold H2 f m es dx pl kl ∧ H2 bd = some (.dT (kvF (m + 1) (psOf es))) ∧ MF.Ok m (psOf es) ∧ es.length ≤ i ∧ MF.InT m (psOf es) t ∧ σ = [some (.ref f), some (.ref bd), some (.int m), some (.int n), some (.int t), v5, v6, v7])
      ⟨[], _, none, none, none, fun b o _ e => e, hf, hB, (fun i q hq => by simp at hq), Nat.le_refl _, ⟨by omega, by show 2 * (m : Int) < 2 * ((m : Int) + 1 + 0); omega⟩, rfl⟩ ?_ ?_
    · rintro i σ H2 hi ⟨es, t, v5, v6, v7, k2, f2, b2, ok, hle, ht, rfl⟩
      have gm : 1 ≤ (if (m : Int) - 1 > 1 then (m : Int) - 1 else 1) ∧ (if (m : Int) - 1 > 1 then (m : Int) - 1 else 1) ≤ m := by split <;> omega
      walk_at "gs"
      generalize hG : (if (m : Int) - 1 > 1 then (m : Int) - 1 else 1) = G at gm
      have gG : G ≤ m - 1 ∨ (G = 1) := by rw [← hG]; split <;> omega
      have x1 := Int.emod_nonneg (0 + (i : Int)) (show G ≠ 0 by omega)
      have x2 := Int.emod_lt_of_pos (0 + (i : Int)) (show 0 < G by omega)
      walk_at "gs"
      have oth : 0 ≤ 2 + 2 * ((0 + (i : Int)) % G) + (0 + (i : Int)) / 3 % 2 ∧ 2 + 2 * ((0 + (i : Int)) % G) + (0 + (i : Int)) / 3 % 2 < 2 * ((m : Int) + 1) := by omega
      generalize 2 + 2 * ((0 + (i : Int)) % G) + (0 + (i : Int)) / 3 % 2 = y at oth
      have hx := xor_small ht.1 (1 - (0 + (i : Int)) % 3 / 2) (by omega) (by omega)
      have inx : MF.InT m (psOf es) (Builtin.bitXor t (1 - (0 + (i : Int)) % 3 / 2)) := by
        rcases hx with e | e <;> rw [e]
        · exact ht
        · exact ht.tn
      generalize Builtin.bitXor t (1 - (0 + (i : Int)) % 3 / 2) = x at inx
      have iny : MF.InT m (psOf es) y := ⟨oth.1, by have := oth.2; omega⟩
      have st := MF.bo_st (m := (m : Int)) (by omega) inx iny
      refine ⟨bd, m, x, y, psOf es, rfl, b2, inx.1, iny.1, by rw [List.length_map]; omega, fun H3 u3 b3 => ?_⟩
      walk_at "gs"
      have f3 := FoldAt_un1 f2 b2 d1 u3
      have jx := inx.2
      have jy := iny.2
      rw [List.length_map] at jx jy
      refine ⟨f, dx, _, rfl, f3.ins, rfl, f, dx, pl, kl, m, x, y, es, rfl, f3, by omega, fun _ H4 es4 u4 f4 q4 => ?_, fun z => absurd ⟨inx.1, iny.1, by omega, by omega⟩ z⟩
      walk_at "gs"
      have b4 : H4 bd = some (.dT (kvF (m + 1) (psOf es4))) := by rw [q4]; exact u4 _ _ (ne_of b3 f3.prs.lst (fun z => nomatch z)) d1.symm b3
      have l4 := st.hi
      have ok4 := st.ok ok
      have in4 := st.inn
      simp only [MF.bo] at l4 ok4 in4
      rw [← q4] at l4 ok4 in4
      rw [List.length_map, List.length_map] at l4
      exact ⟨es4, _, _, _, _, fun b o n e => u4 _ _ (fun z => n (.inl z)) (fun z => n (.inr (.inl z))) (u3 _ _ (fun z => n (.inr (.inr z))) (k2 _ _ n e)), f4, b4, ok4, by omega, in4, rfl⟩
    · rintro σ H2 ⟨es, t, v5, v6, v7, k2, f2, b2, ok, hle, ht, rfl⟩
      walk_at "gs"
      exact q H2 es k2 f2 b2 ok hle
def sp_law_joined (a : Adr) (_ : PySem.W.Frag) : Sp := fun vs H Q _ => ∃ (f dx pl kl bd rc : Addr) (m : Nat) (es : List En) (cs : List Int) (free : Bool), vs = [.ref f, .ref bd, .int m, .ref rc, .bl free] ∧ FoldAt a.c_Fold H f m es dx pl kl ∧ H bd = some (.dT (kvF (m + 1) (psOf es))) ∧ MF.Ok m (psOf es) ∧ 1 ≤ m ∧ m ≤ 10 ∧ es.length ≤ 1000 ∧ cs.length ≤ 100 ∧ kl ≠ bd ∧ H rc = some (.lst (cs.map V.int)) ∧ rc ≠ pl ∧
  ∀ H' es, Keep (fun b => ¬ (b = pl ∨ b = kl ∨ b = bd)) H H' → FoldAt a.c_Fold H' f m es dx pl kl → H' bd = some (.dT (kvF (m + 1) (psOf es))) → MF.Ok m (psOf es) → es.length ≤ 1100 → Q .non H'
def rd_law_joined (a : Adr) (K : PySem.W.Frag) : TS := (tFor (iList K (cVar 3)) (gName 5) (tSeq (tAsg (tOp cMul (tC (.int 2)) (tOp cAdd (tOp cAdd (cVar 2) (tC (.int 1))) (tCB (cLenT K) (tCons (cVar 1) tNil)))) (gName 6))
    (tSeq (tAsg (tOp (cI2 fun i j => .int (i - j)) (tOp (cI2 fun i j => .int (i - j)) (cVar 6) (tC (.int 1))) (tOp (cI2c (fun _ j => 0 < j) fun i j => .int (i % j)) (tOp (cI2c (fun _ j => 0 < j) fun i j => .int (i % j)) (cVar 5) (tC (.int 9))) (cVar 6))) (gName 7))
    (tSeq (tAsg (tOp (cI2c (fun _ j => 0 < j) fun i j => .int (i % j)) (tOp cAdd (tOp cAdd (tOp (cI2c CDiv fun i j => .int (i / j)) (cVar 5) (tC (.int 9))) (tOp cMul (tC (.int 3)) (tCB (cLenT K) (tCons (cVar 1) tNil)))) (tC (.int 5))) (cVar 6)) (gName 8))
    (tMid (tIfS (cTru K (cVar 4)) (tSeq (tAsg (tOp (cI2c (fun _ j => 0 < j) fun i j => .int (i % j)) (cVar 5) (cVar 6)) (gName 7))
    (tAsg (tOp (cI2c (fun _ j => 0 < j) fun i j => .int (i % j)) (tOp (cI2c CDiv fun i j => .int (i / j)) (cVar 5) (cVar 6)) (cVar 6)) (gName 8))) tNext)
    (tSeq (tDrop (tMeth a.c_Fold "both" (sp_Fold_both a K) [] E0 (cVar 0) (tCons (cVar 7) (tCons (cVar 8) tNil))))
    (tDrop (tCall (sp_law_both K) [] E0 (tCons (cVar 1) (tCons (cVar 2) (tCons (cVar 7) (tCons (cVar 8) tNil))))))))))))
theorem tm_law_joined {P : Program} {w : World} {K : PySem.W.Frag} {mg : Str → Option Value} {base : Heap} {a : Adr} (T : Txt K mg a) {cdv : Value} {A : Around} {outer : List Env} {s : Shared} {H : Hp} {E : XK} (hr : Room 3 (A.deeper (envOfC "_law_joined" (defScope s_law_joined) s.heap.objs.size a.f_law_joined cdv))) :
    PSs (cxOf CX0 P w K mg base N_law_joined "_law_joined" (defScope s_law_joined) a.f_law_joined cdv A outer s H E).nox (defBody s_law_joined) (rd_law_joined a K) :=
  (pss_one (ps_for PassesOwn.never rfl (pi_list (cv 3)) (pg_name (i := 5) sc_law_joined.nd rfl (by first | exact Or.inl rfl | exact Or.inr rfl)) (pss_cons (ps_set (i := 6) sc_law_joined.nd rfl (by first | exact Or.inl rfl | exact Or.inr rfl) (pe_op o_mul pe_int (pe_op o_add (pe_op o_add (cv 2) pe_int) (pe_callB c_lenT (by rfl) T.no_len PySem.boot_len (pa_cons (cv 1) pa_nil)))))
      (pss_cons (ps_set (i := 7) sc_law_joined.nd rfl (by first | exact Or.inl rfl | exact Or.inr rfl) (pe_op o_sub (pe_op o_sub (cv 6) pe_int) (pe_op o_mod (pe_op o_mod (cv 5) pe_int) (cv 6))))
      (pss_cons (ps_set (i := 8) sc_law_joined.nd rfl (by first | exact Or.inl rfl | exact Or.inr rfl) (pe_op o_mod (pe_op o_add (pe_op o_add (pe_op o_fdiv (cv 5) pe_int) (pe_op o_mul pe_int (pe_callB c_lenT (by rfl) T.no_len PySem.boot_len (pa_cons (cv 1) pa_nil)))) pe_int) (cv 6)))
      (pss_mid (ps_if (pt_tru (cv 4)) (pss_cons (ps_set (i := 7) sc_law_joined.nd rfl (by first | exact Or.inl rfl | exact Or.inr rfl) (pe_op o_mod (cv 5) (cv 6)))
      (pss_one (ps_set (i := 8) sc_law_joined.nd rfl (by first | exact Or.inl rfl | exact Or.inr rfl) (pe_op o_mod (pe_op o_fdiv (cv 5) (cv 6)) (cv 6))))) pss_nil)
      (pss_cons (ps_expr (pe_meth (cv 0) T.cl_Fold T.me_Fold_both (ok_Fold_both T) (hr.mono (by decide)) T.bi_Fold_both .nil passN (pa_cons (cv 7) (pa_cons (cv 8) pa_nil))))
      (pss_one (ps_expr (pe_call (ok_law_both T) (hr.mono (by decide)) rfl T.mg_law_both T.fn_law_both.kp T.bi_law_both .nil pass0 (pa_cons (cv 1) (pa_cons (cv 2) (pa_cons (cv 7) (pa_cons (cv 8) pa_nil))))))))))))))
theorem ok_law_joined {P : Program} {w : World} {K : PySem.W.Frag} {mg : Str → Option Value} {base : Heap} {a : Adr} (T : Txt K mg a) : FnOk P w K mg base CX0 4 a.f_law_joined a.d_law_joined ["_law_fold", "_law_pairs", "_law_many", "_law_cells", "_law_free"] (sp_law_joined a K) := by
  refine T.fn_law_joined.ok sc_law_joined (fun vs H Q E h => ?_) (fun cdv A outer s H vs Q E hr h => ⟨_, tm_law_joined T hr, ?_⟩)
  · obtain ⟨f, dx, pl, kl, bd, rc, m, es, cs, free, rfl, _⟩ := h; rfl
  · obtain ⟨f, dx, pl, kl, bd, rc, m, es, cs, free, rfl, F3, b3, ok3, m1, m10, hle, hcl, d1, hR, nr1, q⟩ := h
    show rd_law_joined a K _ [some (.ref f), some (.ref bd), some (.int m), some (.ref rc), some (.bl free), none, none, none, none] H
    unfold rd_law_joined
    have nr2 : rc ≠ kl := ne_of hR F3.prs.dct (fun z => nomatch z)
    have nr3 : rc ≠ bd := ne_of hR b3 (fun z => nomatch z)
    walk_at "gs"
    refine ⟨⟨_, .of hR⟩, for_listG (xs := cs.map V.int) (fun i σ H5 => ∃ (es : List En) (v5 v6 v7 v8 : Option V), FoldAt a.c_Fold H5 f m es dx pl kl ∧ H5 bd = some (.dT (kvF (m + 1) (psOf es))) ∧ MF.Ok m (psOf es) ∧ es.length ≤ 1000 + i ∧ Keep (fun b => ¬ (b = pl ∨ b = kl ∨ b = bd)) H H5 ∧
      σ = [some (.ref f), some (.ref bd), some (.int m), some (.ref rc), some (.bl free), v5, v6, v7, v8]) ⟨es, none, none, none, none, F3, b3, ok3, by omega, fun b o _ e => e, rfl⟩ ?_ ?_ ?_⟩
    · rintro i σ H5 _ ⟨es, v6, v7, v8, v9, _, _, _, _, h, _⟩
      exact .of (h _ _ (fun z => by rcases z with z | z | z <;> contradiction) hR)
    · rintro i x σ H5 hx ⟨es, v6, v7, v8, v9, F5, b5, ok5, hle5, k5, rfl⟩
      obtain ⟨c, _, rfl⟩ := get_map_of hx
      have hi : i < cs.length := by have := (List.getElem?_eq_some_iff.mp hx).1; rw [List.length_map] at this; exact this
      walk_at "gs"
      refine ⟨_, .inl b5, ?_⟩
      rw [len_kvF, List.length_map]
      walk_at "gs"
      generalize hT : 2 * ((m : Int) + 1 + (es.length : Int)) = T'
      have x1 := Int.emod_nonneg (c % 9) (show T' ≠ 0 by omega)
      have x2 := Int.emod_lt_of_pos (c % 9) (show 0 < T' by omega)
      have x5 := Int.emod_nonneg c (show T' ≠ 0 by omega)
      have x6 := Int.emod_lt_of_pos c (show 0 < T' by omega)
      have x7 := Int.emod_nonneg (c / T') (show T' ≠ 0 by omega)
      have x8 := Int.emod_lt_of_pos (c / T') (show 0 < T' by omega)
      walk_at "gs"
      refine ⟨_, .inl b5, ?_⟩
      rw [len_kvF, List.length_map]
      have x3 := Int.emod_nonneg (c / 9 + 3 * (es.length : Int) + 5) (show T' ≠ 0 by omega)
      have x4 := Int.emod_lt_of_pos (c / 9 + 3 * (es.length : Int) + 5) (show 0 < T' by omega)
      walk_at "gs"
      refine mid (fun σ' H' => H' = H5 ∧ ∃ x y : Int, 0 ≤ x ∧ x < T' ∧ 0 ≤ y ∧ y < T' ∧ σ' = [some (.ref f), some (.ref bd), some (.int m), some (.ref rc), some (.bl free), some (.int c), some (.int T'), some (.int x), some (.int y)]) ?_ ?_
      · intro N hN
        walk_at "gs"
        cases free with
        | true =>
          walk_at "gs"
          exact hN _ _ ⟨rfl, _, _, x5, x6, x7, x8, rfl⟩
        | false =>
          walk_at "gs"
          exact hN _ _ ⟨rfl, _, _, by omega, by omega, x3, x4, rfl⟩
      rintro σ6 H6 ⟨rfl, x, y, y1, y2, y3, y4, rfl⟩
      walk_at "gs"
      have inx : MF.InT m (psOf es) x := ⟨y1, by rw [List.length_map]; omega⟩
      have iny : MF.InT m (psOf es) y := ⟨y3, by rw [List.length_map]; omega⟩
      have st := MF.bo_st (m := (m : Int)) (by omega) inx iny
      refine ⟨f, dx, _, rfl, F5.ins, rfl, f, dx, pl, kl, m, x, y, es, rfl, F5, by omega, fun _ H7 es7 u7 F7 q7 => ?_, fun z => absurd ⟨y1, y3, by omega, by omega⟩ z⟩
      have b7 : H7 bd = some (.dT (kvF (m + 1) (psOf es))) := u7 _ _ (ne_of b5 F5.prs.lst (fun z => nomatch z)) d1.symm b5
      walk_at "gs"
      refine ⟨bd, m, x, y, psOf es, rfl, b7, y1, y3, by rw [List.length_map]; omega, fun H8 u8 b8 => ?_⟩
      walk_at "gs"
      have F8 := FoldAt_un1 F7 b7 d1 u8
      have l4 := st.hi
      have ok4 := st.ok ok5
      simp only [MF.bo] at l4 ok4
      rw [← q7] at l4 ok4 b8
      rw [List.length_map, List.length_map] at l4
      exact ⟨es7, _, _, _, _, F8, b8, ok4, by omega, fun b o n e => u8 _ _ (fun z => n (.inr (.inr z))) (u7 _ _ (fun z => n (.inl z)) (fun z => n (.inr (.inl z))) (k5 _ _ n e)), rfl⟩
    · rintro σ H5 ⟨es, v6, v7, v8, v9, F5, b5, ok5, hle5, k5, rfl⟩
      have hes : es.length ≤ 1100 := by rw [List.length_map] at hle5; omega
      walk_at "gs"
      exact q H5 es k5 F5 b5 ok5 hes
def sp_law_spots (K : PySem.W.Frag) : Sp := fun vs H Q _ => ∃ (p : Addr) (ns : List Int) (m : Nat), vs = [.ref p, .int m] ∧ SqL K H p (ns.map V.int) ∧ m ≤ 10 ∧ ∀ (js : List Nat) q H', (∀ j ∈ js, j < 2 ^ m) → js.length ≤ 40 → Mad H q (.lst (js.map nz)) H' → Q (.ref q) H'
def rd_law_spots (K : PySem.W.Frag) : TS := (tSeq (tAsg (tOp (cI2c CPow fun i j => .int (i * 2 ^ j.toNat)) (tC (.int 1)) (cVar 1)) (gName 2))
    (tSeq (tAsg (tOp (cI2c (fun _ j => 0 < j) fun i j => .int (i % j)) (tCall (sp_law_cell_at K) [] E0 (tCons (cVar 0) (tCons (tC (.int 1)) tNil))) (cVar 2)) (gName 3))
    (tSeq (tAsg (tOp cAdd (tC (.int 1)) (tOp cMul (tC (.int 2)) (tOp (cI2c (fun _ j => 0 < j) fun i j => .int (i % j)) (tOp (cI2c CDiv fun i j => .int (i / j)) (tCall (sp_law_cell_at K) [] E0 (tCons (cVar 0) (tCons (tC (.int 1)) tNil))) (cVar 2)) (cVar 2)))) (gName 4))
    (tRet (tComp (iRng1 (tCons (tCB cMin (tCons (cVar 2) (tCons (tC (.int 40)) tNil))) tNil)) 1 [3, 4, 2] (gName 0) tTrue (tOp (cI2c (fun _ j => 0 < j) fun i j => .int (i % j)) (tOp cAdd (cVar 1) (tOp cMul (cVar 2) (cVar 0))) (cVar 3)))))))
theorem tm_law_spots {P : Program} {w : World} {K : PySem.W.Frag} {mg : Str → Option Value} {base : Heap} {a : Adr} (T : Txt K mg a) {cdv : Value} {A : Around} {outer : List Env} {s : Shared} {H : Hp} {E : XK} (hr : Room 1 (A.deeper (envOfC "_law_spots" (defScope s_law_spots) s.heap.objs.size a.f_law_spots cdv))) :
    PSs (cxOf CX0 P w K mg base N_law_spots "_law_spots" (defScope s_law_spots) a.f_law_spots cdv A outer s H E).nox (defBody s_law_spots) (rd_law_spots K) :=
  (pss_cons (ps_set (i := 2) sc_law_spots.nd rfl (by first | exact Or.inl rfl | exact Or.inr rfl) (pe_op o_shl pe_int (cv 1)))
      (pss_cons (ps_set (i := 3) sc_law_spots.nd rfl (by first | exact Or.inl rfl | exact Or.inr rfl) (pe_op o_mod (pe_call (ok_law_cell_at T) (hr.mono (by decide)) rfl T.mg_law_cell_at T.fn_law_cell_at.kp T.bi_law_cell_at .nil pass0 (pa_cons (cv 0) (pa_cons pe_int pa_nil))) (cv 2)))
      (pss_cons (ps_set (i := 4) sc_law_spots.nd rfl (by first | exact Or.inl rfl | exact Or.inr rfl) (pe_op o_add pe_int (pe_op o_mul pe_int (pe_op o_mod (pe_op o_fdiv (pe_call (ok_law_cell_at T) (hr.mono (by decide)) rfl T.mg_law_cell_at T.fn_law_cell_at.kp T.bi_law_cell_at .nil pass0 (pa_cons (cv 0) (pa_cons pe_int pa_nil))) (cv 2)) (cv 2)))))
      (pss_one (ps_ret (pe_comp (N := ["_law_k", "_law_start", "_law_step", "_law_size"]) (k := 1) (sel := [3, 4, 2]) (CScope.of (defScope s_law_spots).names (by decide +kernel)) (CNames.of N_law_spots (by decide +kernel)) rfl (pi_range1 rfl T.no_range (pa_cons (pe_callB (c_min rfl) (by rfl) T.no_min PyProof.Rows.boot_min (pa_cons (cv 2) (pa_cons pe_int pa_nil))) pa_nil)) (fun _ _ _ _ => (pg_name (i := 0) (show List.Nodup (["_law_k", "_law_start", "_law_step", "_law_size"] : List Str) by decide +kernel) rfl (by first | exact Or.inl rfl | exact Or.inr rfl))) (fun _ _ _ _ => pts_nil) (fun _ _ _ _ => (pe_op o_mod (pe_op o_add (cv 1) (pe_op o_mul (cv 2) (cv 0))) (cv 3)))))))))
theorem ok_law_spots {P : Program} {w : World} {K : PySem.W.Frag} {mg : Str → Option Value} {base : Heap} {a : Adr} (T : Txt K mg a) : FnOk P w K mg base CX0 2 a.f_law_spots a.d_law_spots ["_law_script", "_law_many"] (sp_law_spots K) := by
  refine T.fn_law_spots.ok sc_law_spots (fun vs H Q E h => ?_) (fun cdv A outer s H vs Q E hr h => ⟨_, tm_law_spots T hr, ?_⟩)
  · obtain ⟨p, ns, m, rfl, _⟩ := h; rfl
  · obtain ⟨p, ns, m, rfl, hS, m10, q⟩ := h
    show rd_law_spots K _ [some (.ref p), some (.int m), none, none, none] H
    unfold rd_law_spots
    have hp10 : (2 : Nat) ^ m ≤ 2 ^ 10 := Nat.pow_le_pow_right (by decide) m10
    have hp00 : 0 < (2 : Nat) ^ m := Nat.pow_pos (by decide)
    have ec : (1 * 2 ^ ((m : Int)).toNat : Int) = ((2 ^ m : Nat) : Int) := by simp
    walk_at "gs"
    rw [ec]
    generalize hN : 2 ^ m = N at *
    have hpos : (0 : Int) < (N : Int) := by omega
    refine ⟨p, ns, 1, rfl, hS, fun c1 => ?_⟩
    walk_at "gs"
    refine ⟨p, ns, 1, rfl, hS, fun c2 => ?_⟩
    have x1 := Int.emod_nonneg c1 (show (N : Int) ≠ 0 by omega)
    have x2 := Int.emod_lt_of_pos c1 hpos
    have x3 := Int.emod_nonneg (c2 / N) (show (N : Int) ≠ 0 by omega)
    have x4 := Int.emod_lt_of_pos (c2 / N) hpos
    walk_at "gs"
    generalize c1 % (N : Int) = sta at *
    generalize c2 / (N : Int) % (N : Int) = ste at *
    have g6 : 1 ≤ (if (40 : Int) < N then (40 : Int) else N) ∧ (if (40 : Int) < N then (40 : Int) else N) ≤ 40 := by split <;> omega
    generalize (if (40 : Int) < N then (40 : Int) else N) = M at *
    obtain ⟨n, rfl⟩ := Int.eq_ofNat_of_zero_le (show 0 ≤ M by omega)
    rw [Int.toNat_natCast]
    have big : (1000 : Nat) ≤ sizeLine := by decide
    refine compG_rng (n := n) (fun i => nz ((sta + (1 + 2 * ste) * i) % (N : Int)).toNat) rfl (by omega) ?_ ?_
    · intro i H' Q' hi _ q'
      have e : nz ((sta + (1 + 2 * ste) * (0 + (i : Int))) % (N : Int)).toNat = V.int ((sta + (1 + 2 * ste) * (0 + (i : Int))) % (N : Int)) := by
        unfold nz
        have := Int.emod_nonneg (sta + (1 + 2 * ste) * (0 + (i : Int))) (show (N : Int) ≠ 0 by omega)
        rw [Int.toNat_of_nonneg this]
      rw [e] at q'
      walk_at "gs"
      exact q'
    · intro r H1 n1
      refine q ((List.range n).map fun i => ((sta + (1 + 2 * ste) * (0 + ((i : Nat) : Int))) % (N : Int)).toNat) r H1 (fun j hj => ?_) (by rw [List.length_map, List.length_range]; omega) ?_
      · obtain ⟨i, _, rfl⟩ := List.mem_map.mp hj
        have a1 := Int.emod_nonneg (sta + (1 + 2 * ste) * (0 + (i : Int))) (show (N : Int) ≠ 0 by omega)
        have a2 := Int.emod_lt_of_pos (sta + (1 + 2 * ste) * (0 + (i : Int))) hpos
        omega
      · rw [List.map_map]
        exact n1.mad
theorem cutN (js : List Nat) (k : Nat) : cutV (js.map nz) none (some (k : Int)) = (js.take k).map nz := by
  rw [cut_take _ (by omega), Int.toNat_natCast, List.map_take]
def sp_law_behind (a : Adr) (_ : PySem.W.Frag) : Sp := fun vs H Q _ => ∃ (f dx pl kl bd rs : Addr) (m : Nat) (es : List En) (js : List Nat), vs = [.ref f, .ref bd, .int m, .ref rs] ∧ FoldAt a.c_Fold H f m es dx pl kl ∧ H bd = some (.dT (kvF (m + 1) (psOf es))) ∧ MF.Ok m (psOf es) ∧ 1 ≤ m ∧ m ≤ 10 ∧ es.length ≤ 1100 ∧ kl ≠ bd ∧ H rs = some (.lst (js.map nz)) ∧ rs ≠ pl ∧ (∀ j ∈ js, j < 2 ^ m) ∧
  ∀ H' es', Keep (fun b => ¬ (b = pl ∨ b = kl ∨ b = bd)) H H' → FoldAt a.c_Fold H' f m es' dx pl kl → (∃ e, psOf es' = psOf es ++ e) → MF.Ok m (psOf es') → es'.length ≤ 1101 → Q (.bl true) H'
def rd_law_behind (a : Adr) (K : PySem.W.Frag) : TS := (tSeq (tAsg (tOp cMul (tC (.int 2)) (tOp cAdd (tOp cAdd (cVar 2) (tC (.int 1))) (tCB (cLenT K) (tCons (cVar 1) tNil)))) (gName 4))
    (tSeq (tAsg (tCall (sp_law_both K) [] E0 (tCons (cVar 1) (tCons (cVar 2) (tCons (tOp (cI2 fun i j => .int (i - j)) (cVar 4) (tC (.int 1))) (tCons (tC (.int 2)) tNil))))) (gName 5))
    (tSeq (tIfS (cTst (tOp (cNe K) (tMeth a.c_Fold "both" (sp_Fold_both a K) [] E0 (cVar 0) (tCons (tOp (cI2 fun i j => .int (i - j)) (cVar 4) (tC (.int 1))) (tCons (tC (.int 2)) tNil))) (cVar 5))) (tRet (tC (.bl false))) tNext)
    (tSeq (tAsg (tCall (sp_column a K) [] E0 (tCons (cVar 0) (tCons (cVar 5) tNil))) (gName 6))
    (tSeq (tIfS (tOr (tNot (cTru K (tCall (sp_law_is_column K) [] E0 (tCons (cVar 6) (tCons (cVar 2) tNil))))) (tNot (cTru K (tCall (sp_law_knots K) [] E0 (tCons (tCall (sp_knot_columns a K) [] E0 (tCons (cVar 0) tNil)) (tCons (cVar 2) (tCons (tOp cAdd (tOp cAdd (cVar 2) (tC (.int 1))) (tCB (cLenT K) (tCons (cVar 1) tNil))) tNil))))))) (tRet (tC (.bl false))) tNext)
    (tSeq (tFor (iList K (cVar 3)) (gName 7) (tIfS (cTst (tOp (cNe K) (tOp (cI2 fun i j => .int (Builtin.bitAnd i j)) (tOp (cI2c (fun _ j => 0 ≤ j) fun i j => .int (i / 2 ^ j.toNat)) (cVar 6) (cVar 7)) (tC (.int 1))) (tOp (cI2c (fun _ j => 0 < j) fun i j => .int (i % j)) (tOp cAdd (tOp (cIx K) (tCall (sp_law_lights K) [] E0 (tCons (cVar 1) (tCons (cVar 2) (tCons (cVar 7) tNil)))) (tOp (cI2c CDiv fun i j => .int (i / j)) (cVar 5) (tC (.int 2)))) (cVar 5)) (tC (.int 2))))) (tRet (tC (.bl false))) tNext))
    (tRet (tC (.bl true)))))))))
theorem tm_law_behind {P : Program} {w : World} {K : PySem.W.Frag} {mg : Str → Option Value} {base : Heap} {a : Adr} (T : Txt K mg a) {cdv : Value} {A : Around} {outer : List Env} {s : Shared} {H : Hp} {E : XK} (hr : Room 4 (A.deeper (envOfC "_law_behind" (defScope s_law_behind) s.heap.objs.size a.f_law_behind cdv))) :
    PSs (cxOf CX0 P w K mg base N_law_behind "_law_behind" (defScope s_law_behind) a.f_law_behind cdv A outer s H E).nox (defBody s_law_behind) (rd_law_behind a K) :=
  (pss_cons (ps_set (i := 4) sc_law_behind.nd rfl (by first | exact Or.inl rfl | exact Or.inr rfl) (pe_op o_mul pe_int (pe_op o_add (pe_op o_add (cv 2) pe_int) (pe_callB c_lenT (by rfl) T.no_len PySem.boot_len (pa_cons (cv 1) pa_nil)))))
      (pss_cons (ps_set (i := 5) sc_law_behind.nd rfl (by first | exact Or.inl rfl | exact Or.inr rfl) (pe_call (ok_law_both T) (hr.mono (by decide)) rfl T.mg_law_both T.fn_law_both.kp T.bi_law_both .nil pass0 (pa_cons (cv 1) (pa_cons (cv 2) (pa_cons (pe_op o_sub (cv 4) pe_int) (pa_cons pe_int pa_nil))))))
      (pss_cons (ps_if (t_cmp (o_ne (hr8 hr)) (pe_meth (cv 0) T.cl_Fold T.me_Fold_both (ok_Fold_both T) (hr.mono (by decide)) T.bi_Fold_both .nil passN (pa_cons (pe_op o_sub (cv 4) pe_int) (pa_cons pe_int pa_nil))) (cv 5) (nomark _)) (pss_one (ps_ret pe_bl)) pss_nil)
      (pss_cons (ps_set (i := 6) sc_law_behind.nd rfl (by first | exact Or.inl rfl | exact Or.inr rfl) (pe_call (ok_column T) (hr.mono (by decide)) rfl T.mg_column T.fn_column.kp T.bi_column .nil passN (pa_cons (cv 0) (pa_cons (cv 5) pa_nil))))
      (pss_cons (ps_if (PW.pt (pw_or (pt_not (pt_tru (pe_call (ok_law_is_column T) (hr.mono (by decide)) rfl T.mg_law_is_column T.fn_law_is_column.kp T.bi_law_is_column .nil pass0 (pa_cons (cv 6) (pa_cons (cv 2) pa_nil))))) (pw_or1 (pt_not (pt_tru (pe_call (ok_law_knots T) (hr.mono (by decide)) rfl T.mg_law_knots T.fn_law_knots.kp T.bi_law_knots .nil pass0 (pa_cons (pe_call (ok_knot_columns T) (hr.mono (by decide)) rfl T.mg_knot_columns T.fn_knot_columns.kp T.bi_knot_columns .nil pass0 (pa_cons (cv 0) pa_nil)) (pa_cons (cv 2) (pa_cons (pe_op o_add (pe_op o_add (cv 2) pe_int) (pe_callB c_lenT (by rfl) T.no_len PySem.boot_len (pa_cons (cv 1) pa_nil))) pa_nil))))))))) (pss_one (ps_ret pe_bl)) pss_nil)
      (pss_cons (ps_for PassesOwn.never rfl (pi_list (cv 3)) (pg_name (i := 7) sc_law_behind.nd rfl (by first | exact Or.inl rfl | exact Or.inr rfl)) (pss_one (ps_if (t_cmp (o_ne (hr8 hr)) (pe_op o_and (pe_op o_shr (cv 6) (cv 7)) pe_int) (pe_op o_mod (pe_op o_add (pe_ix i_seq (pe_call (ok_law_lights T) (hr.mono (by decide)) rfl T.mg_law_lights T.fn_law_lights.kp T.bi_law_lights .nil pass0 (pa_cons (cv 1) (pa_cons (cv 2) (pa_cons (cv 7) pa_nil)))) (pe_op o_fdiv (cv 5) pe_int) (fun _ _ => rfl)) (cv 5)) pe_int) (nomark _)) (pss_one (ps_ret pe_bl)) pss_nil)))
      (pss_one (ps_ret pe_bl))))))))
theorem ok_law_behind {P : Program} {w : World} {K : PySem.W.Frag} {mg : Str → Option Value} {base : Heap} {a : Adr} (T : Txt K mg a) : FnOk P w K mg base CX0 5 a.f_law_behind a.d_law_behind ["_law_fold", "_law_pairs", "_law_many", "_law_spots_here"] (sp_law_behind a K) := by
  refine T.fn_law_behind.ok sc_law_behind (fun vs H Q E h => ?_) (fun cdv A outer s H vs Q E hr h => ⟨_, tm_law_behind T hr, ?_⟩)
  · obtain ⟨f, dx, pl, kl, bd, rs, m, es, js, rfl, _⟩ := h; rfl
  · obtain ⟨f, dx, pl, kl, bd, rs, m, es, js, rfl, F8, b8, ok5, m1, m10, hle, d1, hR, nr1, hj, q⟩ := h
    show rd_law_behind a K _ [some (.ref f), some (.ref bd), some (.int m), some (.ref rs), none, none, none, none] H
    unfold rd_law_behind
    have nr2 : rs ≠ kl := ne_of hR F8.prs.dct (fun z => nomatch z)
    have nr3 : rs ≠ bd := ne_of hR b8 (fun z => nomatch z)
    walk_at "gs"
    refine ⟨_, .inl b8, ?_⟩
    rw [len_kvF, List.length_map]
    walk_at "gs"
    generalize hT : 2 * ((m : Int) + 1 + (es.length : Int)) = T'
    have inx : MF.InT m (psOf es) (T' - 1) := ⟨by omega, by rw [List.length_map]; omega⟩
    have iny : MF.InT m (psOf es) 2 := ⟨by omega, by rw [List.length_map]; omega⟩
    have st := MF.bo_st (m := (m : Int)) (by omega) inx iny
    refine ⟨bd, m, T' - 1, 2, psOf es, rfl, b8, inx.1, iny.1, by rw [List.length_map]; omega, fun H9 u9 b9 => ?_⟩
    walk_at "gs"
    have F9 := FoldAt_un1 F8 b8 d1 u9
    have jx := inx.2
    rw [List.length_map] at jx
    refine ⟨f, dx, _, rfl, F9.ins, rfl, f, dx, pl, kl, m, T' - 1, 2, es, rfl, F9, by omega, fun _ H10 es10 u10 F10 q10 => ?_, fun z => absurd ⟨inx.1, iny.1, by omega, by omega⟩ z⟩
    walk_at "gs"
    rw [if_neg (by simp)]
    have b10 : H10 bd = some (.dT (kvF (m + 1) (psOf es10))) := by rw [q10]; exact u10 _ _ (ne_of b9 F9.prs.lst (fun z => nomatch z)) d1.symm b9
    have l4 := st.hi
    have ok10 := st.ok ok5
    have in4 := st.inn
    have pre := st.pre
    simp only [MF.bo] at l4 ok10 in4 pre
    rw [← q10] at l4 ok10 in4 pre
    rw [List.length_map, List.length_map] at l4
    have in5 := in4.2
    rw [List.length_map] at in5
    have in6 := in4.1
    generalize MF.bt m (psOf es) (T' - 1) 2 = t at *
    have kp10 : Keep (fun b => ¬ (b = pl ∨ b = kl ∨ b = bd)) H H10 := fun b o n e => u10 _ _ (fun z => n (.inl z)) (fun z => n (.inr (.inl z))) (u9 _ _ (fun z => n (.inr (.inr z))) e)
    have hR10 := kp10 _ _ (fun z => by rcases z with z | z | z <;> contradiction) hR
    walk_at "gs"
    refine ⟨f, dx, pl, kl, m, t, es10, rfl, F10, by omega, m10, ok10, fun _ H11 s11 => ?_, fun z => absurd ⟨by omega, by omega⟩ z⟩
    walk_at "gs"
    refine ⟨_, m, rfl, m10, tie_lt m (psOf es10) t, ?_⟩
    walk_at "gs"
    refine ⟨f, dx, pl, kl, m, es10, rfl, F10.same s11, by omega, m10, ok10, fun pk H12 n12 => ?_⟩
    walk_at "gs"
    have s12 := s11.trans n12.same
    refine ⟨_, .inl (s12 _ _ b10), ?_⟩
    rw [len_kvF, List.length_map]
    walk_at "gs"
    refine ⟨pk, _, m, _, rfl, n12.at_, ?_, m10, col_lt m (psOf es10), ?_⟩
    · rw [MF.growC_len, len_bC, List.length_map]; omega
    walk_at "gs"
    have hR12 := s12 _ _ hR10
    refine ⟨⟨_, .of hR12⟩, for_listG (xs := js.map nz) (fun i σ H2 => Same H12 H2 ∧ ∃ v, σ = [some (.ref f), some (.ref bd), some (.int m), some (.ref rs), some (.int T'), some (.int t), some (.int (MF.L (fullN m) (bC m) (psOf es10) t : Nat)), v]) ⟨Same.refl _, _, rfl⟩ ?_ ?_ ?_⟩
    · rintro i σ H5 _ ⟨s5, _⟩
      exact .of (s5 _ _ hR12)
    · rintro i x σ H5 hx ⟨s5, v, rfl⟩
      obtain ⟨j, hg, rfl⟩ := get_map_of hx
      have hjl := hj j (List.mem_of_getElem? hg)
      walk_at "gs"
      unfold nz
      walk_at "gs"
      refine ⟨bd, m, j, psOf es10, rfl, s5 _ _ (s12 _ _ b10), ok10, by rw [List.length_map]; omega, m10, fun pq H6 n6 => ?_⟩
      walk_at "gs"
      refine ⟨_, _, .inl (.of n6.at_), at_nz (by omega) (by rw [MF.growC_len, List.length_cons, len_bits, List.length_map]; omega), ?_⟩
      walk_at "gs"
      rw [lit_I ((base1 j m).sub.grow (psOf es10) _), shr_int, tie_bit hjl]
      rw [if_neg (by simp [MF.L])]
      exact ⟨s5.trans n6.same, _, rfl⟩
    · rintro σ H5 ⟨s5, v, rfl⟩
      walk_at "gs"
      exact q H5 es10 (fun b o n e => s5 _ _ (s12 _ _ (kp10 b o n e))) (F10.same (s12.trans s5)) pre ok10 (by omega)
end K18

set_option maxHeartbeats 4000000
namespace K18
open PySem PySem.Spec PyProof.Rows L2
seal PE PT PS PSs PA PG PGs PI PO PW PTs PPs PK PC PSet PIp OpR UnR CallR IxR SlR MtR MtM tMid
local macro_rules | `(tactic| walk_at "go") => `(tactic| try simp only [tSeq, tAsg, gName, gTup, gCons, gNil, tOp, tC, cVar, cI2, cI2c, cAdd, cMul, cEq, cNe, cBool, cTst, cTru, cChain, tRet, tDrop, tIfS, tIf, tCall, tCons, tNil, tNext, tCB, cLen, cIsinst, cMin, cMax, tNot, tOr, tAnd, tUn, cNeg, tFor_list, tFor_rng1, tFor_rng2, tComp_list, tComp_rng1, cRef, cInt1, cInt2, cIx, tSl, cSlU, cPart, tNoPart, tLst_n, tTup_n, cList_n, tDGet, tDNotIn, sDPut, tBM, tBM0, tMake, tMeth, tFld, sFld, tyV, tRaise, tTry, tHd, tNoH, tCallX, tUnf, tFor_dT, tComp_dT, cLenT, tDNewT_n, List.append_nil, List.cons_append, List.nil_append, List.getElem?_cons_zero, List.getElem?_cons_succ, List.set_cons_zero, List.set_cons_succ, decide_eq_true_eq, if_true, if_false, Bool.false_eq_true, eq_self, decide_true, decide_false, Bool.not_true, Bool.not_false, Bool.not_eq_true', decide_eq_false_iff_not, Bool.and_true, Bool.true_and])
local macro_rules | `(tactic| walk_at "sd") => `(tactic| first | exact And.intro (by decide) (by decide) | decide | omega | exact Or.inl (And.intro (by omega) (by omega)) | exact Or.inr (And.intro (by omega) (by omega)) | exact And.intro (by omega) (And.intro (by omega) (by decide)) | exact And.intro (by omega) (by omega))
local macro_rules | `(tactic| walk_at "gs") => `(tactic| (walk_at "go"; repeat (first | (refine And.intro (by walk_at "sd") ?_; walk_at "go"))))
theorem cutI (ns : List Int) (lo hi : Option Int) : ∃ cs : List Int, cutV (ns.map V.int) lo hi = cs.map V.int ∧ cs.length ≤ ns.length := by
  unfold cutV
  refine ⟨_, by rw [← List.map_drop, ← List.map_take], ?_⟩
  rw [List.length_take, List.length_drop]
  omega
/-- the columns of the ties of the picked knots -/
def tiN (m : Nat) (ps : List MF.Pr) (pk : List Int) (n : Nat) : List Nat := (List.range n).map fun q => MF.L (fullN m) (bC m) ps (2 * pk.getD (q / 2) 0 + (q % 2 : Nat))
theorem tiN_len (m : Nat) (ps : List MF.Pr) (pk : List Int) (n : Nat) : (tiN m ps pk n).length = n := by unfold tiN; rw [List.length_map, List.length_range]
theorem tiN_at {m : Nat} {ps : List MF.Pr} {pk : List Int} {n i : Nat} (h : i < n) : (tiN m ps pk n).getD i 0 = MF.L (fullN m) (bC m) ps (2 * pk.getD (i / 2) 0 + (i % 2 : Nat)) := by
  unfold tiN; simp [List.getD, h]
theorem tiN_succ (m : Nat) (ps : List MF.Pr) (pk : List Int) (n : Nat) : tiN m ps pk (n + 1) = tiN m ps pk n ++ [MF.L (fullN m) (bC m) ps (2 * pk.getD (n / 2) 0 + (n % 2 : Nat))] := by
  unfold tiN; rw [List.range_succ, List.map_append]; rfl
theorem L_even {F : Nat} {b : List Nat} {ps : List MF.Pr} {t : Int} : MF.L F b ps (2 * t) = (MF.growC F b ps).getD t.toNat 0 := by
  unfold MF.L MF.litC
  rw [if_neg (by omega), show 2 * t / 2 = t by omega]
theorem L_odd {j m : Nat} {ps : List MF.Pr} {t : Int} : MF.L 1 (0 :: bitsN j m) ps (2 * t + 1) ≠ (MF.growC 1 (0 :: bitsN j m) ps).getD t.toNat 0 := by
  unfold MF.L MF.litC
  rw [if_pos (by omega), show (2 * t + 1) / 2 = t by omega]
  rcases sub_one (((base1 j m).sub.grow ps _).getD t.toNat) with e | e <;> rw [e] <;> decide
theorem eq_nz {K : PySem.W.Frag} {H : Hp} {p q : Addr} {cs : List Nat} (h1 : SqL K H p (cs.map nz)) (h2 : SqL K H q (cs.map nz)) : EqRef K H p q true := by
  have hf : (cs.map nz).all flatV = true := by simp [nz, flatV]
  refine .inr (.inl ⟨_, _, h1, h2, hf, hf, ?_⟩)
  unfold eqVs
  rw [beq_self_eq_true, Bool.true_and, eq_comm, List.all_eq_true]
  intro i hi
  have hi' : i < cs.length := by simpa using hi
  have : (cs.map nz).getD i .non = nz cs[i] := by simp [List.getD, hi']
  rw [this]
  simp [nz, eqV]
def sp_law (K : PySem.W.Frag) : Sp := fun vs H Q _ => ∃ (p : Addr) (ns : List Int), vs = [.ref p] ∧ SqL K H p (ns.map V.int) ∧ ns.length ≤ 63 ∧ ∀ H', Q (.bl true) H'
def rd_law (a : Adr) (K : PySem.W.Frag) : TS := (tSeq (tAsg (tOp cAdd (tC (.int 1)) (tOp (cI2c (fun _ j => 0 < j) fun i j => .int (i % j)) (tCall (sp_law_cell_at K) [] E0 (tCons (cVar 0) (tCons (tC (.int 0)) tNil))) (tC (.int 10)))) (gName 1))
    (tSeq (tAsg (tMake a.c_Fold (sp_Fold___init__ a K) [] E0 (tCons (cVar 1) tNil)) (gName 2))
    (tSeq (tAsg tDNewT (gName 3))
    (tMid (tIfS (cTst (tOp (cEq K) (tOp (cI2c (fun _ j => 0 < j) fun i j => .int (i % j)) (tOp (cI2c CDiv fun i j => .int (i / j)) (tCall (sp_law_cell_at K) [] E0 (tCons (cVar 0) (tCons (tC (.int 0)) tNil))) (tC (.int 10))) (tC (.int 8))) (tC (.int 5)))) (tDrop (tCall (sp_law_chain a K) [] E0 (tCons (cVar 2) (tCons (cVar 3) (tCons (cVar 1) (tCons (tOp cAdd (tC (.int 900)) (tOp (cI2c (fun _ j => 0 < j) fun i j => .int (i % j)) (tOp (cI2c CDiv fun i j => .int (i / j)) (tCall (sp_law_cell_at K) [] E0 (tCons (cVar 0) (tCons (tC (.int 0)) tNil))) (tC (.int 80))) (tC (.int 41)))) tNil)))))) tNext)
    (tSeq (tDrop (tCall (sp_law_joined a K) [] E0 (tCons (cVar 2) (tCons (cVar 3) (tCons (cVar 1) (tCons (tSl (cSlU K) (cVar 0) (cPart (tC (.int 2))) (cPart (tC (.int 38)))) (tCons (tOp (cEq K) (tOp (cI2c (fun _ j => 0 < j) fun i j => .int (i % j)) (tOp (cI2c CDiv fun i j => .int (i / j)) (tCall (sp_law_cell_at K) [] E0 (tCons (cVar 0) (tCons (tC (.int 0)) tNil))) (tC (.int 3280))) (tC (.int 2))) (tC (.int 1))) tNil)))))))
    (tSeq (tAsg (tOp cAdd (tOp cAdd (cVar 1) (tC (.int 1))) (tCB (cLenT K) (tCons (cVar 3) tNil))) (gName 4))
    (tSeq (tAsg (tLst (tCons (tOp (cI2c (fun _ j => 0 < j) fun i j => .int (i % j)) (tOp (cI2c CDiv fun i j => .int (i / j)) (tCall (sp_law_cell_at K) [] E0 (tCons (cVar 0) (tCons (tC (.int 0)) tNil))) (tC (.int 10))) (cVar 4)) (tCons (tOp (cI2c (fun _ j => 0 < j) fun i j => .int (i % j)) (tCall (sp_law_cell_at K) [] E0 (tCons (cVar 0) (tCons (tC (.int 2)) tNil))) (cVar 4)) (tCons (tOp (cI2c CDiv fun i j => .int (i / j)) (cVar 4) (tC (.int 2))) (tCons (tOp (cI2 fun i j => .int (i - j)) (cVar 4) (tC (.int 1))) tNil))))) (gName 5))
    (tSeq (tAsg (tCall (sp_knot_columns a K) [] E0 (tCons (cVar 2) tNil)) (gName 6))
    (tSeq (tAsg (tLst tNil) (gName 7))
    (tSeq (tFor (iList K (cVar 5)) (gName 8) (tSeq (tDrop (tBM K "list" rAppend (cVar 7) (tCons (tCall (sp_column a K) [] E0 (tCons (cVar 2) (tCons (tOp cMul (tC (.int 2)) (cVar 8)) tNil))) tNil)))
    (tDrop (tBM K "list" rAppend (cVar 7) (tCons (tCall (sp_column a K) [] E0 (tCons (cVar 2) (tCons (tOp cAdd (tOp cMul (tC (.int 2)) (cVar 8)) (tC (.int 1))) tNil))) tNil)))))
    (tSeq (tIfS (tOr (tNot (cTru K (tCall (sp_law_knots K) [] E0 (tCons (cVar 6) (tCons (cVar 1) (tCons (cVar 4) tNil)))))) (tNot (cTru K (tCall (sp_law_knots K) [] E0 (tCons (cVar 7) (tCons (cVar 1) (tCons (tC (.int 8)) tNil))))))) (tRet (tC (.bl false))) tNext)
    (tSeq (tFor (iList K (tCall (sp_law_spots K) [] E0 (tCons (cVar 0) (tCons (cVar 1) tNil)))) (gName 9) (tSeq (tAsg (tCall (sp_law_lights K) [] E0 (tCons (cVar 3) (tCons (cVar 1) (tCons (cVar 9) tNil)))) (gName 10))
    (tSeq (tFor (iRng1 (tCons (cVar 4) tNil)) (gName 8) (tIfS (cTst (tOp (cNe K) (tOp (cI2 fun i j => .int (Builtin.bitAnd i j)) (tOp (cI2c (fun _ j => 0 ≤ j) fun i j => .int (i / 2 ^ j.toNat)) (tOp (cIx K) (cVar 6) (cVar 8)) (cVar 9)) (tC (.int 1))) (tOp (cIx K) (cVar 10) (cVar 8)))) (tRet (tC (.bl false))) tNext))
    (tFor (iRng1 (tCons (tC (.int 4)) tNil)) (gName 11) (tIfS (tOr (cTst (tOp (cNe K) (tOp (cI2 fun i j => .int (Builtin.bitAnd i j)) (tOp (cI2c (fun _ j => 0 ≤ j) fun i j => .int (i / 2 ^ j.toNat)) (tOp (cIx K) (cVar 7) (tOp cMul (tC (.int 2)) (cVar 11))) (cVar 9)) (tC (.int 1))) (tOp (cIx K) (cVar 10) (tOp (cIx K) (cVar 5) (cVar 11))))) (cTst (tOp (cEq K) (tOp (cI2 fun i j => .int (Builtin.bitAnd i j)) (tOp (cI2c (fun _ j => 0 ≤ j) fun i j => .int (i / 2 ^ j.toNat)) (tOp (cIx K) (cVar 7) (tOp cAdd (tOp cMul (tC (.int 2)) (cVar 11)) (tC (.int 1)))) (cVar 9)) (tC (.int 1))) (tOp (cIx K) (cVar 10) (tOp (cIx K) (cVar 5) (cVar 11)))))) (tRet (tC (.bl false))) tNext)))))
    (tSeq (tAsg (tOp (cI2c (fun _ j => 0 < j) fun i j => .int (i % j)) (tCall (sp_law_cell_at K) [] E0 (tCons (cVar 0) (tCons (tC (.int 1)) tNil))) (tOp (cI2c CPow fun i j => .int (i ^ j.toNat)) (tC (.int 10)) (tC (.int 30)))) (gName 12))
    (tSeq (tIfS (tOr (tNot (cTru K (tCall (sp_law_refused a K) [] E0 (tCons (cVar 2) (tCons (tOp cAdd (tOp cMul (tC (.int 2)) (cVar 4)) (cVar 12)) tNil))))) (tNot (cTru K (tCall (sp_law_refused a K) [] E0 (tCons (cVar 2) (tCons (tOp (cI2 fun i j => .int (i - j)) (tUn cNeg (tC (.int 1))) (cVar 12)) tNil)))))) (tRet (tC (.bl false))) tNext)
    (tSeq (tAsg (tCB (cList K) (tCons (cVar 6) tNil)) (gName 13))
    (tSeq (tDrop (tBM0 K "list" rClear (cVar 6)))
    (tSeq (tIfS (tNot (cTru K (tCall (sp_law_behind a K) [] E0 (tCons (cVar 2) (tCons (cVar 3) (tCons (cVar 1) (tCons (tSl (cSlU K) (tCall (sp_law_spots K) [] E0 (tCons (cVar 0) (tCons (cVar 1) tNil))) tNoPart (cPart (tC (.int 5)))) tNil))))))) (tRet (tC (.bl false))) tNext)
    (tRet (tOp (cEq K) (tSl (cSlU K) (tCall (sp_knot_columns a K) [] E0 (tCons (cVar 2) tNil)) tNoPart (cPart (cVar 4))) (cVar 13))))))))))))))))))))
theorem tm_law {P : Program} {w : World} {K : PySem.W.Frag} {mg : Str → Option Value} {base : Heap} {a : Adr} (T : Txt K mg a) {cdv : Value} {A : Around} {outer : List Env} {s : Shared} {H : Hp} {E : XK} (hr : Room 5 (A.deeper (envOfC "law" (defScope s_law) s.heap.objs.size a.f_law cdv))) :
    PSs (cxOf CX0 P w K mg base N_law "law" (defScope s_law) a.f_law cdv A outer s H E).nox (defBody s_law) (rd_law a K) :=
  (pss_cons (ps_set (i := 1) sc_law.nd rfl (by first | exact Or.inl rfl | exact Or.inr rfl) (pe_op o_add pe_int (pe_op o_mod (pe_call (ok_law_cell_at T) (hr.mono (by decide)) rfl T.mg_law_cell_at T.fn_law_cell_at.kp T.bi_law_cell_at .nil pass0 (pa_cons (cv 0) (pa_cons pe_int pa_nil))) pe_int)))
      (pss_cons (ps_set (i := 2) sc_law.nd rfl (by first | exact Or.inl rfl | exact Or.inr rfl) (pe_make T.mk_Fold (ok_Fold___init__ T) (hr.mono (by decide)) rfl T.mg_Fold T.bi_Fold___init__ .nil pass0 (pa_cons (cv 1) pa_nil)))
      (pss_cons (ps_set (i := 3) sc_law.nd rfl (by first | exact Or.inl rfl | exact Or.inr rfl) pe_dnewT)
      (pss_mid (ps_if (t_cmp (o_eq (hr8 hr)) (pe_op o_mod (pe_op o_fdiv (pe_call (ok_law_cell_at T) (hr.mono (by decide)) rfl T.mg_law_cell_at T.fn_law_cell_at.kp T.bi_law_cell_at .nil pass0 (pa_cons (cv 0) (pa_cons pe_int pa_nil))) pe_int) pe_int) pe_int (nomark _)) (pss_one (ps_expr (pe_call (ok_law_chain T) (hr.mono (by decide)) rfl T.mg_law_chain T.fn_law_chain.kp T.bi_law_chain .nil pass0 (pa_cons (cv 2) (pa_cons (cv 3) (pa_cons (cv 1) (pa_cons (pe_op o_add pe_int (pe_op o_mod (pe_op o_fdiv (pe_call (ok_law_cell_at T) (hr.mono (by decide)) rfl T.mg_law_cell_at T.fn_law_cell_at.kp T.bi_law_cell_at .nil pass0 (pa_cons (cv 0) (pa_cons pe_int pa_nil))) pe_int) pe_int)) pa_nil))))))) pss_nil)
      (pss_cons (ps_expr (pe_call (ok_law_joined T) (hr.mono (by decide)) rfl T.mg_law_joined T.fn_law_joined.kp T.bi_law_joined .nil pass0 (pa_cons (cv 2) (pa_cons (cv 3) (pa_cons (cv 1) (pa_cons (pe_slice s_u (cv 0) (e_part pe_int) (e_part pe_int)) (pa_cons (pe_cmpR (o_eq (hr8 hr)) (pe_op o_mod (pe_op o_fdiv (pe_call (ok_law_cell_at T) (hr.mono (by decide)) rfl T.mg_law_cell_at T.fn_law_cell_at.kp T.bi_law_cell_at .nil pass0 (pa_cons (cv 0) (pa_cons pe_int pa_nil))) pe_int) pe_int) pe_int (nomark _)) pa_nil)))))))
      (pss_cons (ps_set (i := 4) sc_law.nd rfl (by first | exact Or.inl rfl | exact Or.inr rfl) (pe_op o_add (pe_op o_add (cv 1) pe_int) (pe_callB c_lenT (by rfl) T.no_len PySem.boot_len (pa_cons (cv 3) pa_nil))))
      (pss_cons (ps_set (i := 5) sc_law.nd rfl (by first | exact Or.inl rfl | exact Or.inr rfl) (pe_lst (pa_cons (pe_op o_mod (pe_op o_fdiv (pe_call (ok_law_cell_at T) (hr.mono (by decide)) rfl T.mg_law_cell_at T.fn_law_cell_at.kp T.bi_law_cell_at .nil pass0 (pa_cons (cv 0) (pa_cons pe_int pa_nil))) pe_int) (cv 4)) (pa_cons (pe_op o_mod (pe_call (ok_law_cell_at T) (hr.mono (by decide)) rfl T.mg_law_cell_at T.fn_law_cell_at.kp T.bi_law_cell_at .nil pass0 (pa_cons (cv 0) (pa_cons pe_int pa_nil))) (cv 4)) (pa_cons (pe_op o_fdiv (cv 4) pe_int) (pa_cons (pe_op o_sub (cv 4) pe_int) pa_nil))))))
      (pss_cons (ps_set (i := 6) sc_law.nd rfl (by first | exact Or.inl rfl | exact Or.inr rfl) (pe_call (ok_knot_columns T) (hr.mono (by decide)) rfl T.mg_knot_columns T.fn_knot_columns.kp T.bi_knot_columns .nil pass0 (pa_cons (cv 2) pa_nil)))
      (pss_cons (ps_set (i := 7) sc_law.nd rfl (by first | exact Or.inl rfl | exact Or.inr rfl) (pe_lst pa_nil))
      (pss_cons (ps_for PassesOwn.never rfl (pi_list (cv 5)) (pg_name (i := 8) sc_law.nd rfl (by first | exact Or.inl rfl | exact Or.inr rfl)) (pss_cons (ps_expr (pe_bm PySem.F.plainAttrs_list PySem.F.slot_list_append PySem.F.type_list_append (mtr mt_append) (cv 7) (pa_cons (pe_call (ok_column T) (hr.mono (by decide)) rfl T.mg_column T.fn_column.kp T.bi_column .nil passN (pa_cons (cv 2) (pa_cons (pe_op o_mul pe_int (cv 8)) pa_nil))) pa_nil)))
      (pss_one (ps_expr (pe_bm PySem.F.plainAttrs_list PySem.F.slot_list_append PySem.F.type_list_append (mtr mt_append) (cv 7) (pa_cons (pe_call (ok_column T) (hr.mono (by decide)) rfl T.mg_column T.fn_column.kp T.bi_column .nil passN (pa_cons (cv 2) (pa_cons (pe_op o_add (pe_op o_mul pe_int (cv 8)) pe_int) pa_nil))) pa_nil))))))
      (pss_cons (ps_if (PW.pt (pw_or (pt_not (pt_tru (pe_call (ok_law_knots T) (hr.mono (by decide)) rfl T.mg_law_knots T.fn_law_knots.kp T.bi_law_knots .nil pass0 (pa_cons (cv 6) (pa_cons (cv 1) (pa_cons (cv 4) pa_nil)))))) (pw_or1 (pt_not (pt_tru (pe_call (ok_law_knots T) (hr.mono (by decide)) rfl T.mg_law_knots T.fn_law_knots.kp T.bi_law_knots .nil pass0 (pa_cons (cv 7) (pa_cons (cv 1) (pa_cons pe_int pa_nil))))))))) (pss_one (ps_ret pe_bl)) pss_nil)
      (pss_cons (ps_for PassesOwn.never rfl (pi_list (pe_call (ok_law_spots T) (hr.mono (by decide)) rfl T.mg_law_spots T.fn_law_spots.kp T.bi_law_spots .nil pass0 (pa_cons (cv 0) (pa_cons (cv 1) pa_nil)))) (pg_name (i := 9) sc_law.nd rfl (by first | exact Or.inl rfl | exact Or.inr rfl)) (pss_cons (ps_set (i := 10) sc_law.nd rfl (by first | exact Or.inl rfl | exact Or.inr rfl) (pe_call (ok_law_lights T) (hr.mono (by decide)) rfl T.mg_law_lights T.fn_law_lights.kp T.bi_law_lights .nil pass0 (pa_cons (cv 3) (pa_cons (cv 1) (pa_cons (cv 9) pa_nil)))))
      (pss_cons (ps_for PassesOwn.never rfl (pi_range1 rfl T.no_range (pa_cons (cv 4) pa_nil)) (pg_name (i := 8) sc_law.nd rfl (by first | exact Or.inl rfl | exact Or.inr rfl)) (pss_one (ps_if (t_cmp (o_ne (hr8 hr)) (pe_op o_and (pe_op o_shr (pe_ix i_seq (cv 6) (cv 8) (fun _ _ => rfl)) (cv 9)) pe_int) (pe_ix i_seq (cv 10) (cv 8) (fun _ _ => rfl)) (nomark _)) (pss_one (ps_ret pe_bl)) pss_nil)))
      (pss_one (ps_for PassesOwn.never rfl (pi_range1 rfl T.no_range (pa_cons pe_int pa_nil)) (pg_name (i := 11) sc_law.nd rfl (by first | exact Or.inl rfl | exact Or.inr rfl)) (pss_one (ps_if (PW.pt (pw_or (t_cmp (o_ne (hr8 hr)) (pe_op o_and (pe_op o_shr (pe_ix i_seq (cv 7) (pe_op o_mul pe_int (cv 11)) (fun _ _ => rfl)) (cv 9)) pe_int) (pe_ix i_seq (cv 10) (pe_ix i_seq (cv 5) (cv 11) (fun _ _ => rfl)) (fun _ _ => rfl)) (nomark _)) (pw_or1 (t_cmp (o_eq (hr8 hr)) (pe_op o_and (pe_op o_shr (pe_ix i_seq (cv 7) (pe_op o_add (pe_op o_mul pe_int (cv 11)) pe_int) (fun _ _ => rfl)) (cv 9)) pe_int) (pe_ix i_seq (cv 10) (pe_ix i_seq (cv 5) (cv 11) (fun _ _ => rfl)) (fun _ _ => rfl)) (nomark _))))) (pss_one (ps_ret pe_bl)) pss_nil)))))))
      (pss_cons (ps_set (i := 12) sc_law.nd rfl (by first | exact Or.inl rfl | exact Or.inr rfl) (pe_op o_mod (pe_call (ok_law_cell_at T) (hr.mono (by decide)) rfl T.mg_law_cell_at T.fn_law_cell_at.kp T.bi_law_cell_at .nil pass0 (pa_cons (cv 0) (pa_cons pe_int pa_nil))) (pe_op o_pow pe_int pe_int)))
      (pss_cons (ps_if (PW.pt (pw_or (pt_not (pt_tru (pe_call (ok_law_refused T) (hr.mono (by decide)) rfl T.mg_law_refused T.fn_law_refused.kp T.bi_law_refused .nil pass0 (pa_cons (cv 2) (pa_cons (pe_op o_add (pe_op o_mul pe_int (cv 4)) (cv 12)) pa_nil))))) (pw_or1 (pt_not (pt_tru (pe_call (ok_law_refused T) (hr.mono (by decide)) rfl T.mg_law_refused T.fn_law_refused.kp T.bi_law_refused .nil pass0 (pa_cons (cv 2) (pa_cons (pe_op o_sub (pe_un u_neg pe_int) (cv 12)) pa_nil)))))))) (pss_one (ps_ret pe_bl)) pss_nil)
      (pss_cons (ps_set (i := 13) sc_law.nd rfl (by first | exact Or.inl rfl | exact Or.inr rfl) (pe_callTy c_list (by rfl) T.no_list PyProof.Rows.boot_list (pa_cons (cv 6) pa_nil)))
      (pss_cons (ps_expr (pe_bm0 PySem.F.plainAttrs_list PySem.F.slot_list_clear PySem.F.type_list_clear (mtr mt_clear) (cv 6)))
      (pss_cons (ps_if (pt_not (pt_tru (pe_call (ok_law_behind T) (hr.mono (by decide)) rfl T.mg_law_behind T.fn_law_behind.kp T.bi_law_behind .nil pass0 (pa_cons (cv 2) (pa_cons (cv 3) (pa_cons (cv 1) (pa_cons (pe_slice s_u (pe_call (ok_law_spots T) (hr.mono (by decide)) rfl T.mg_law_spots T.fn_law_spots.kp T.bi_law_spots .nil pass0 (pa_cons (cv 0) (pa_cons (cv 1) pa_nil))) po_none (e_part pe_int)) pa_nil))))))) (pss_one (ps_ret pe_bl)) pss_nil)
      (pss_one (ps_ret (pe_cmpR (o_eq (hr8 hr)) (pe_slice s_u (pe_call (ok_knot_columns T) (hr.mono (by decide)) rfl T.mg_knot_columns T.fn_knot_columns.kp T.bi_knot_columns .nil pass0 (pa_cons (cv 2) pa_nil)) po_none (e_part (cv 4))) (cv 13) (nomark _)))))))))))))))))))))
theorem ok_law {P : Program} {w : World} {K : PySem.W.Frag} {mg : Str → Option Value} {base : Heap} {a : Adr} (T : Txt K mg a) : FnOk P w K mg base CX0 6 a.f_law a.d_law ["_law_script"] (sp_law K) := by
  refine T.fn_law.ok sc_law (fun vs H Q E h => ?_) (fun cdv A outer s H vs Q E hr h => ⟨_, tm_law T hr, ?_⟩)
  · obtain ⟨p, ns, rfl, _⟩ := h; rfl
  · obtain ⟨p, ns, rfl, hS, hl, k⟩ := h
    show rd_law a K _ [some (.ref p), none, none, none, none, none, none, none, none, none, none, none, none, none] H
    unfold rd_law
    walk_at "gs"
    refine ⟨p, ns, 0, rfl, hS, fun c0 => ?_⟩
    walk_at "gs"
    obtain ⟨m, hm⟩ := Int.eq_ofNat_of_zero_le (by omega : 0 ≤ 1 + c0 % 10)
    rw [hm]
    have m1 : 1 ≤ m := by omega
    have m10 : m ≤ 10 := by omega
    clear hm
    refine mk_Fold fun f dx pl kl H1 s1 fx fp fk F1 => ?_
    walk_at "gs"
    intro bd H2 n2
    have F2 := F1.same n2.same
    have d1 : kl ≠ bd := ne_of_none F1.prs.dct n2.was
    have sc : Scr K H2 p (ns.map V.int) (fun b => b = pl ∨ b = kl ∨ b = bd) := by
      refine (Scr.of hS ?_).keep (s1.trans n2.same).keep
      rintro b (rfl | rfl | rfl)
      · exact fp
      · exact fk
      · exact s1.nil n2.was
    walk_at "gs"
    refine mid (fun σ' H' => ∃ es : List En, Keep (fun b => ¬ (b = pl ∨ b = kl ∨ b = bd)) H2 H' ∧ FoldAt a.c_Fold H' f m es dx pl kl ∧ H' bd = some (.dT (kvF (m + 1) (psOf es))) ∧ MF.Ok m (psOf es) ∧ es.length ≤ 1000 ∧ σ' = [some (.ref p), some (.int m), some (.ref f), some (.ref bd), none, none, none, none, none, none, none, none, none, none]) ?_ ?_
    · intro N hN
      walk_at "gs"
      refine ⟨p, ns, 0, rfl, sc.sq, fun c1 => ?_⟩
      walk_at "gs"
      by_cases g : c1 / 10 % 8 = 5
      · rw [if_pos g]
        walk_at "gs"
        refine ⟨p, ns, 0, rfl, sc.sq, fun c2 => ?_⟩
        walk_at "gs"
        obtain ⟨n, hn⟩ := Int.eq_ofNat_of_zero_le (by omega : 0 ≤ 900 + c2 / 80 % 41)
        rw [hn]
        refine ⟨f, dx, pl, kl, bd, m, n, rfl, F2, n2.at_, m1, m10, by omega, d1, fun H3 es k3 F3 b3 ok3 hle => ?_⟩
        walk_at "gs"
        exact hN _ _ ⟨es, k3, F3, b3, ok3, by omega, rfl⟩
      · rw [if_neg g]
        exact hN _ _ ⟨[], fun b o _ e => e, F2, n2.at_, fun i q hq => by simp at hq, by show 0 ≤ 1000; omega, rfl⟩
    rintro σ3 H3 ⟨es0, k3, F3, b3, ok3, hle3, rfl⟩
    have sc3 := sc.keep k3
    walk_at "gs"
    refine ⟨_, sc3.sq, fun rc H4 n4 => ?_⟩
    obtain ⟨cs, hcs, hcl⟩ := cutI ns (some 2) (some 38)
    rw [hcs] at n4
    have nr1 : rc ≠ pl := (ne_of_none F3.prs.lst n4.was).symm
    refine ⟨p, ns, 0, rfl, (sc3.keep n4.same.keep).sq, fun c3 => ?_⟩
    walk_at "gs"
    refine ⟨f, dx, pl, kl, bd, rc, m, es0, cs, _, rfl, F3.same n4.same, n4.same _ _ b3, ok3, m1, m10, hle3, by omega, d1, n4.at_, nr1, fun H5 es k5 F5 b5 ok5 hes => ?_⟩
    have sc5 := (sc3.keep n4.same.keep).keep k5
    walk_at "gs"
    refine ⟨_, .inl b5, ?_⟩
    rw [len_kvF, List.length_map]
    walk_at "gs"
    generalize hC : (m : Int) + 1 + (es.length : Int) = C
    have hCp : 0 < C := by omega
    refine ⟨p, ns, 0, rfl, sc5.sq, fun c4 => ?_⟩
    walk_at "gs"
    refine ⟨p, ns, 2, rfl, sc5.sq, fun c5 => ?_⟩
    walk_at "gs"
    have x1 := Int.emod_nonneg (c4 / 10) (show C ≠ 0 by omega)
    have x2 := Int.emod_lt_of_pos (c4 / 10) hCp
    have x3 := Int.emod_nonneg c5 (show C ≠ 0 by omega)
    have x4 := Int.emod_lt_of_pos c5 hCp
    obtain ⟨pk, hpk⟩ : ∃ pk : List Int, pk = [c4 / 10 % C, c5 % C, C / 2, C - 1] := ⟨_, rfl⟩
    have pkV : [V.int (c4 / 10 % C), V.int (c5 % C), V.int (C / 2), V.int (C - 1)] = pk.map V.int := by rw [hpk]; rfl
    have pkl : pk.length = 4 := by rw [hpk]; rfl
    have pkb : ∀ i, i < 4 → 0 ≤ pk.getD i 0 ∧ pk.getD i 0 < C := fun i hi => by
      rw [hpk]
      match i, hi with
      | 0, _ => exact ⟨x1, x2⟩
      | 1, _ => exact ⟨x3, x4⟩
      | 2, _ => exact ⟨by show 0 ≤ C / 2; omega, by show C / 2 < C; omega⟩
      | 3, _ => exact ⟨by show 0 ≤ C - 1; omega, by show C - 1 < C; omega⟩
    rw [pkV]
    clear hpk pkV x1 x2 x3 x4
    have big : (1000 : Nat) ≤ sizeLine := by decide
    refine ⟨by rw [List.length_map, pkl]; decide, fun rp H6 n6 => ?_⟩
    refine ⟨f, dx, pl, kl, m, es, rfl, F5.same n6.same, by omega, m10, ok5, fun rt H7 n7 => ?_⟩
    walk_at "gs"
    intro ri H8 n8
    have s57 := n6.same.trans n7.same
    have p8 := (n7.same.trans n8.same) _ _ n6.at_
    have hgl : (MF.growC (fullN m) (bC m) (psOf es)).length = m + 1 + es.length := by rw [MF.growC_len, len_bC, List.length_map]
    refine ⟨⟨_, .of p8⟩, for_listG (xs := pk.map V.int) (fun i σ H9 => Same H7 H9 ∧ H9 ri = some (.lst ((tiN m (psOf es) pk (2 * i)).map nz)) ∧ ∃ v8, σ = [some (.ref p), some (.int m), some (.ref f), some (.ref bd), some (.int C), some (.ref rp), some (.ref rt), some (.ref ri), v8, none, none, none, none, none]) ⟨n8.same, n8.at_, _, rfl⟩ ?_ ?_ ?_⟩
    · rintro i σ H9 _ ⟨s9, _⟩
      exact .of (s9 _ _ (n7.same _ _ n6.at_))
    · rintro i x σ H9 hx ⟨s9, a9, v8, rfl⟩
      obtain ⟨kt, hg, rfl⟩ := get_map_of hx
      have hi : i < 4 := by have := (List.getElem?_eq_some_iff.mp hg).1; omega
      have hk : pk.getD i 0 = kt := by rw [List.getD, hg]; rfl
      obtain ⟨y1, y2⟩ := pkb i hi
      rw [hk] at y1 y2
      have e1 : 2 * pk.getD (2 * i / 2) 0 + ((2 * i % 2 : Nat) : Int) = 2 * kt := by rw [show 2 * i / 2 = i by omega, hk]; omega
      have e2 : 2 * pk.getD ((2 * i + 1) / 2) 0 + (((2 * i + 1) % 2 : Nat) : Int) = 2 * kt + 1 := by rw [show (2 * i + 1) / 2 = i by omega, hk]; omega
      walk_at "gs"
      refine ⟨.inl ⟨by trivial, _, .of a9⟩, ?_⟩
      walk_at "gs"
      refine ⟨f, dx, pl, kl, m, 2 * kt, es, rfl, F5.same (s57.trans s9), by omega, m10, ok5, fun _ H10 s10 => ?_, fun z => absurd ⟨by omega, by omega⟩ z⟩
      walk_at "gs"
      refine ⟨ri, _, _, rfl, rfl, s10 _ _ a9, by rw [List.length_map, tiN_len]; omega, ?_⟩
      have sA := (s9.trans s10).put (o := .lst ((tiN m (psOf es) pk (2 * i)).map nz ++ [V.int (MF.L (fullN m) (bC m) (psOf es) (2 * kt) : Nat)])) n8.was
      have aA : ∀ H9 : Hp, upd H9 ri (.lst ((tiN m (psOf es) pk (2 * i)).map nz ++ [V.int (MF.L (fullN m) (bC m) (psOf es) (2 * kt) : Nat)])) ri = some (.lst ((tiN m (psOf es) pk (2 * i + 1)).map nz)) := fun H9 => by
        rw [upd_same, tiN_succ, e1, List.map_append]; rfl
      have aB := aA H10
      generalize upd H10 ri (.lst ((tiN m (psOf es) pk (2 * i)).map nz ++ [V.int (MF.L (fullN m) (bC m) (psOf es) (2 * kt) : Nat)])) = H11 at *
      walk_at "gs"
      refine ⟨.inl ⟨by trivial, _, .of aB⟩, ?_⟩
      walk_at "gs"
      refine ⟨f, dx, pl, kl, m, 2 * kt + 1, es, rfl, F5.same (s57.trans sA), by omega, m10, ok5, fun _ H12 s12 => ?_, fun z => absurd ⟨by omega, by omega⟩ z⟩
      walk_at "gs"
      refine ⟨ri, _, _, rfl, rfl, s12 _ _ aB, by rw [List.length_map, tiN_len]; omega, (sA.trans s12).put n8.was, ?_, _, rfl⟩
      have t3 := tiN_succ m (psOf es) pk (2 * i + 1)
      rw [upd_same, show 2 * (i + 1) = 2 * i + 1 + 1 by omega, t3, e2, List.map_append]
      rfl
    · rintro σ H9 ⟨s9, a9, v8, rfl⟩
      rw [List.length_map, pkl] at a9
      walk_at "gs"
      have t9 := s9 _ _ n7.at_
      refine ⟨rt, _, m, C, rfl, t9, by rw [hgl]; omega, m10, col_lt m _, ?_⟩
      walk_at "gs"
      refine ⟨ri, _, m, 8, rfl, a9, by rw [tiN_len]; rfl, m10, fun c hc => ?_, ?_⟩
      · unfold tiN at hc
        obtain ⟨q, _, rfl⟩ := List.mem_map.mp hc
        exact tie_lt _ _ _
      walk_at "gs"
      have s59 := s57.trans s9
      refine ⟨p, ns, m, rfl, s59.seq sc5.sq, m10, fun js rj H10 hj hjl n10 => ?_⟩
      walk_at "gs"
      have p9 := s9 _ _ (n7.same _ _ n6.at_)
      refine ⟨⟨_, .of n10.at_⟩, for_listG (xs := js.map nz) (fun i σ H11 => Same H10 H11 ∧ ∃ v8 v9 v10 v11, σ = [some (.ref p), some (.int m), some (.ref f), some (.ref bd), some (.int C), some (.ref rp), some (.ref rt), some (.ref ri), v8, v9, v10, v11, none, none]) ⟨Same.refl _, _, _, _, _, rfl⟩ ?_ ?_ ?_⟩
      · rintro i σ H11 _ ⟨s11, _⟩
        exact .of (s11 _ _ n10.at_)
      · rintro i x σ H11 hx ⟨s11, v8, v9, v10, v11, rfl⟩
        obtain ⟨j, hg, rfl⟩ := get_map_of hx
        have hjl2 := hj j (List.mem_of_getElem? hg)
        unfold nz
        walk_at "gs"
        refine ⟨bd, m, j, psOf es, rfl, s11 _ _ (n10.same _ _ (s59 _ _ b5)), ok5, by rw [List.length_map]; omega, m10, fun rl H12 n12 => ?_⟩
        have s12 := (n10.same.trans s11).trans n12.same
        have hll : (MF.growC 1 (0 :: bitsN j m) (psOf es)).length = m + 1 + es.length := by rw [MF.growC_len, List.length_cons, len_bits, List.length_map]
        walk_at "gs"
        refine for_rngG (fun i σ H13 => H13 = H12 ∧ ∃ v8, σ = [some (.ref p), some (.int m), some (.ref f), some (.ref bd), some (.int C), some (.ref rp), some (.ref rt), some (.ref ri), v8, some (.int j), some (.ref rl), v11, none, none]) ⟨rfl, _, rfl⟩ ?_ ?_
        · rintro i σ H13 hi ⟨rfl, v8, rfl⟩
          walk_at "gs"
          refine ⟨_, _, .inl (.of (s12 _ _ t9)), at_nz (by omega) (by omega), ?_⟩
          walk_at "gs"
          refine ⟨_, _, .inl (.of n12.at_), at_nz (by omega) (by omega), ?_⟩
          walk_at "gs"
          rw [shr_int, col_bit hjl2, if_neg (by simp)]
          exact ⟨trivial, _, rfl⟩
        · rintro σ H13 ⟨rfl, v8, rfl⟩
          walk_at "gs"
          refine for_rngG (n := 4) (fun i σ H14 => H14 = H13 ∧ ∃ v11, σ = [some (.ref p), some (.int m), some (.ref f), some (.ref bd), some (.int C), some (.ref rp), some (.ref rt), some (.ref ri), v8, some (.int j), some (.ref rl), v11, none, none]) ⟨rfl, _, rfl⟩ ?_ ?_
          · rintro i σ H14 hi ⟨rfl, v11, rfl⟩
            obtain ⟨y1, y2⟩ := pkb i hi
            walk_at "gs"
            refine ⟨_, _, .inl (.of (s12 _ _ a9)), at_nz (by omega) (by rw [tiN_len]; omega), ?_⟩
            walk_at "gs"
            have pat : atI (pk.map V.int) (0 + (i : Int)) = some (.int (pk.getD (0 + (i : Int)).toNat 0)) := atI_map 0 (by omega) (by omega)
            rw [show ((0 : Int) + (i : Int)).toNat = i by omega] at pat
            have e1 : (tiN m (psOf es) pk (2 * 4)).getD (2 * (0 + (i : Int))).toNat 0 = MF.L (fullN m) (bC m) (psOf es) (2 * pk.getD i 0) := by
              rw [show (2 * (0 + (i : Int))).toNat = 2 * i by omega, tiN_at (by omega), show 2 * i / 2 = i by omega, show 2 * i % 2 = 0 by omega]
              congr 1
              omega
            have e2 : (tiN m (psOf es) pk (2 * 4)).getD (2 * (0 + (i : Int)) + 1).toNat 0 = MF.L (fullN m) (bC m) (psOf es) (2 * pk.getD i 0 + 1) := by
              rw [show (2 * (0 + (i : Int)) + 1).toNat = 2 * i + 1 by omega, tiN_at (by omega), show (2 * i + 1) / 2 = i by omega, show (2 * i + 1) % 2 = 1 by omega]
              rfl
            refine ⟨_, _, .inl (.of (s12 _ _ p9)), pat, ?_⟩
            walk_at "gs"
            refine ⟨_, _, .inl (.of n12.at_), at_nz (by omega) (by omega), ?_⟩
            walk_at "gs"
            rw [e1, shr_int, tie_bit hjl2, L_even, if_neg (by simp)]
            walk_at "gs"
            refine ⟨_, _, .inl (.of (s12 _ _ a9)), at_nz (by omega) (by rw [tiN_len]; omega), ?_⟩
            walk_at "gs"
            refine ⟨_, _, .inl (.of (s12 _ _ p9)), pat, ?_⟩
            walk_at "gs"
            refine ⟨_, _, .inl (.of n12.at_), at_nz (by omega) (by omega), ?_⟩
            walk_at "gs"
            rw [e2, shr_int, tie_bit hjl2, if_neg (fun z => L_odd (Int.ofNat_inj.mp z))]
            exact ⟨trivial, _, rfl⟩
          · rintro σ H14 ⟨rfl, v11, rfl⟩
            walk_at "gs"
            exact ⟨s11.trans n12.same, _, _, _, _, rfl⟩
      · rintro σ H11 ⟨s11, v8, v9, v10, v11, rfl⟩
        have s511 := s59.trans (n10.same.trans s11)
        have s911 := n10.same.trans s11
        walk_at "gs"
        refine ⟨p, ns, 1, rfl, s511.seq sc5.sq, fun c1 => ?_⟩
        have hp30 : (0 : Int) < 10 ^ (30 : Int).toNat := Int.pow_pos (by decide)
        have off0 := Int.emod_nonneg c1 (show ((10 : Int) ^ (30 : Int).toNat) ≠ 0 by omega)
        walk_at "gs"
        generalize c1 % 10 ^ (30 : Int).toNat = off at off0
        walk_at "gs"
        refine ⟨f, dx, pl, kl, m, _, es, rfl, F5.same s511, by omega, m10, ok5, fun z => by omega, fun H12 s12 => ?_⟩
        walk_at "gs"
        refine ⟨f, dx, pl, kl, m, _, es, rfl, F5.same (s511.trans s12), by omega, m10, ok5, fun z => by omega, fun H13 s13 => ?_⟩
        walk_at "gs"
        have s913 := s911.trans (s12.trans s13)
        have t13 := s913 _ _ t9
        refine ⟨_, .inl (.of t13), fun rk H14 n14 => ?_⟩
        walk_at "gs"
        have t14 := n14.same _ _ t13
        refine ⟨.inl ⟨by trivial, _, .of t14⟩, rt, _, rfl, rfl, t14, ?_⟩
        have s515 : Same H5 (upd H14 rt (.lst [])) := (s59.trans (s913.trans n14.same)).put (n6.same.nil n7.was)
        have nkt : rk ≠ rt := (ne_of_none t13 n14.was).symm
        have k15 : upd H14 rt (.lst []) rk = some (.lst ((MF.growC (fullN m) (bC m) (psOf es)).map nz)) := by rw [upd_ne nkt]; exact n14.at_
        generalize upd H14 rt (.lst []) = H15 at *
        walk_at "gs"
        refine ⟨p, ns, m, rfl, s515.seq sc5.sq, m10, fun js2 rj2 H16 hj2 hjl2 n16 => ?_⟩
        walk_at "gs"
        refine ⟨_, n16.sq, fun rs H17 n17 => ?_⟩
        rw [show (5 : Int) = ((5 : Nat) : Int) from rfl, cutN] at n17
        have s517 := s515.trans (n16.same.trans n17.same)
        have F17 := F5.same s517
        refine ⟨f, dx, pl, kl, bd, rs, m, es, js2.take 5, rfl, F17, s517 _ _ b5, ok5, m1, m10, hes, d1, n17.at_, (ne_of_none (n16.same _ _ (s515 _ _ F5.prs.lst)) n17.was).symm, fun j hj => hj2 j (List.mem_of_mem_take hj), fun H18 es' k18 F18 pre ok18 hle18 => ?_⟩
        walk_at "gs"
        have k18' : H18 rk = some (.lst ((MF.growC (fullN m) (bC m) (psOf es)).map nz)) := by
          refine k18 _ _ (fun z => ?_) (n17.same _ _ (n16.same _ _ k15))
          rcases z with z | z | z
          · have := F17.prs.lst
            rw [← z] at this
            have h2 := n17.same _ _ (n16.same _ _ k15)
            have h3 : H14 rk ≠ none := by rw [n14.at_]; exact fun z => nomatch z
            exact absurd n14.was (by rw [z]; exact fun q => nomatch (((s59.trans s913) _ _ F5.prs.lst).symm.trans q))
          · exact absurd n14.was (by rw [z]; exact fun q => nomatch (((s59.trans s913) _ _ F5.prs.dct).symm.trans q))
          · exact absurd n14.was (by rw [z]; exact fun q => nomatch (((s59.trans s913) _ _ b5).symm.trans q))
        refine ⟨f, dx, pl, kl, m, es', rfl, F18, by omega, m10, ok18, fun rq H19 n19 => ?_⟩
        walk_at "gs"
        refine ⟨_, n19.sq, fun rz H20 n20 => ?_⟩
        have hcut : cutV ((MF.growC (fullN m) (bC m) (psOf es')).map nz) none (some C) = (MF.growC (fullN m) (bC m) (psOf es)).map nz := by
          obtain ⟨e, he⟩ := pre
          obtain ⟨e2, he2⟩ := MF.growC_pre (fullN m) e (MF.growC (fullN m) (bC m) (psOf es))
          rw [cut_take _ (by omega), he, MF.growC_app, he2, List.map_append]
          have : C.toNat = ((MF.growC (fullN m) (bC m) (psOf es)).map nz).length := by rw [List.length_map, hgl]; omega
          rw [this, List.take_left]
        rw [hcut] at n20
        exact ⟨true, eq_nz n20.sq (.of (n20.same _ _ (n19.same _ _ k18'))), k _⟩
end K18

set_option maxHeartbeats 4000000
namespace K18
open PySem PySem.Spec PyProof.Rows L2
seal PE PT PS PSs PA PG PGs PI PO PW PTs PPs PK PC PSet PIp OpR UnR CallR IxR SlR MtR MtM
theorem lenN1 {us : List Value} (h : us.length = 1) : ∃ a, us = [a] := List.length_eq_one_iff.mp h
theorem lenN2 {us : List Value} (h : us.length = 2) : ∃ a b, us = [a, b] := by
  obtain _ | ⟨a, t⟩ := us
  · cases h
  · obtain ⟨b, rfl⟩ := lenN1 (Nat.succ.inj h)
    exact ⟨a, b, rfl⟩
theorem lenN3 {us : List Value} (h : us.length = 3) : ∃ a b c, us = [a, b, c] := by
  obtain _ | ⟨a, t⟩ := us
  · cases h
  · obtain ⟨b, c, rfl⟩ := lenN2 (Nat.succ.inj h)
    exact ⟨a, b, c, rfl⟩
theorem lenN4 {us : List Value} (h : us.length = 4) : ∃ a b c d, us = [a, b, c, d] := by
  obtain _ | ⟨a, t⟩ := us
  · cases h
  · obtain ⟨b, c, d, rfl⟩ := lenN3 (Nat.succ.inj h)
    exact ⟨a, b, c, d, rfl⟩
theorem lenN5 {us : List Value} (h : us.length = 5) : ∃ a b c d e, us = [a, b, c, d, e] := by
  obtain _ | ⟨a, t⟩ := us
  · cases h
  · obtain ⟨b, c, d, e, rfl⟩ := lenN4 (Nat.succ.inj h)
    exact ⟨a, b, c, d, e, rfl⟩
theorem all_mk {l : PySem.W.OpenLaw} {w : World} {K : PySem.W.Frag} {h : Heap} {mg : Str → Option Value} {fa : Addr} (X : K.In h) (G : h.Ns mainGlobals mg) (hfa : mg "law" = some (.ref fa))
    {f0 : Addr} {od0 an0 : Option Addr} {sl0 : Array (Option Value)} {oc0 kV0 dc0 pm0 cd0 ct0 : Value} {f1 : Addr} {od1 an1 : Option Addr} {sl1 : Array (Option Value)} {oc1 kV1 dc1 pm1 cd1 ct1 : Value} {f2 : Addr} {od2 an2 : Option Addr} {sl2 : Array (Option Value)} {oc2 kV2 dc2 pm2 cd2 ct2 : Value} {f3 : Addr} {od3 an3 : Option Addr} {sl3 : Array (Option Value)} {oc3 kV3 dc3 pm3 cd3 ct3 : Value} {f4 : Addr} {od4 an4 : Option Addr} {sl4 : Array (Option Value)} {oc4 kV4 dc4 pm4 cd4 ct4 : Value} {f5 : Addr} {od5 an5 : Option Addr} {sl5 : Array (Option Value)} {oc5 kV5 dc5 pm5 cd5 ct5 : Value} {f6 : Addr} {od6 an6 : Option Addr} {sl6 : Array (Option Value)} {oc6 kV6 dc6 pm6 cd6 ct6 : Value} {f7 : Addr} {od7 an7 : Option Addr} {sl7 : Array (Option Value)} {oc7 kV7 dc7 pm7 cd7 ct7 : Value} {f8 : Addr} {od8 an8 : Option Addr} {sl8 : Array (Option Value)} {oc8 kV8 dc8 pm8 cd8 ct8 : Value} {f9 : Addr} {od9 an9 : Option Addr} {sl9 : Array (Option Value)} {oc9 kV9 dc9 pm9 cd9 ct9 : Value} {f10 : Addr} {od10 an10 : Option Addr} {sl10 : Array (Option Value)} {oc10 kV10 dc10 pm10 cd10 ct10 : Value} {f11 : Addr} {od11 an11 : Option Addr} {sl11 : Array (Option Value)} {oc11 kV11 dc11 pm11 cd11 ct11 : Value} {f12 : Addr} {od12 an12 : Option Addr} {sl12 : Array (Option Value)} {oc12 kV12 dc12 pm12 cd12 ct12 : Value} {f13 : Addr} {od13 an13 : Option Addr} {sl13 : Array (Option Value)} {oc13 kV13 dc13 pm13 cd13 ct13 : Value} {f14 : Addr} {od14 an14 : Option Addr} {sl14 : Array (Option Value)} {oc14 kV14 dc14 pm14 cd14 ct14 : Value} {f15 : Addr} {od15 an15 : Option Addr} {sl15 : Array (Option Value)} {oc15 kV15 dc15 pm15 cd15 ct15 : Value} {f16 : Addr} {od16 an16 : Option Addr} {sl16 : Array (Option Value)} {oc16 kV16 dc16 pm16 cd16 ct16 : Value} {f17 : Addr} {od17 an17 : Option Addr} {sl17 : Array (Option Value)} {oc17 kV17 dc17 pm17 cd17 ct17 : Value} {f18 : Addr} {od18 an18 : Option Addr} {sl18 : Array (Option Value)} {oc18 kV18 dc18 pm18 cd18 ct18 : Value} {f19 : Addr} {od19 an19 : Option Addr} {sl19 : Array (Option Value)} {oc19 kV19 dc19 pm19 cd19 ct19 : Value} {f20 : Addr} {od20 an20 : Option Addr} {sl20 : Array (Option Value)} {oc20 kV20 dc20 pm20 cd20 ct20 : Value} {f21 : Addr} {od21 an21 : Option Addr} {sl21 : Array (Option Value)} {oc21 kV21 dc21 pm21 cd21 ct21 : Value} {f22 : Addr} {od22 an22 : Option Addr} {sl22 : Array (Option Value)} {oc22 kV22 dc22 pm22 cd22 ct22 : Value} {f23 : Addr} {od23 an23 : Option Addr} {sl23 : Array (Option Value)} {oc23 kV23 dc23 pm23 cd23 ct23 : Value} {f24 : Addr} {od24 an24 : Option Addr} {sl24 : Array (Option Value)} {oc24 kV24 dc24 pm24 cd24 ct24 : Value} {f25 : Addr} {od25 an25 : Option Addr} {sl25 : Array (Option Value)} {oc25 kV25 dc25 pm25 cd25 ct25 : Value} {C_Fold : Addr} {C_NoKnot : Addr} {C_NoTie : Addr} {ug_ALWAYS : Tok} {ug_NEVER : Tok}
    (aC_Fold : PySem.W.nsIn K mainGlobals "Fold" = some (some (.ref C_Fold)))
    (aC_NoKnot : PySem.W.nsIn K mainGlobals "NoKnot" = some (some (.ref C_NoKnot)))
    (aC_NoTie : PySem.W.nsIn K mainGlobals "NoTie" = some (some (.ref C_NoTie)))
    (a0 : PySem.W.nsIn K mainGlobals "full_column" = some (some (.ref f0)))
    (l0 : K.lookup f0 = some ⟨oc0, od0, .func (PySem.W.fnOf "full_column" "full_column" (defArgs s_full_column) (defBody s_full_column) (defScope s_full_column) .none kV0 dc0 pm0 an0 cd0 ct0), sl0⟩)
    (c0 : PySem.W.codeIn K cd0 "full_column" = true)
    (k0 : PySem.W.keepIn K (.ref f0) = true)
    (a1 : PySem.W.nsIn K mainGlobals "input_columns" = some (some (.ref f1)))
    (l1 : K.lookup f1 = some ⟨oc1, od1, .func (PySem.W.fnOf "input_columns" "input_columns" (defArgs s_input_columns) (defBody s_input_columns) (defScope s_input_columns) .none kV1 dc1 pm1 an1 cd1 ct1), sl1⟩)
    (c1 : PySem.W.codeIn K cd1 "input_columns" = true)
    (k1 : PySem.W.keepIn K (.ref f1) = true)
    (a2 : PySem.W.nsIn K mainGlobals "lit_knots" = some (some (.ref f2)))
    (l2 : K.lookup f2 = some ⟨oc2, od2, .func (PySem.W.fnOf "lit_knots" "lit_knots" (defArgs s_lit_knots) (defBody s_lit_knots) (defScope s_lit_knots) .none kV2 dc2 pm2 an2 cd2 ct2), sl2⟩)
    (c2 : PySem.W.codeIn K cd2 "lit_knots" = true)
    (k2 : PySem.W.keepIn K (.ref f2) = true)
    (a3 : PySem.W.nsIn K mainGlobals "lit_pair" = some (some (.ref f3)))
    (l3 : K.lookup f3 = some ⟨oc3, od3, .func (PySem.W.fnOf "lit_pair" "lit_pair" (defArgs s_lit_pair) (defBody s_lit_pair) (defScope s_lit_pair) .none kV3 dc3 pm3 an3 cd3 ct3), sl3⟩)
    (c3 : PySem.W.codeIn K cd3 "lit_pair" = true)
    (k3 : PySem.W.keepIn K (.ref f3) = true)
    (a4 : PySem.W.nsIn K mainGlobals "lit_tie" = some (some (.ref f4)))
    (l4 : K.lookup f4 = some ⟨oc4, od4, .func (PySem.W.fnOf "lit_tie" "lit_tie" (defArgs s_lit_tie) (defBody s_lit_tie) (defScope s_lit_tie) .none kV4 dc4 pm4 an4 cd4 ct4), sl4⟩)
    (c4 : PySem.W.codeIn K cd4 "lit_tie" = true)
    (k4 : PySem.W.keepIn K (.ref f4) = true)
    (a5 : PySem.W.nsIn K mainGlobals "need_tie" = some (some (.ref f5)))
    (l5 : K.lookup f5 = some ⟨oc5, od5, .func (PySem.W.fnOf "need_tie" "need_tie" (defArgs s_need_tie) (defBody s_need_tie) (defScope s_need_tie) .none kV5 dc5 pm5 an5 cd5 ct5), sl5⟩)
    (c5 : PySem.W.codeIn K cd5 "need_tie" = true)
    (k5 : PySem.W.keepIn K (.ref f5) = true)
    (a6 : PySem.W.nsIn K mainGlobals "column" = some (some (.ref f6)))
    (l6 : K.lookup f6 = some ⟨oc6, od6, .func (PySem.W.fnOf "column" "column" (defArgs s_column) (defBody s_column) (defScope s_column) .none kV6 dc6 pm6 an6 cd6 ct6), sl6⟩)
    (c6 : PySem.W.codeIn K cd6 "column" = true)
    (k6 : PySem.W.keepIn K (.ref f6) = true)
    (a7 : PySem.W.nsIn K mainGlobals "knot_columns" = some (some (.ref f7)))
    (l7 : K.lookup f7 = some ⟨oc7, od7, .func (PySem.W.fnOf "knot_columns" "knot_columns" (defArgs s_knot_columns) (defBody s_knot_columns) (defScope s_knot_columns) .none kV7 dc7 pm7 an7 cd7 ct7), sl7⟩)
    (c7 : PySem.W.codeIn K cd7 "knot_columns" = true)
    (k7 : PySem.W.keepIn K (.ref f7) = true)
    (a8 : PySem.W.nsIn K mainGlobals "turned" = some (some (.ref f8)))
    (l8 : K.lookup f8 = some ⟨oc8, od8, .func (PySem.W.fnOf "turned" "turned" (defArgs s_turned) (defBody s_turned) (defScope s_turned) .none kV8 dc8 pm8 an8 cd8 ct8), sl8⟩)
    (c8 : PySem.W.codeIn K cd8 "turned" = true)
    (k8 : PySem.W.keepIn K (.ref f8) = true)
    (a9 : PySem.W.findIn K (.ref C_Fold) "__init__" = some (some (.ref f9)))
    (i9 : PySem.W.isFn K (.ref f9) = true)
    (l9 : K.lookup f9 = some ⟨oc9, od9, .func (PySem.W.fnOf "__init__" "Fold.__init__" (defArgs s_Fold___init__) (defBody s_Fold___init__) (defScope s_Fold___init__) .none kV9 dc9 pm9 an9 cd9 ct9), sl9⟩)
    (c9 : PySem.W.codeIn K cd9 "Fold.__init__" = true)
    (k9 : PySem.W.keepIn K (.ref f9) = true)
    (a10 : PySem.W.findIn K (.ref C_Fold) "total" = some (some (.ref f10)))
    (i10 : PySem.W.isFn K (.ref f10) = true)
    (l10 : K.lookup f10 = some ⟨oc10, od10, .func (PySem.W.fnOf "total" "Fold.total" (defArgs s_Fold_total) (defBody s_Fold_total) (defScope s_Fold_total) .none kV10 dc10 pm10 an10 cd10 ct10), sl10⟩)
    (c10 : PySem.W.codeIn K cd10 "Fold.total" = true)
    (k10 : PySem.W.keepIn K (.ref f10) = true)
    (a11 : PySem.W.findIn K (.ref C_Fold) "has_tie" = some (some (.ref f11)))
    (i11 : PySem.W.isFn K (.ref f11) = true)
    (l11 : K.lookup f11 = some ⟨oc11, od11, .func (PySem.W.fnOf "has_tie" "Fold.has_tie" (defArgs s_Fold_has_tie) (defBody s_Fold_has_tie) (defScope s_Fold_has_tie) .none kV11 dc11 pm11 an11 cd11 ct11), sl11⟩)
    (c11 : PySem.W.codeIn K cd11 "Fold.has_tie" = true)
    (k11 : PySem.W.keepIn K (.ref f11) = true)
    (a12 : PySem.W.findIn K (.ref C_Fold) "pair" = some (some (.ref f12)))
    (i12 : PySem.W.isFn K (.ref f12) = true)
    (l12 : K.lookup f12 = some ⟨oc12, od12, .func (PySem.W.fnOf "pair" "Fold.pair" (defArgs s_Fold_pair) (defBody s_Fold_pair) (defScope s_Fold_pair) .none kV12 dc12 pm12 an12 cd12 ct12), sl12⟩)
    (c12 : PySem.W.codeIn K cd12 "Fold.pair" = true)
    (k12 : PySem.W.keepIn K (.ref f12) = true)
    (a13 : PySem.W.findIn K (.ref C_Fold) "both" = some (some (.ref f13)))
    (i13 : PySem.W.isFn K (.ref f13) = true)
    (l13 : K.lookup f13 = some ⟨oc13, od13, .func (PySem.W.fnOf "both" "Fold.both" (defArgs s_Fold_both) (defBody s_Fold_both) (defScope s_Fold_both) .none kV13 dc13 pm13 an13 cd13 ct13), sl13⟩)
    (c13 : PySem.W.codeIn K cd13 "Fold.both" = true)
    (k13 : PySem.W.keepIn K (.ref f13) = true)
    (a14 : PySem.W.findIn K (.ref C_Fold) "and_knot" = some (some (.ref f14)))
    (i14 : PySem.W.isFn K (.ref f14) = true)
    (l14 : K.lookup f14 = some ⟨oc14, od14, .func (PySem.W.fnOf "and_knot" "Fold.and_knot" (defArgs s_Fold_and_knot) (defBody s_Fold_and_knot) (defScope s_Fold_and_knot) .none kV14 dc14 pm14 an14 cd14 ct14), sl14⟩)
    (c14 : PySem.W.codeIn K cd14 "Fold.and_knot" = true)
    (k14 : PySem.W.keepIn K (.ref f14) = true)
    (a15 : PySem.W.nsIn K mainGlobals "_law_cell_at" = some (some (.ref f15)))
    (l15 : K.lookup f15 = some ⟨oc15, od15, .func (PySem.W.fnOf "_law_cell_at" "_law_cell_at" (defArgs s_law_cell_at) (defBody s_law_cell_at) (defScope s_law_cell_at) .none kV15 dc15 pm15 an15 cd15 ct15), sl15⟩)
    (c15 : PySem.W.codeIn K cd15 "_law_cell_at" = true)
    (k15 : PySem.W.keepIn K (.ref f15) = true)
    (a16 : PySem.W.nsIn K mainGlobals "_law_both" = some (some (.ref f16)))
    (l16 : K.lookup f16 = some ⟨oc16, od16, .func (PySem.W.fnOf "_law_both" "_law_both" (defArgs s_law_both) (defBody s_law_both) (defScope s_law_both) .none kV16 dc16 pm16 an16 cd16 ct16), sl16⟩)
    (c16 : PySem.W.codeIn K cd16 "_law_both" = true)
    (k16 : PySem.W.keepIn K (.ref f16) = true)
    (a17 : PySem.W.nsIn K mainGlobals "_law_lights" = some (some (.ref f17)))
    (l17 : K.lookup f17 = some ⟨oc17, od17, .func (PySem.W.fnOf "_law_lights" "_law_lights" (defArgs s_law_lights) (defBody s_law_lights) (defScope s_law_lights) .none kV17 dc17 pm17 an17 cd17 ct17), sl17⟩)
    (c17 : PySem.W.codeIn K cd17 "_law_lights" = true)
    (k17 : PySem.W.keepIn K (.ref f17) = true)
    (a18 : PySem.W.nsIn K mainGlobals "_law_is_column" = some (some (.ref f18)))
    (l18 : K.lookup f18 = some ⟨oc18, od18, .func (PySem.W.fnOf "_law_is_column" "_law_is_column" (defArgs s_law_is_column) (defBody s_law_is_column) (defScope s_law_is_column) .none kV18 dc18 pm18 an18 cd18 ct18), sl18⟩)
    (c18 : PySem.W.codeIn K cd18 "_law_is_column" = true)
    (k18 : PySem.W.keepIn K (.ref f18) = true)
    (a19 : PySem.W.nsIn K mainGlobals "_law_knots" = some (some (.ref f19)))
    (l19 : K.lookup f19 = some ⟨oc19, od19, .func (PySem.W.fnOf "_law_knots" "_law_knots" (defArgs s_law_knots) (defBody s_law_knots) (defScope s_law_knots) .none kV19 dc19 pm19 an19 cd19 ct19), sl19⟩)
    (c19 : PySem.W.codeIn K cd19 "_law_knots" = true)
    (k19 : PySem.W.keepIn K (.ref f19) = true)
    (a20 : PySem.W.nsIn K mainGlobals "_law_refused" = some (some (.ref f20)))
    (l20 : K.lookup f20 = some ⟨oc20, od20, .func (PySem.W.fnOf "_law_refused" "_law_refused" (defArgs s_law_refused) (defBody s_law_refused) (defScope s_law_refused) .none kV20 dc20 pm20 an20 cd20 ct20), sl20⟩)
    (c20 : PySem.W.codeIn K cd20 "_law_refused" = true)
    (k20 : PySem.W.keepIn K (.ref f20) = true)
    (a21 : PySem.W.nsIn K mainGlobals "_law_chain" = some (some (.ref f21)))
    (l21 : K.lookup f21 = some ⟨oc21, od21, .func (PySem.W.fnOf "_law_chain" "_law_chain" (defArgs s_law_chain) (defBody s_law_chain) (defScope s_law_chain) .none kV21 dc21 pm21 an21 cd21 ct21), sl21⟩)
    (c21 : PySem.W.codeIn K cd21 "_law_chain" = true)
    (k21 : PySem.W.keepIn K (.ref f21) = true)
    (a22 : PySem.W.nsIn K mainGlobals "_law_joined" = some (some (.ref f22)))
    (l22 : K.lookup f22 = some ⟨oc22, od22, .func (PySem.W.fnOf "_law_joined" "_law_joined" (defArgs s_law_joined) (defBody s_law_joined) (defScope s_law_joined) .none kV22 dc22 pm22 an22 cd22 ct22), sl22⟩)
    (c22 : PySem.W.codeIn K cd22 "_law_joined" = true)
    (k22 : PySem.W.keepIn K (.ref f22) = true)
    (a23 : PySem.W.nsIn K mainGlobals "_law_behind" = some (some (.ref f23)))
    (l23 : K.lookup f23 = some ⟨oc23, od23, .func (PySem.W.fnOf "_law_behind" "_law_behind" (defArgs s_law_behind) (defBody s_law_behind) (defScope s_law_behind) .none kV23 dc23 pm23 an23 cd23 ct23), sl23⟩)
    (c23 : PySem.W.codeIn K cd23 "_law_behind" = true)
    (k23 : PySem.W.keepIn K (.ref f23) = true)
    (a24 : PySem.W.nsIn K mainGlobals "_law_spots" = some (some (.ref f24)))
    (l24 : K.lookup f24 = some ⟨oc24, od24, .func (PySem.W.fnOf "_law_spots" "_law_spots" (defArgs s_law_spots) (defBody s_law_spots) (defScope s_law_spots) .none kV24 dc24 pm24 an24 cd24 ct24), sl24⟩)
    (c24 : PySem.W.codeIn K cd24 "_law_spots" = true)
    (k24 : PySem.W.keepIn K (.ref f24) = true)
    (a25 : PySem.W.nsIn K mainGlobals "law" = some (some (.ref f25)))
    (l25 : K.lookup f25 = some ⟨oc25, od25, .func (PySem.W.fnOf "law" "law" (defArgs s_law) (defBody s_law) (defScope s_law) .none kV25 dc25 pm25 an25 cd25 ct25), sl25⟩)
    (c25 : PySem.W.codeIn K cd25 "law" = true)
    (k25 : PySem.W.keepIn K (.ref f25) = true)
    (xi_NoKnot : PySem.W.excIn K C_NoKnot [.type "ValueError", .type "Exception", .type "BaseException", .type "object"] "ValueError.__new__" = true)
    (xq_NoKnot : exq K C_NoKnot = true)
    (kv_NoKnot : PySem.W.kitOne K (.ref C_NoKnot) (.type "ValueError") = some true)
    (xm_NoKnot_NoTie : (L2.mroIn K C_NoKnot).contains (.ref C_NoTie) = false)
    (xi_NoTie : PySem.W.excIn K C_NoTie [.type "ValueError", .type "Exception", .type "BaseException", .type "object"] "ValueError.__new__" = true)
    (xq_NoTie : exq K C_NoTie = true)
    (kv_NoTie : PySem.W.kitOne K (.ref C_NoTie) (.type "ValueError") = some true)
    (xm_NoTie_NoTie : (L2.mroIn K C_NoTie).contains (.ref C_NoTie) = true)
    (xk_NoKnot : PySem.W.ktsIn K C_NoKnot "BaseException" = true)
    (xk_NoTie : PySem.W.ktsIn K C_NoTie "BaseException" = true)
    (pg_Fold : PySem.W.plainGet K C_Fold Str.empty = true)
    (hd_Fold : PySem.W.hasDictIn K C_Fold = true)
    (po_Fold : PySem.W.plainOver K C_Fold = true)
    (sa_Fold : PySem.W.findIn K (.ref C_Fold) "__setattr__" = some (some (.builtin "object.__setattr__")))
    (mk_Fold : PySem.W.makesIn K C_Fold = true)
    (kc_Fold : PySem.W.keepIn K (.ref C_Fold) = true)
    (n_Fold_many : PySem.W.findIn K (.ref C_Fold) "many" = some none)
    (n_Fold_pairs : PySem.W.findIn K (.ref C_Fold) "pairs" = some none)
    (n_Fold_knots : PySem.W.findIn K (.ref C_Fold) "knots" = some none)
    (g_ALWAYS : PySem.W.nsIn K mainGlobals "ALWAYS" = some (some (.int 1 ug_ALWAYS)))
    (g_NEVER : PySem.W.nsIn K mainGlobals "NEVER" = some (some (.int 0 ug_NEVER)))
    (z_bool : PySem.W.nsIn K mainGlobals "bool" = some none)
    (z_int : PySem.W.nsIn K mainGlobals "int" = some none)
    (z_isinstance : PySem.W.nsIn K mainGlobals "isinstance" = some none)
    (z_len : PySem.W.nsIn K mainGlobals "len" = some none)
    (z_list : PySem.W.nsIn K mainGlobals "list" = some none)
    (z_max : PySem.W.nsIn K mainGlobals "max" = some none)
    (z_min : PySem.W.nsIn K mainGlobals "min" = some none)
    (z_range : PySem.W.nsIn K mainGlobals "range" = some none) :
    ∃ fd : FuncData, (∀ (s : Shared) (v : Value), BindsTo s fd ⟨[v], []⟩ [("_law_script", v)]) ∧ ∀ base : Heap, K.In base → base.Ns mainGlobals mg → FnOk l.prog w K mg base CX0 6 fa fd ["_law_script"] (sp_law K) := by
  have e := hfa.symm.trans (PySem.W.mg_of X G a25)
  cases e
  have F0 := fun_mk (st := s_full_column) l0 c0 k0
  have B0 := F0.binds (ps := ["many"]) fun _ _ _ _ _ _ us hl => by obtain ⟨_, rfl⟩ := lenN1 hl; rfl
  have F1 := fun_mk (st := s_input_columns) l1 c1 k1
  have B1 := F1.binds (ps := ["many"]) fun _ _ _ _ _ _ us hl => by obtain ⟨_, rfl⟩ := lenN1 hl; rfl
  have F2 := fun_mk (st := s_lit_knots) l2 c2 k2
  have B2 := F2.binds (ps := ["fold", "top", "inputs", "every"]) fun _ _ _ _ _ _ us hl => by obtain ⟨_, _, _, _, rfl⟩ := lenN4 hl; rfl
  have F3 := fun_mk (st := s_lit_pair) l3 c3 k3
  have B3 := F3.binds (ps := ["lit", "pair", "every"]) fun _ _ _ _ _ _ us hl => by obtain ⟨_, _, _, rfl⟩ := lenN3 hl; rfl
  have F4 := fun_mk (st := s_lit_tie) l4 c4 k4
  have B4 := F4.binds (ps := ["lit", "tie", "every"]) fun _ _ _ _ _ _ us hl => by obtain ⟨_, _, _, rfl⟩ := lenN3 hl; rfl
  have F5 := fun_mk (st := s_need_tie) l5 c5 k5
  have B5 := F5.binds (ps := ["fold", "tie"]) fun _ _ _ _ _ _ us hl => by obtain ⟨_, _, rfl⟩ := lenN2 hl; rfl
  have F6 := fun_mk (st := s_column) l6 c6 k6
  have B6 := F6.binds (ps := ["fold", "tie"]) fun _ _ _ _ _ _ us hl => by obtain ⟨_, _, rfl⟩ := lenN2 hl; rfl
  have F7 := fun_mk (st := s_knot_columns) l7 c7 k7
  have B7 := F7.binds (ps := ["fold"]) fun _ _ _ _ _ _ us hl => by obtain ⟨_, rfl⟩ := lenN1 hl; rfl
  have F8 := fun_mk (st := s_turned) l8 c8 k8
  have B8 := F8.binds (ps := ["tie"]) fun _ _ _ _ _ _ us hl => by obtain ⟨_, rfl⟩ := lenN1 hl; rfl
  have F9 := fun_mk (st := s_Fold___init__) l9 c9 k9
  have B9 := F9.binds (ps := ["self", "many"]) fun _ _ _ _ _ _ us hl => by obtain ⟨_, _, rfl⟩ := lenN2 hl; rfl
  have F10 := fun_mk (st := s_Fold_total) l10 c10 k10
  have B10 := F10.binds (ps := ["self"]) fun _ _ _ _ _ _ us hl => by obtain ⟨_, rfl⟩ := lenN1 hl; rfl
  have F11 := fun_mk (st := s_Fold_has_tie) l11 c11 k11
  have B11 := F11.binds (ps := ["self", "tie"]) fun _ _ _ _ _ _ us hl => by obtain ⟨_, _, rfl⟩ := lenN2 hl; rfl
  have F12 := fun_mk (st := s_Fold_pair) l12 c12 k12
  have B12 := F12.binds (ps := ["self", "knot"]) fun _ _ _ _ _ _ us hl => by obtain ⟨_, _, rfl⟩ := lenN2 hl; rfl
  have F13 := fun_mk (st := s_Fold_both) l13 c13 k13
  have B13 := F13.binds (ps := ["self", "one", "other"]) fun _ _ _ _ _ _ us hl => by obtain ⟨_, _, _, rfl⟩ := lenN3 hl; rfl
  have F14 := fun_mk (st := s_Fold_and_knot) l14 c14 k14
  have B14 := F14.binds (ps := ["self", "ties"]) fun _ _ _ _ _ _ us hl => by obtain ⟨_, _, rfl⟩ := lenN2 hl; rfl
  have F15 := fun_mk (st := s_law_cell_at) l15 c15 k15
  have B15 := F15.binds (ps := ["_law_script", "_law_k"]) fun _ _ _ _ _ _ us hl => by obtain ⟨_, _, rfl⟩ := lenN2 hl; rfl
  have F16 := fun_mk (st := s_law_both) l16 c16 k16
  have B16 := F16.binds (ps := ["_law_pairs", "_law_many", "_law_one", "_law_other"]) fun _ _ _ _ _ _ us hl => by obtain ⟨_, _, _, _, rfl⟩ := lenN4 hl; rfl
  have F17 := fun_mk (st := s_law_lights) l17 c17 k17
  have B17 := F17.binds (ps := ["_law_pairs", "_law_many", "_law_lighting"]) fun _ _ _ _ _ _ us hl => by obtain ⟨_, _, _, rfl⟩ := lenN3 hl; rfl
  have F18 := fun_mk (st := s_law_is_column) l18 c18 k18
  have B18 := F18.binds (ps := ["_law_found", "_law_many"]) fun _ _ _ _ _ _ us hl => by obtain ⟨_, _, rfl⟩ := lenN2 hl; rfl
  have F19 := fun_mk (st := s_law_knots) l19 c19 k19
  have B19 := F19.binds (ps := ["_law_found", "_law_many", "_law_count"]) fun _ _ _ _ _ _ us hl => by obtain ⟨_, _, _, rfl⟩ := lenN3 hl; rfl
  have F20 := fun_mk (st := s_law_refused) l20 c20 k20
  have B20 := F20.binds (ps := ["_law_fold", "_law_tie"]) fun _ _ _ _ _ _ us hl => by obtain ⟨_, _, rfl⟩ := lenN2 hl; rfl
  have F21 := fun_mk (st := s_law_chain) l21 c21 k21
  have B21 := F21.binds (ps := ["_law_fold", "_law_pairs", "_law_many", "_law_long"]) fun _ _ _ _ _ _ us hl => by obtain ⟨_, _, _, _, rfl⟩ := lenN4 hl; rfl
  have F22 := fun_mk (st := s_law_joined) l22 c22 k22
  have B22 := F22.binds (ps := ["_law_fold", "_law_pairs", "_law_many", "_law_cells", "_law_free"]) fun _ _ _ _ _ _ us hl => by obtain ⟨_, _, _, _, _, rfl⟩ := lenN5 hl; rfl
  have F23 := fun_mk (st := s_law_behind) l23 c23 k23
  have B23 := F23.binds (ps := ["_law_fold", "_law_pairs", "_law_many", "_law_spots_here"]) fun _ _ _ _ _ _ us hl => by obtain ⟨_, _, _, _, rfl⟩ := lenN4 hl; rfl
  have F24 := fun_mk (st := s_law_spots) l24 c24 k24
  have B24 := F24.binds (ps := ["_law_script", "_law_many"]) fun _ _ _ _ _ _ us hl => by obtain ⟨_, _, rfl⟩ := lenN2 hl; rfl
  have F25 := fun_mk (st := s_law) l25 c25 k25
  have B25 := F25.binds (ps := ["_law_script"]) fun _ _ _ _ _ _ us hl => by obtain ⟨_, rfl⟩ := lenN1 hl; rfl
  have T : Txt K mg ⟨f0, _, f1, _, f2, _, f3, _, f4, _, f5, _, f6, _, f7, _, f8, _, f9, _, f10, _, f11, _, f12, _, f13, _, f14, _, f15, _, f16, _, f17, _, f18, _, f19, _, f20, _, f21, _, f22, _, f23, _, f24, _, _, _, C_Fold, C_NoKnot, C_NoTie⟩ := ⟨PySem.W.mg_of X G a0, F0, B0, PySem.W.mg_of X G a1, F1, B1, PySem.W.mg_of X G a2, F2, B2, PySem.W.mg_of X G a3, F3, B3, PySem.W.mg_of X G a4, F4, B4, PySem.W.mg_of X G a5, F5, B5, PySem.W.mg_of X G a6, F6, B6, PySem.W.mg_of X G a7, F7, B7, PySem.W.mg_of X G a8, F8, B8, F9, B9, F10, B10, ⟨a10, i10, k10⟩, F11, B11, ⟨a11, i11, k11⟩, F12, B12, ⟨a12, i12, k12⟩, F13, B13, ⟨a13, i13, k13⟩, F14, B14, ⟨a14, i14, k14⟩, PySem.W.mg_of X G a15, F15, B15, PySem.W.mg_of X G a16, F16, B16, PySem.W.mg_of X G a17, F17, B17, PySem.W.mg_of X G a18, F18, B18, PySem.W.mg_of X G a19, F19, B19, PySem.W.mg_of X G a20, F20, B20, PySem.W.mg_of X G a21, F21, B21, PySem.W.mg_of X G a22, F22, B22, PySem.W.mg_of X G a23, F23, B23, PySem.W.mg_of X G a24, F24, B24, PySem.W.mg_of X G a25, F25, B25, PySem.W.mg_of X G aC_Fold, ⟨pg_Fold, hd_Fold, po_Fold, sa_Fold⟩, ⟨mk_Fold, a9, i9, kc_Fold⟩, n_Fold_many, n_Fold_pairs, n_Fold_knots, PySem.W.mg_of X G aC_NoKnot, PySem.W.mg_of X G aC_NoTie, xi_NoKnot, xq_NoKnot, kv_NoKnot, xm_NoKnot_NoTie, xi_NoTie, xq_NoTie, kv_NoTie, xm_NoTie_NoTie, xk_NoKnot, xk_NoTie, ⟨_, PySem.W.mg_of X G g_ALWAYS, ⟨_, rfl⟩⟩, ⟨_, PySem.W.mg_of X G g_NEVER, ⟨_, rfl⟩⟩, PySem.W.mg_none_of X G z_bool, PySem.W.mg_none_of X G z_int, PySem.W.mg_none_of X G z_isinstance, PySem.W.mg_none_of X G z_len, PySem.W.mg_none_of X G z_list, PySem.W.mg_none_of X G z_max, PySem.W.mg_none_of X G z_min, PySem.W.mg_none_of X G z_range⟩
  exact ⟨_, fun s v => .of_eq rfl, fun base _ _ => ok_law T⟩
theorem walk {l : PySem.W.OpenLaw} {q : Program} {loose : List Str} {XP : (Str → Option Value) → Heap → Prop} {YP : World → Heap → Prop} {d : DefRec} {K : Params → PySem.W.Frag} (hn : l.most = some 63) (hdf : d.params.defaults = [])
    (hY : ∀ (w : World) (h : Heap), YP w h → (K w.params).In h)
    (F : ∀ (w : World) (mg : Str → Option Value) (fa : Addr) (h : Heap), (K w.params).In h → h.Ns mainGlobals mg → mg d.name = some (.ref fa) →
      ∃ fd : FuncData, (∀ (s : Shared) (u : Value), BindsTo s fd ⟨[u], []⟩ [("_law_script", u)]) ∧ ∀ base : Heap, (K w.params).In base → base.Ns mainGlobals mg → FnOk l.prog w (K w.params) mg base CX0 6 fa fd ["_law_script"] (sp_law (K w.params))) :
    PySem.W.WalkO q loose XP YP l.row.toRowW d [] (fun f vs => PySem.call f vs) :=
  L2.walk_of (n := 63) (k := 6) (x := "_law_script") (CX := fun _ => CX0) (sp := fun w => sp_law (K w.params)) hn (by decide) hdf ⟨rfl, by decide, by decide⟩ hY F (fun _ _ a ns hl _ hS => ⟨a, ns, rfl, hS, hl, fun _ => rfl⟩) fun _ _ _ _ _ z => z
end K18
open PySem PySem.W PyProof.Rows
set_option maxRecDepth 100000 in
set_option maxHeartbeats 0 in
theorem PySem.Challenge.cw_gatefold_k18_columns_of_knots_holds : PySem.Challenge.rw_gatefold_k18_columns_of_knots.Holds := by
  w_on; o_law; k_head; (case hw => w_witness2)
  k_fill
  refine K18.walk (l := PySem.Challenge.rw_gatefold_k18_columns_of_knots) rfl rfl (fun w h Y => PySem.W.kIn_of Y) ?F
  case F =>
    intro w mg fa h KX G hmg
    refine' K18.all_mk KX G hmg ?aC_Fold ?aC_NoKnot ?aC_NoTie ?a0 ?l0 ?c0 ?k0 ?a1 ?l1 ?c1 ?k1 ?a2 ?l2 ?c2 ?k2 ?a3 ?l3 ?c3 ?k3 ?a4 ?l4 ?c4 ?k4 ?a5 ?l5 ?c5 ?k5 ?a6 ?l6 ?c6 ?k6 ?a7 ?l7 ?c7 ?k7 ?a8 ?l8 ?c8 ?k8 ?a9 ?i9 ?l9 ?c9 ?k9 ?a10 ?i10 ?l10 ?c10 ?k10 ?a11 ?i11 ?l11 ?c11 ?k11 ?a12 ?i12 ?l12 ?c12 ?k12 ?a13 ?i13 ?l13 ?c13 ?k13 ?a14 ?i14 ?l14 ?c14 ?k14 ?a15 ?l15 ?c15 ?k15 ?a16 ?l16 ?c16 ?k16 ?a17 ?l17 ?c17 ?k17 ?a18 ?l18 ?c18 ?k18 ?a19 ?l19 ?c19 ?k19 ?a20 ?l20 ?c20 ?k20 ?a21 ?l21 ?c21 ?k21 ?a22 ?l22 ?c22 ?k22 ?a23 ?l23 ?c23 ?k23 ?a24 ?l24 ?c24 ?k24 ?a25 ?l25 ?c25 ?k25 ?xi_NoKnot ?xq_NoKnot ?kv_NoKnot ?xm_NoKnot_NoTie ?xi_NoTie ?xq_NoTie ?kv_NoTie ?xm_NoTie_NoTie ?xk_NoKnot ?xk_NoTie ?pg_Fold ?hd_Fold ?po_Fold ?sa_Fold ?mk_Fold ?kc_Fold ?n_Fold_many ?n_Fold_pairs ?n_Fold_knots ?g_ALWAYS ?g_NEVER ?z_bool ?z_int ?z_isinstance ?z_len ?z_list ?z_max ?z_min ?z_range
    (case aC_Fold => k_is)
    (case aC_NoKnot => k_is)
    (case aC_NoTie => k_is)
    (case a0 => k_is)
    (case l0 => k_is)
    (case c0 => k_is)
    (case k0 => k_is)
    (case a1 => k_is)
    (case l1 => k_is)
    (case c1 => k_is)
    (case k1 => k_is)
    (case a2 => k_is)
    (case l2 => k_is)
    (case c2 => k_is)
    (case k2 => k_is)
    (case a3 => k_is)
    (case l3 => k_is)
    (case c3 => k_is)
    (case k3 => k_is)
    (case a4 => k_is)
    (case l4 => k_is)
    (case c4 => k_is)
    (case k4 => k_is)
    (case a5 => k_is)
    (case l5 => k_is)
    (case c5 => k_is)
    (case k5 => k_is)
    (case a6 => k_is)
    (case l6 => k_is)
    (case c6 => k_is)
    (case k6 => k_is)
    (case a7 => k_is)
    (case l7 => k_is)
    (case c7 => k_is)
    (case k7 => k_is)
    (case a8 => k_is)
    (case l8 => k_is)
    (case c8 => k_is)
    (case k8 => k_is)
    (case a9 => k_is)
    (case i9 => k_is)
    (case l9 => k_is)
    (case c9 => k_is)
    (case k9 => k_is)
    (case a10 => k_is)
    (case i10 => k_is)
    (case l10 => k_is)
    (case c10 => k_is)
    (case k10 => k_is)
    (case a11 => k_is)
    (case i11 => k_is)
    (case l11 => k_is)
    (case c11 => k_is)
    (case k11 => k_is)
    (case a12 => k_is)
    (case i12 => k_is)
    (case l12 => k_is)
    (case c12 => k_is)
    (case k12 => k_is)
    (case a13 => k_is)
    (case i13 => k_is)
    (case l13 => k_is)
    (case c13 => k_is)
    (case k13 => k_is)
    (case a14 => k_is)
    (case i14 => k_is)
    (case l14 => k_is)
    (case c14 => k_is)
    (case k14 => k_is)
    (case a15 => k_is)
    (case l15 => k_is)
    (case c15 => k_is)
    (case k15 => k_is)
    (case a16 => k_is)
    (case l16 => k_is)
    (case c16 => k_is)
    (case k16 => k_is)
    (case a17 => k_is)
    (case l17 => k_is)
    (case c17 => k_is)
    (case k17 => k_is)
    (case a18 => k_is)
    (case l18 => k_is)
    (case c18 => k_is)
    (case k18 => k_is)
    (case a19 => k_is)
    (case l19 => k_is)
    (case c19 => k_is)
    (case k19 => k_is)
    (case a20 => k_is)
    (case l20 => k_is)
    (case c20 => k_is)
    (case k20 => k_is)
    (case a21 => k_is)
    (case l21 => k_is)
    (case c21 => k_is)
    (case k21 => k_is)
    (case a22 => k_is)
    (case l22 => k_is)
    (case c22 => k_is)
    (case k22 => k_is)
    (case a23 => k_is)
    (case l23 => k_is)
    (case c23 => k_is)
    (case k23 => k_is)
    (case a24 => k_is)
    (case l24 => k_is)
    (case c24 => k_is)
    (case k24 => k_is)
    (case a25 => k_is)
    (case l25 => k_is)
    (case c25 => k_is)
    (case k25 => k_is)
    (case xi_NoKnot => kernel_rfl)
    (case xq_NoKnot => first | rfl | decide +kernel | k_is)
    (case kv_NoKnot => first | rfl | decide +kernel | k_is)
    (case xm_NoKnot_NoTie => first | rfl | decide +kernel | k_is)
    (case xi_NoTie => kernel_rfl)
    (case xq_NoTie => first | rfl | decide +kernel | k_is)
    (case kv_NoTie => first | rfl | decide +kernel | k_is)
    (case xm_NoTie_NoTie => first | rfl | decide +kernel | k_is)
    (case xk_NoKnot => first | rfl | decide +kernel | k_is)
    (case xk_NoTie => first | rfl | decide +kernel | k_is)
    (case pg_Fold => k_is)
    (case hd_Fold => k_is)
    (case po_Fold => k_is)
    (case sa_Fold => k_is)
    (case mk_Fold => k_is)
    (case kc_Fold => k_is)
    (case n_Fold_many => k_is)
    (case n_Fold_pairs => k_is)
    (case n_Fold_knots => k_is)
    (case g_ALWAYS => k_is)
    (case g_NEVER => k_is)
    (case z_bool => k_is)
    (case z_int => k_is)
    (case z_isinstance => k_is)
    (case z_len => k_is)
    (case z_list => k_is)
    (case z_max => k_is)
    (case z_min => k_is)
    (case z_range => k_is)

