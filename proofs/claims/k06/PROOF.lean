import PyProof.Rows.All
import Wide.All
import OpenK.AllK
import Wide.FinOn
import Lean
import PyProof.EqAt
import PyProof.EqKinds
import PyProof.TupleCall
import PyProof.ZipIter
import PyProof.WalksMore
import PyProof.ListNew
import PyProof.IsiBase
import PyProof.DictList
import PyProof.AttrMiss
import PyProof.FactsAll.dict
import PyProof.ListRange
import PyProof.StrLawsWords
import PySem.Challenge.RW_gatefold_k06_net_written
set_option Elab.async false
set_option linter.all false
set_option maxRecDepth 100000
/-! THE HAND LAYER, for ints, bools, texts, own classes, LISTS and tuples (index, slices, in, append, pop ..), calls, loops. Paste it whole ahead of your own text; what your proof does not reach may be deleted. -/
namespace L2
open PySem PySem.Spec PyProof.Rows

/-- a key: an int or a str -/
abbrev Key := Sum Int Str
def keyIs : Key → Value → Bool
  | .inl k, v => Value.isInt k v
  | .inr x, v => Value.isStrOf x v
def keyH (w : World) : Key → Int
  | .inl k => hashInt k
  | .inr x => hashStr w x
theorem keyIs_shape : ∀ {k : Key} {v : Value}, keyIs k v = true → (∃ i t, k = Sum.inl i ∧ v = Value.int i t) ∨ (∃ x t, k = Sum.inr x ∧ v = Value.str x t)
  | .inl i, v, h => by
    obtain ⟨t, e⟩ := Value.isInt_shape (k := i) (v := v) h
    exact .inl ⟨i, t, rfl, e⟩
  | .inr x, v, h => by
    obtain ⟨t, e⟩ := Value.isStrOf_shape (x := x) (v := v) h
    exact .inr ⟨x, t, rfl, e⟩
theorem keyIs_int (i : Int) (t : Tok) : keyIs (.inl i) (.int i t) = true := by simp [keyIs, Value.isInt]
theorem keyIs_str (x : Str) (t : Tok) : keyIs (.inr x) (.str x t) = true := by simp [keyIs, Value.isStrOf]
theorem key_ll (a b : Int) : decide ((Sum.inl a : Key) = Sum.inl b) = (a == b) := by
  by_cases e : a = b
  · subst e; simp
  · have h : ¬ (Sum.inl a : Key) = Sum.inl b := fun q => e (Sum.inl.inj q)
    rw [decide_eq_false h]
    exact (beq_eq_false_iff_ne.mpr e).symm
theorem key_rr (a b : Str) : decide ((Sum.inr a : Key) = Sum.inr b) = decide (a = b) := by
  by_cases e : a = b
  · subst e; simp
  · have h : ¬ (Sum.inr a : Key) = Sum.inr b := fun q => e (Sum.inr.inj q)
    rw [decide_eq_false h, decide_eq_false e]
theorem key_lr (a : Int) (b : Str) : decide ((Sum.inl a : Key) = Sum.inr b) = false := decide_eq_false (fun q => nomatch q)
theorem key_rl (a : Str) (b : Int) : decide ((Sum.inr a : Key) = Sum.inl b) = false := decide_eq_false (fun q => nomatch q)

def mixKind (prog : Program) (w : World) : PySem.KeyKind prog w Key where
  is := keyIs
  hash := keyH w
  inj := fun v a b ha hb => by
    rcases keyIs_shape ha with ⟨i, t, rfl, rfl⟩ | ⟨x, t, rfl, rfl⟩
    · rcases keyIs_shape hb with ⟨j, u, rfl, e⟩ | ⟨y, u, rfl, e⟩
      · injection e with e1 _; rw [e1]
      · exact nomatch e
    · rcases keyIs_shape hb with ⟨j, u, rfl, e⟩ | ⟨y, u, rfl, e⟩
      · exact nomatch e
      · injection e with e1 _; rw [e1]
  byValue := fun k v h => by
    rcases keyIs_shape h with ⟨i, t, rfl, rfl⟩ | ⟨x, t, rfl, rfl⟩ <;> rfl
  pyHash := fun hv h => by
    rcases keyIs_shape hv with ⟨i, t, rfl, rfl⟩ | ⟨x, t, rfl, rfl⟩
    · exact wpAny_pyHash_int h
    · exact wpAny_pyHash_str h
  eqBool := fun hu hv h => by
    rcases keyIs_shape hu with ⟨i, t, rfl, rfl⟩ | ⟨x, t, rfl, rfl⟩
    · rcases keyIs_shape hv with ⟨j, u, rfl, rfl⟩ | ⟨y, u, rfl, rfl⟩
      · rw [key_ll] at h; exact wpAny_eqBool_int h
      · rw [key_lr] at h; exact SeqAt.EqAt.int_str i t y u _ _ _ _ h
    · rcases keyIs_shape hv with ⟨j, u, rfl, rfl⟩ | ⟨y, u, rfl, rfl⟩
      · rw [key_rl] at h; exact SeqAt.EqAt.str_int x t j u _ _ _ _ h
      · rw [key_rr] at h; exact wpAny_eqBool_str h
  «strs» := fun k x t v h => by
    rcases keyIs_shape h with ⟨i, u, rfl, e⟩ | ⟨y, u, rfl, e⟩
    · exact nomatch e
    · injection e with e1 _
      subst e1
      cases v <;> rfl

theorem mixKind_int (prog : Program) (w : World) (i : Int) (t : Tok) : (mixKind prog w).is (.inl i) (.int i t) = true := keyIs_int i t
theorem mixKind_str (prog : Program) (w : World) (x : Str) (t : Tok) : (mixKind prog w).is (.inr x) (.str x t) = true := keyIs_str x t
end L2

namespace L2
open PySem PySem.Spec PyProof.Rows

/-- a value, without the heap -/
inductive V where
  | non | bl (b : Bool) | int (i : Int) | str (x : Str) | byt (b : Array UInt8) | flt (b : UInt64) | ref (a : Addr) | ty (n : String)
  deriving DecidableEq

def RelV : V → Value → Prop
  | .non, u => u = Value.none
  | .bl b, u => u = Value.bool b
  | .int i, u => ∃ t, u = Value.int i t
  | .str x, u => ∃ t, u = Value.str x t
  | .byt b, u => ∃ t, u = Value.bytes b t
  | .flt b, u => ∃ t, u = Value.float b t
  | .ref a, u => u = Value.ref a
  | .ty n, u => u = Value.type n

abbrev Vals : List V → List Value → Prop := Paired RelV
theorem Vals.length {xs : List V} {us : List Value} (r : Vals xs us) : xs.length = us.length := Paired.length r
theorem Vals.get : ∀ {xs : List V} {us : List Value} {i : Nat} {x : V}, Vals xs us → xs[i]? = some x → ∃ u, us[i]? = some u ∧ RelV x u
  | _, _, _, _, .nil, e => by simp at e
  | _, _, 0, _, .cons r _, e => by simp at e; subst e; exact ⟨_, rfl, r⟩
  | _, _, i + 1, x, .cons _ t, e => by
    obtain ⟨u, h1, h2⟩ := Vals.get (i := i) (x := x) t (by simpa using e)
    exact ⟨u, by simpa using h1, h2⟩
theorem Vals.set {x : V} {u : Value} (r : RelV x u) : ∀ {xs : List V} {us : List Value} (i : Nat), Vals xs us → Vals (xs.set i x) (us.set i u)
  | _, _, _, .nil => .nil
  | _, _, 0, .cons _ t => .cons r t
  | _, _, i + 1, .cons q t => .cons q (Vals.set r i t)
theorem Vals.append : ∀ {xs ys : List V} {us ws : List Value}, Vals xs us → Vals ys ws → Vals (xs ++ ys) (us ++ ws)
  | _, _, _, _, .nil, s => s
  | _, _, _, _, .cons r t, s => .cons r (Vals.append t s)
theorem Vals.take : ∀ {xs : List V} {us : List Value} (n : Nat), Vals xs us → Vals (xs.take n) (us.take n)
  | _, _, 0, _ => .nil
  | _, _, _ + 1, .nil => .nil
  | _, _, n + 1, .cons r t => .cons r (Vals.take n t)
theorem Vals.drop : ∀ {xs : List V} {us : List Value} (n : Nat), Vals xs us → Vals (xs.drop n) (us.drop n)
  | _, _, 0, r => r
  | _, _, _ + 1, .nil => .nil
  | _, _, n + 1, .cons _ t => Vals.drop n t
def RelO : Option V → Option Value → Prop
  | some v, some u => RelV v u
  | none, none => True
  | _, _ => False
def KV {κ : Type} : List (κ × V) → List (κ × Value) → Prop := Paired fun (p : κ × V) (q : κ × Value) => p.1 = q.1 ∧ RelV p.2 q.2

/-- a key of a dict (00_mix): an int or a text -/
def kV : Key → V
  | .inl i => .int i
  | .inr x => .str x

/-- what stands at a tracked address -/
inductive HO where
  /-- a list -/
  | lst (xs : List V)
  /-- a tuple (never changes) -/
  | tup (xs : List V)
  /-- a dict whose keys are ints and texts; one whose keys are tuples of ints and texts (the empty one is both) -/
  | dK (kvs : List (Key × V)) | dT (kvs : List (List Key × V))
  /-- a set of ints: its members, its size -/
  | set (S : Int → Bool) (n : Nat)
  /-- an instance of the class at C, its dict at dx, its attributes -/
  | ins (C dx : Addr) (fs : List (Str × V))
  /-- the dict of the instance at x -/
  | own (x : Addr)
  /-- the dict of an exception -/
  | xd (fs : List (Str × V))
  /-- a bound method, f of x -/
  | met (f x : Addr)
  /-- a range object lo, lo + 1, .. below hi -/
  | rng (lo hi : Int)
  /-- a thing that is known to the object (the script; a dict while a loop walks it): read, never written while it is so -/
  | frz (o : Obj) (u : HO)
  /-- a code object's table -/
  | tbl (ps : Array Value)
  /-- any other thing, by what is true of its one object (a def of one's own: SetO a S n := HO.ext fun h => ..) -/
  | ext (φ : Heap → Prop)

abbrev Hp := Addr → Option HO
def upd (H : Hp) (a : Addr) (o : HO) : Hp := fun b => if b = a then some o else H b
theorem upd_same {H : Hp} {a : Addr} {o : HO} : upd H a o a = some o := by unfold upd; rw [if_pos rfl]
theorem upd_ne {H : Hp} {a b : Addr} {o : HO} (h : b ≠ a) : upd H a o b = H b := by unfold upd; rw [if_neg h]
theorem upd_upd {H : Hp} {a : Addr} {o u : HO} : upd (upd H a o) a u = upd H a u := by
  funext b; unfold upd; split <;> rfl
/-- two objects of different content stand apart -/
theorem ne_of {H : Hp} {a b : Addr} {o u : HO} (h : H a = some o) (h' : H b = some u) (d : o ≠ u) : a ≠ b := by
  intro e; subst e; rw [h] at h'; exact d (Option.some.inj h')
theorem ne_of_none {H : Hp} {a b : Addr} {o : HO} (h : H a = some o) (h' : H b = none) : a ≠ b := by
  intro e; subst e; rw [h] at h'; cases h'

section
variable (P : Program) (w : World)
def ObjOk (H : Hp) (h : Heap) (a : Addr) : HO → Prop
  | .lst xs => xs.length ≤ sizeLine ∧ ∃ (its : List Value) (n : Nat), Vals xs its ∧ h.get? a = some { cls := .type "list", data := .seq its.toArray n }
  | .tup xs => xs.length ≤ sizeLine ∧ ∃ its : List Value, Vals xs its ∧ IsTup h a its.toArray
  | .dK kvs => kvs.length ≤ sizeLine ∧ (a == sysModules) = false ∧ ∃ vs, KV kvs vs ∧ h.DictOf (mixKind P w) a vs
  | .dT kvs => kvs.length ≤ sizeLine ∧ (a == sysModules) = false ∧ ∃ xs : List (List Key × Addr × Value),
      Paired (fun (p : List Key × V) (q : List Key × Addr × Value) => p.1 = q.1 ∧ H q.2.1 = some (.tup (p.1.map kV)) ∧ RelV p.2 q.2.2) kvs xs ∧
      ∃ o es ep, h.get? a = some o ∧ o.ExactDict ∧ o.data = .dict es ep ∧ es.toList = xs.map (entryOfKey (tupleKind (mixKind P w))) ∧ (xs.map (·.1)).Nodup
  | .set S n => h.SetOf (intKind P w) a S n
  | .ins C dx fs => H dx = some (.own a) ∧ fs.length ≤ 1000 ∧ dx ≠ a ∧ h.get? a = some (PySem.W.instObj C dx) ∧
      ∃ mA, h.Ns1 dx mA ∧ (∀ f, RelO (fs.lookup f) (mA f)) ∧ PySem.Within mA (fs.map (·.1))
  | .own _ => ∃ o, h.get? a = some o
  | .xd fs => ∃ mA, h.Ns1 a mA ∧ ∀ f, RelO (fs.lookup f) (mA f)
  | .rng lo hi => ∃ t u v, h.get? a = some { cls := .type "range", data := .fields #[.int lo t, .int hi u, .int 1 v] }
  | .frz o u => h.get? a = some o ∧ ObjOk H h a u
  | .tbl ps => h.get? a = some { cls := .none, data := .fields ps }
  | .met f x => h.get? a = some (PySem.W.methodObj (.ref f) (.ref x))
  | .ext φ => φ h ∧ (∃ o, h.get? a = some o) ∧ ∀ h1 h2 : Heap, φ h1 → (∀ o, h1.get? a = some o → h2.get? a = some o) → φ h2
/-- the abstract heap is held -/
def HOk (H : Hp) (h : Heap) : Prop := ∀ a o, H a = some o → ObjOk P w H h a o
end

section
variable {P : Program} {w : World} {H H' : Hp} {h h' : Heap} {a : Addr} {o : HO}
theorem ObjOk.lt (x : ObjOk P w H h a o) : a < h.objs.size := by
  cases o with
  | lst xs => obtain ⟨_, _, _, _, e⟩ := x; exact Heap.lt_size e
  | tup xs => obtain ⟨_, _, _, p⟩ := x; exact p.lt
  | dK kvs => obtain ⟨_, _, _, _, o, _, _, e, _⟩ := x; exact Heap.lt_size e
  | dT kvs => obtain ⟨_, _, _, _, o, _, _, e, _⟩ := x; exact Heap.lt_size e
  | set S n => obtain ⟨o, _, _, _, e, _⟩ := x; exact Heap.lt_size e
  | ins C dx fs => obtain ⟨_, _, _, e, _⟩ := x; exact Heap.lt_size e
  | own y => obtain ⟨_, e⟩ := x; exact Heap.lt_size e
  | xd fs => obtain ⟨_, ⟨_, _, _, e, _⟩, _⟩ := x; exact Heap.lt_size e
  | rng lo hi => obtain ⟨_, _, _, e⟩ := x; exact Heap.lt_size e
  | frz ob u => obtain ⟨e, _⟩ := x; exact Heap.lt_size e
  | tbl ps => exact Heap.lt_size (show h.get? a = some _ from x)
  | met f y => exact Heap.lt_size (show h.get? a = some _ from x)
  | ext φ => obtain ⟨_, ⟨_, e⟩, _⟩ := x; exact Heap.lt_size e
theorem Paired.mapP {α β : Type} {F G : α → β → Prop} : ∀ {l₁ : List α} {l₂ : List β}, Paired F l₁ l₂ → (∀ a b, F a b → G a b) → Paired G l₁ l₂
  | _, _, .nil, _ => .nil
  | _, _, .cons r t, f => .cons (f _ _ r) (Paired.mapP t f)
/-- what an object's description leans on: its own object, its own dict, the tuples -/
theorem ObjOk.stay (x : ObjOk P w H h a o) (k : ∀ b u, (b = a ∨ H b = some (.own a)) → h.get? b = some u → h'.get? b = some u)
    (ho : ∀ b, H b = some (.own a) → H' b = some (.own a)) (ht : ∀ b xs, H b = some (.tup xs) → H' b = some (.tup xs)) : ObjOk P w H' h' a o := by
  induction o with
  | lst xs => obtain ⟨z, its, n, r, e⟩ := x; exact ⟨z, its, n, r, k _ _ (.inl rfl) e⟩
  | tup xs => obtain ⟨z, its, r, ob, e, c⟩ := x; exact ⟨z, its, r, ob, k _ _ (.inl rfl) e, c⟩
  | dK kvs => obtain ⟨z, y, vs, r, ob, es, ep, e, c⟩ := x; exact ⟨z, y, vs, r, ob, es, ep, k _ _ (.inl rfl) e, c⟩
  | dT kvs =>
    obtain ⟨z, y, xs, r, ob, es, ep, e, c⟩ := x
    exact ⟨z, y, xs, Paired.mapP r fun p q z => ⟨z.1, ht _ _ z.2.1, z.2.2⟩, ob, es, ep, k _ _ (.inl rfl) e, c⟩
  | set S n => obtain ⟨ob, es, ep, t, e, c⟩ := x; exact ⟨ob, es, ep, t, k _ _ (.inl rfl) e, c⟩
  | ins C dx fs =>
    obtain ⟨d, z, ne, e, mA, ⟨od, es, ep, e2, c⟩, r⟩ := x
    exact ⟨ho _ d, z, ne, k _ _ (.inl rfl) e, mA, ⟨od, es, ep, k _ _ (.inr d) e2, c⟩, r⟩
  | own y => obtain ⟨ob, e⟩ := x; exact ⟨ob, k _ _ (.inl rfl) e⟩
  | xd fs => obtain ⟨mA, ⟨od, es, ep, e, c⟩, r⟩ := x; exact ⟨mA, ⟨od, es, ep, k _ _ (.inl rfl) e, c⟩, r⟩
  | rng lo hi => obtain ⟨t, u, v, e⟩ := x; exact ⟨t, u, v, k _ _ (.inl rfl) e⟩
  | frz ob u ih => obtain ⟨e, q⟩ := x; exact ⟨k _ _ (.inl rfl) e, ih q⟩
  | tbl ps =>
    have e : h.get? a = some { cls := .none, data := .fields ps } := x
    show h'.get? a = some { cls := .none, data := .fields ps }
    exact k a _ (.inl rfl) e
  | met f y =>
    have e : h.get? a = some (PySem.W.methodObj (.ref f) (.ref y)) := x
    show h'.get? a = some (PySem.W.methodObj (.ref f) (.ref y))
    exact k a _ (.inl rfl) e
  | ext φ => obtain ⟨p, ⟨o, e⟩, st⟩ := x; exact ⟨st _ _ p fun o q => k _ _ (.inl rfl) q, ⟨o, k _ _ (.inl rfl) e⟩, st⟩
theorem HOk.lt (x : HOk P w H h) (e : H a = some o) : a < h.objs.size := (x a o e).lt
theorem HOk.fresh (x : HOk P w H h) (e : h.objs.size ≤ a) : H a = none := by
  cases q : H a with
  | none => rfl
  | some u => exact absurd (Nat.lt_of_lt_of_le (x.lt q) e) (Nat.lt_irrefl _)
/-- every object of the heap is kept -/
theorem HOk.kept (x : HOk P w H h) (k : ∀ b u, h.get? b = some u → h'.get? b = some u) : HOk P w H h' := fun a o e =>
  (x a o e).stay (fun b u _ q => k b u q) (fun _ q => q) fun _ _ q => q
/-- a new object is laid and tracked -/
theorem HOk.laid (x : HOk P w H h) (k : ∀ b u, h.get? b = some u → h'.get? b = some u) (hp : h.objs.size ≤ a) (new : ObjOk P w (upd H a o) h' a o) : HOk P w (upd H a o) h' := fun b u e => by
  have hn := x.fresh hp
  by_cases hb : b = a
  · subst hb; rw [upd_same] at e; cases e; exact new
  · rw [upd_ne hb] at e
    exact (x b u e).stay (fun c v _ q => k c v q) (fun c q => by rw [upd_ne (ne_of_none q hn)]; exact q) fun c xs q => by rw [upd_ne (ne_of_none q hn)]; exact q
end

/-- what may be read as u: it is u, or a known u -/
def Rd (H : Hp) (a : Addr) (u : HO) : Prop := H a = some u ∨ ∃ o, H a = some (.frz o u)
theorem Rd.of {H : Hp} {a : Addr} {u : HO} (h : H a = some u) : Rd H a u := .inl h
theorem Rd.ok {P : Program} {w : World} {H : Hp} {h : Heap} {a : Addr} {u : HO} (r : Rd H a u) (x : HOk P w H h) : ObjOk P w H h a u := by
  rcases r with r | ⟨o, r⟩
  · exact x a u r
  · obtain ⟨_, q⟩ := x a _ r
    exact q
/-- what may be written -/
def Mut : Option HO → Prop
  | some (.lst _) => True
  | some (.dK _) => True
  | some (.dT _) => True
  | some (.set _ _) => True
  | some (.ins _ _ _) => True
  | some (.ext _) => True
  | _ => False
section
variable {P : Program} {w : World} {H : Hp} {h h' : Heap} {x e : Addr} {o' : HO}
/-- the object at e is changed: x itself, or the dict of the instance x -/
theorem HOk.write (ok : HOk P w H h) (mu : Mut (H x)) (he : e = x ∨ H e = some (.own x)) (k : ∀ b u, b ≠ e → h.get? b = some u → h'.get? b = some u) (heo : ∃ u, h'.get? e = some u)
    (new : ObjOk P w (upd H x o') h' x o') : HOk P w (upd H x o') h' := fun b u q => by
  have nown : ∀ c y, H c = some (.own y) → c ≠ x := fun c y r z => by subst z; rw [r] at mu; exact mu
  have ntup : ∀ c xs, H c = some (.tup xs) → c ≠ x := fun c xs r z => by subst z; rw [r] at mu; exact mu
  by_cases hb : b = x
  · subst hb; rw [upd_same] at q; cases q; exact new
  · rw [upd_ne hb] at q
    by_cases hbe : b = e
    · have q' : H b = some (.own x) := by
        rcases he with z | z
        · exact absurd (hbe.trans z) hb
        · rw [hbe]; exact z
      rw [q] at q'; cases q'
      obtain ⟨v, hv⟩ := heo
      exact ⟨v, by rw [hbe]; exact hv⟩
    · refine (ok b u q).stay (fun c v hc r => k c v ?_ r) (fun c r => by rw [upd_ne (nown c b r)]; exact r) fun c xs r => by rw [upd_ne (ntup c xs r)]; exact r
      rcases hc with rfl | hc
      · exact hbe
      · rintro rfl
        rcases he with z | z
        · exact nown c b hc z
        · rw [hc] at z; cases z; exact hb rfl
end

/-! ### kept unless tracked; of the frames at fs (the callers') the slots may change (an exception that passes writes there); of the records at ex (iterators) nothing is said -/
structure Un (fs ex : List Addr) (H H' : Hp) (h h' : Heap) : Prop where
  keep : ∀ b o, h.get? b = some o → H b = none → b ∉ fs → b ∉ ex → h'.get? b = some o
  slot : ∀ b o, h.get? b = some o → H b = none → b ∈ fs → b ∉ ex → ∃ sl, h'.get? b = some { o with slots := sl }
  free : ∀ b o, h.get? b = some o → H b = none → b ∉ ex → H' b = none
  there : ∀ b o, h.get? b = some o → b ∉ ex → ∃ o', h'.get? b = some o'
  tups : ∀ b xs, H b = some (.tup xs) → H' b = some (.tup xs)
  frzs : ∀ b o u, H b = some (.frz o u) → H' b = some (.frz o u)
  tbls : ∀ b ps, H b = some (.tbl ps) → ∃ more, H' b = some (.tbl (ps ++ more))
section
variable {fs fs' ex ex' : List Addr} {H H1 H2 : Hp} {h h1 h2 h' : Heap} {a x e : Addr} {o : HO}
theorem Un.any (u : Un fs ex H H1 h h1) {b : Addr} {ob : Obj} (q : h.get? b = some ob) (n : H b = none) (hx : b ∉ ex) : ∃ sl, h1.get? b = some { ob with slots := sl } := by
  by_cases hb : b ∈ fs
  · exact u.slot b ob q n hb hx
  · exact ⟨ob.slots, u.keep b ob q n hb hx⟩
theorem Un.trans (a : Un fs ex H H1 h h1) (b : Un fs ex H1 H2 h1 h2) : Un fs ex H H2 h h2 where
  keep := fun c ob q n hc hx => b.keep c ob (a.keep c ob q n hc hx) (a.free c ob q n hx) hc hx
  slot := fun c ob q n hc hx => by
    obtain ⟨sl, e1⟩ := a.slot c ob q n hc hx
    obtain ⟨sl', e2⟩ := b.slot c _ e1 (a.free c ob q n hx) hc hx
    exact ⟨sl', e2⟩
  free := fun c ob q n hx => by
    obtain ⟨o', e1⟩ := a.there c ob q hx
    exact b.free c o' e1 (a.free c ob q n hx) hx
  there := fun c ob q hx => by
    obtain ⟨o', e1⟩ := a.there c ob q hx
    exact b.there c o' e1 hx
  tups := fun c xs q => b.tups c xs (a.tups c xs q)
  frzs := fun c ob xs q => b.frzs c ob xs (a.frzs c ob xs q)
  tbls := fun c ps q => by
    obtain ⟨m1, e1⟩ := a.tbls c ps q
    obtain ⟨m2, e2⟩ := b.tbls c _ e1
    exact ⟨m1 ++ m2, by rw [e2, Array.append_assoc]⟩
theorem Un.kept (k : ∀ b u, h.get? b = some u → h'.get? b = some u) : Un fs ex H H h h' :=
  ⟨fun b ob q _ _ _ => k b ob q, fun b ob q _ _ _ => ⟨ob.slots, k b ob q⟩, fun _ _ _ n _ => n, fun b ob q _ => ⟨ob, k b ob q⟩, fun _ _ q => q, fun _ _ _ q => q, fun _ ps q => ⟨#[], by rw [q]; simp⟩⟩
theorem Un.refl : Un fs ex H H h h := Un.kept fun _ _ q => q
theorem Un.laid (k : ∀ b u, h.get? b = some u → h'.get? b = some u) (hp : h.objs.size ≤ a) (hn : H a = none) : Un fs ex H (upd H a o) h h' where
  keep := fun b u q _ _ _ => k b u q
  slot := fun b u q _ _ _ => ⟨u.slots, k b u q⟩
  free := fun b u q n _ => by rw [upd_ne (Nat.ne_of_lt (Nat.lt_of_lt_of_le (Heap.lt_size q) hp))]; exact n
  there := fun b u q _ => ⟨u, k b u q⟩
  tups := fun b xs q => by rw [upd_ne (ne_of_none q hn)]; exact q
  frzs := fun b u xs q => by rw [upd_ne (ne_of_none q hn)]; exact q
  tbls := fun b ps q => ⟨#[], by rw [upd_ne (ne_of_none q hn), q]; simp⟩
theorem Un.write (mu : Mut (H x)) (he : e = x ∨ H e = some (.own x)) (k : ∀ b u, b ≠ e → h.get? b = some u → h'.get? b = some u) (heo : ∃ u, h'.get? e = some u) : Un fs ex H (upd H x o) h h' := by
  have hx : ∀ b, H b = none → b ≠ x := fun b n z => by subst z; rw [n] at mu; exact mu
  have hb : ∀ b, H b = none → b ≠ e := fun b n z => by
    subst z
    rcases he with r | r
    · exact hx b n r
    · rw [n] at r; cases r
  have hm : ∀ b u, H b = some u → ¬ Mut (some u) → b ≠ x := fun b u q nm z => by subst z; rw [q] at mu; exact nm mu
  refine ⟨fun b u q n _ _ => k b u (hb b n) q, fun b u q n _ _ => ⟨u.slots, k b u (hb b n) q⟩, fun b u q n _ => by rw [upd_ne (hx b n)]; exact n, fun b u q _ => ?_,
    fun b xs q => by rw [upd_ne (hm b _ q fun z => z)]; exact q, fun b u xs q => by rw [upd_ne (hm b _ q fun z => z)]; exact q, fun b ps q => ⟨#[], by rw [upd_ne (hm b _ q fun z => z), q]; simp⟩⟩
  by_cases hbe : b = e
  · subst hbe; exact heo
  · exact ⟨u, k b u hbe q⟩
theorem Un.mono (u : Un fs ex H H1 h h1) (hs : ∀ b ∈ fs, b ∈ fs') (hx : ∀ b ∈ ex, b ∈ ex') : Un fs' ex' H H1 h h1 :=
  ⟨fun b ob q n hb he => u.keep b ob q n (fun z => hb (hs b z)) fun z => he (hx b z), fun _ _ q n _ he => u.any q n fun z => he (hx _ z), fun b ob q n he => u.free b ob q n fun z => he (hx b z), fun b ob q he => u.there b ob q fun z => he (hx b z), u.tups, u.frzs, u.tbls⟩
end

/-! ### the heap without what is tracked -/
def trk (h : Heap) (H : Hp) : List Addr := (List.range h.objs.size).filter fun a => (H a).isSome
def hidT (h : Heap) (H : Hp) : Heap := PySem.W.hideAll h (trk h H)
theorem hidT_size (h : Heap) (H : Hp) : (hidT h H).objs.size = h.objs.size := PySem.W.hideAll_size _ _
theorem hidT_get {h : Heap} {H : Hp} {b : Addr} {o : Obj} (e : h.get? b = some o) (n : H b = none) : (hidT h H).get? b = some o :=
  PySem.W.hideAll_get _ e fun hm => by
    have q : (H b).isSome = true := (List.mem_filter.mp hm).2
    rw [n] at q; simp at q
theorem of_hidT {h : Heap} {H : Hp} {b : Addr} {o : Obj} (e : (hidT h H).get? b = some o) : h.get? b = some o ∧ H b = none := by
  have e' : h.get? b = some o := PySem.W.of_hideAll (trk h H) e
  refine ⟨e', ?_⟩
  cases q : H b with
  | none => rfl
  | some x =>
    have hm : b ∈ trk h H := List.mem_filter.mpr ⟨List.mem_range.mpr (Heap.lt_size e'), by simp [q]⟩
    have z : (hidT h H).get? b = none := PySem.W.hideAll_none (trk h H) hm
    rw [z] at e; cases e

/-! ### OpenK's ledger, filled with every new object but one -/
def allNews (g h : Heap) (L : Addr) : List (Addr × Obj) := (List.range h.objs.size).filterMap fun a => if a = L ∨ (g.get? a).isSome = true then none else (h.get? a).map fun o => (a, o)
def rest (g h : Heap) (L d : Addr) : List (Addr × Obj) := (allNews g h L).filter fun p => decide (p.1 ≠ d)
end L2

namespace L2
open PySem PySem.Spec PyProof.Rows

/-- the module's facts, over the base: the heap at the law's entry without what is tracked there -/
structure Mod (K : PySem.W.Frag) (mg : Str → Option Value) (base : Heap) : Prop where
  kin : K.In base
  glob : base.Ns mainGlobals mg
  blt : ∃ mb, base.Ns builtinsNs mb ∧ ∀ x : Str, x ≠ "__name__" → mb x = bootBuiltins x
  nolimit : base.NoLimit

/-- the context: a def's body (or a comprehension's block) running. base: fixed through the whole law; s₀, H₀: the entry; outer: the frames whose slots others may change (a def's callers); stack: all frames that run;
   ex: iterators that were made ahead of the entry and are walked here (a comprehension's); fn: the names whose cells were made at the entry (a def: all; a comprehension's block: its own); calm: not within an except suite; pn: pins that every state bears; xe: what is wanted of an exception that leaves the code -/
structure Cx where
  prog : Program
  w : World
  K : PySem.W.Frag
  mg : Str → Option Value
  base : Heap
  A : Around
  N : List Str
  s₀ : Shared
  H₀ : Hp
  env : Env
  outer : List Env
  stack : List Env
  ex : List Addr
  fn : Str → Bool
  calm : Bool
  pn : List (Addr × Obj)
  xe : Value → Shared → Prop
/-- the callers' frames -/
def frs (l : List Env) : List Addr := l.filterMap (·.frame)
abbrev Cx.fs (X : Cx) : List Addr := frs X.outer

def Vis (sc : Scope) (x : Str) : Prop := sc.names.lookup x = some .local ∨ sc.names.lookup x = some .cell ∨ sc.names.lookup x = some .free
def Loc (sc : Scope) (x : Str) : Prop := sc.names.lookup x = some .local ∨ sc.names.lookup x = some .cell
def Look (env : Env) (h : Heap) (m : Str → Option Value) (x : Str) (u : Value) : Prop :=
  (env.kindOf x = some .local ∧ m x = some u) ∨ ((env.kindOf x = some .cell ∨ env.kindOf x = some .free) ∧ ∃ c, env.cells.lookup x = some c ∧ h.IsCell c (some u))

structure Cx.Ok (X : Cx) : Prop where
  mod : Mod X.K X.mg X.base
  kind : X.env.scope.kind = .function
  glob : X.env.globals = mainGlobals
  blt : X.env.builtins = builtinsNs
  above : X.s₀.heap.objs.size ≤ X.env.locals
  inj : ∀ x y c, X.env.cells.lookup x = some c → X.env.cells.lookup y = some c → x = y
  has : ∀ x, (X.env.kindOf x = some .cell ∨ X.env.kindOf x = some .free) → ∃ c, X.env.cells.lookup x = some c
  cab : ∀ x c, X.fn x = true → X.env.cells.lookup x = some c → X.s₀.heap.objs.size ≤ c
  hd : X.calm = true → X.A.handled = none
  frames : X.A.frames = some X.stack
  stk : X.stack = X.outer ∨ (X.stack = X.env :: X.outer ∧ X.env.frame = some X.env.locals)
  exf : ∀ b ∈ X.ex, b ≠ X.env.locals ∧ ∀ x c, X.env.cells.lookup x = some c → c ≠ b
  bs : ∀ b o, X.base.get? b = some o → X.s₀.heap.get? b = some o ∧ X.H₀ b = none
  bsz : X.base.objs.size ≤ X.s₀.heap.objs.size
  noex : ∀ b o, X.base.get? b = some o → b ∉ X.ex
  exfs : ∀ b ∈ X.ex, b ∉ X.fs
  funs : X.s₀.heap.FunFrames X.base X.outer
  frf : ∀ b ∈ X.fs, X.H₀ b = none

structure Inv (X : Cx) (pins : List (Addr × Obj)) (σ : List (Option V)) (H : Hp) (s : Shared) : Prop where
  ok : X.Ok
  os : s.os = X.s₀.os
  bare : AllBare s.gens
  base : Un X.fs X.ex X.H₀ H X.s₀.heap s.heap
  loc : ∃ m, s.heap.Ns X.env.locals m ∧ ∀ (i : Nat) (x : Str) (v : V), X.N[i]? = some x → σ[i]? = some (some v) → Vis X.env.scope x → ∃ u, RelV v u ∧ Look X.env s.heap m x u
  cell : ∀ x c, X.env.cells.lookup x = some c → ∃ v, s.heap.IsCell c v
  free : H X.env.locals = none
  freeC : ∀ x c, X.env.cells.lookup x = some c → H c = none
  pin : ∀ p ∈ X.pn ++ pins, s.heap.get? p.1 = some p.2 ∧ H p.1 = none ∧ p.1 ≠ X.env.locals ∧ p.1 ∉ X.fs ∧ ∀ v, p.2.data ≠ .cell v
  hok : HOk X.prog X.w H s.heap
  len : σ.length = X.N.length

section
variable {X : Cx} {pins : List (Addr × Obj)} {σ : List (Option V)} {H H' : Hp} {s : Shared} {h' : Heap}

theorem Cx.Ok.nofr (ok : X.Ok) {b : Addr} {o : Obj} (e : X.base.get? b = some o) : b ∉ X.fs := fun hb => by
  have := (ok.funs.mem hb).1
  rw [e] at this; cases this
theorem Inv.bs (I : Inv X pins σ H s) : ∀ b o, X.base.get? b = some o → s.heap.get? b = some o ∧ H b = none := fun b o e =>
  ⟨I.base.keep b o (I.ok.bs b o e).1 (I.ok.bs b o e).2 (I.ok.nofr e) (I.ok.noex b o e), I.base.free b o (I.ok.bs b o e).1 (I.ok.bs b o e).2 (I.ok.noex b o e)⟩
theorem Inv.bk (I : Inv X pins σ H s) : ∀ b o, X.base.get? b = some o → s.heap.get? b = some o := fun b o e => (I.bs b o e).1
theorem Inv.mod (I : Inv X pins σ H s) : Mod X.K X.mg X.base := I.ok.mod
theorem Inv.kIn (I : Inv X pins σ H s) : X.K.In s.heap := I.ok.mod.kin.keeps I.bk
theorem Inv.nolimit (I : Inv X pins σ H s) : s.heap.NoLimit := I.ok.mod.nolimit.keeps I.bk
/-- the frame over the base: for OpenK's rules (K.In X.base is I.mod.kin) -/
theorem Inv.fr (I : Inv X pins σ H s) : ∃ m, Fr X.base X.env.locals s.heap m :=
  let ⟨m, hn, _⟩ := I.loc
  ⟨m, hn, I.bk, Nat.le_trans I.ok.bsz I.ok.above⟩
theorem Inv.lt (I : Inv X pins σ H s) : X.env.locals < s.heap.objs.size := let ⟨_, hn, _⟩ := I.loc; hn.lt
theorem Inv.sz (I : Inv X pins σ H s) : X.s₀.heap.objs.size ≤ s.heap.objs.size := Nat.le_trans I.ok.above (Nat.le_of_lt I.lt)
theorem Inv.nofs (I : Inv X pins σ H s) {a : Addr} (h : s.heap.objs.size ≤ a) : a ∉ X.fs := fun hb => by
  obtain ⟨_, o, ho, _⟩ := I.ok.funs.mem hb
  exact absurd (Nat.lt_of_lt_of_le (Heap.lt_size ho) (Nat.le_trans I.sz h)) (Nat.lt_irrefl _)
theorem Inv.cne (I : Inv X pins σ H s) : ∀ x c, X.env.cells.lookup x = some c → c ≠ X.env.locals := fun x c e z => by
  obtain ⟨v, o, ho, hd⟩ := I.cell x c e
  obtain ⟨m, ⟨o', es, ep, ho', hd', _⟩, _⟩ := I.loc
  rw [z, ho'] at ho; cases ho; rw [hd'] at hd; cases hd
theorem Inv.funs (I : Inv X pins σ H s) : s.heap.FunFrames X.base X.outer := by
  have all : ∀ (l : List Env), (∀ b ∈ frs l, b ∈ X.fs) → X.s₀.heap.FunFrames X.base l → s.heap.FunFrames X.base l := by
    intro l
    induction l with
    | nil => intro _ _; trivial
    | cons env r ih =>
      intro hs hl
      obtain ⟨hk, ⟨L, o, hf, hn, ho, hd⟩, hr⟩ := hl
      have hL : L ∈ X.fs := hs L (by unfold frs; rw [List.filterMap_cons, hf]; exact List.mem_cons_self)
      obtain ⟨sl, e⟩ := I.base.slot L o ho (I.ok.frf L hL) hL fun z => I.ok.exfs L z hL
      exact ⟨hk, ⟨L, _, hf, hn, e, hd⟩, ih (fun b hb => hs b (by unfold frs; rw [List.filterMap_cons, hf]; exact List.mem_cons_of_mem _ hb)) hr⟩
  exact all X.outer (fun _ hb => hb) I.ok.funs

/-- the frames that run, for a call -/
theorem Inv.stack (I : Inv X pins σ H s) : s.heap.FunFrames X.base X.stack := by
  rcases I.ok.stk with e | ⟨e, hf⟩
  · rw [e]; exact I.funs
  · rw [e]
    obtain ⟨m, hn, _⟩ := I.loc
    refine .cons (by rw [I.ok.kind]; decide) hf hn ?_ I.funs
    exact Heap.get?_none_of_le (Nat.le_trans I.ok.bsz I.ok.above)
theorem Inv.stkSub (I : Inv X pins σ H s) : ∀ b ∈ frs X.stack, b ∈ X.env.locals :: X.fs := fun b hb => by
  rcases I.ok.stk with e | ⟨e, hf⟩
  · rw [e] at hb; exact List.mem_cons_of_mem _ hb
  · rw [e] at hb
    unfold frs at hb
    rw [List.filterMap_cons, hf] at hb
    exact hb
theorem Inv.stkFree (I : Inv X pins σ H s) : ∀ b ∈ frs X.stack, H b = none := fun b hb => by
  rcases List.mem_cons.mp (I.stkSub b hb) with e | hb
  · rw [e]; exact I.free
  · obtain ⟨_, o, ho, _⟩ := I.ok.funs.mem hb
    exact I.base.free b o ho (I.ok.frf b hb) fun z => I.ok.exfs b z hb

/-- THE STEP: the untracked objects but the frame and the records at ch are kept (the callers' frames up to slots), the frame's map is kept, the new abstract heap is held -/
theorem Inv.step {g' : Array GenState} {t' : Nat} {d' : Drawn} {ch : List Addr} (I : Inv X pins σ H s)
    (hch : ∀ b ∈ ch, (b ∈ X.ex ∨ X.s₀.heap.objs.size ≤ b) ∧ b ≠ X.env.locals ∧ (∀ x c, X.env.cells.lookup x = some c → c ≠ b) ∧ ∀ p ∈ X.pn ++ pins, p.1 ≠ b)
    (keep : ∀ b o, b ≠ X.env.locals → b ∉ X.fs → b ∉ ch → s.heap.get? b = some o → H b = none → h'.get? b = some o)
    (slot : ∀ b o, b ≠ X.env.locals → b ∈ X.fs → b ∉ ch → s.heap.get? b = some o → H b = none → ∃ sl, h'.get? b = some { o with slots := sl }) (free : ∀ b o, b ∉ ch → s.heap.get? b = some o → H b = none → H' b = none)
    (there : ∀ b o, b ∉ ch → s.heap.get? b = some o → ∃ o', h'.get? b = some o')
    (tups : ∀ b xs, H b = some (.tup xs) → H' b = some (.tup xs)) (frzs : ∀ b o u, H b = some (.frz o u) → H' b = some (.frz o u)) (tbls : ∀ b ps, H b = some (.tbl ps) → ∃ more, H' b = some (.tbl (ps ++ more)))
    (ns : ∀ m, s.heap.Ns X.env.locals m → h'.Ns X.env.locals m) (hok : HOk X.prog X.w H' h') (hg : AllBare g') :
    Inv X pins σ H' { s with heap := h', gens := g', drawn := d', toks := t' } := by
  have neL : ∀ b o, X.s₀.heap.get? b = some o → b ≠ X.env.locals := fun b o e => Nat.ne_of_lt (Nat.lt_of_lt_of_le (Heap.lt_size e) I.ok.above)
  have neC : ∀ b o, X.s₀.heap.get? b = some o → b ∉ X.ex → b ∉ ch := fun b o e hx hb => by
    rcases (hch b hb).1 with z | z
    · exact hx z
    · exact absurd (Nat.lt_of_lt_of_le (Heap.lt_size e) z) (Nat.lt_irrefl _)
  have cellK : ∀ x c, X.env.cells.lookup x = some c → ∀ v, s.heap.IsCell c v → h'.IsCell c v := fun x c e v ⟨o, ho, hd⟩ => by
    have nch : c ∉ ch := fun z => (hch c z).2.2.1 x c e rfl
    by_cases hc : c ∈ X.fs
    · obtain ⟨sl, q⟩ := slot c o (I.cne x c e) hc nch ho (I.freeC x c e)
      exact ⟨_, q, hd⟩
    · exact ⟨o, keep c o (I.cne x c e) hc nch ho (I.freeC x c e), hd⟩
  refine ⟨I.ok, I.os, hg, ⟨fun b o e n hb hx => ?_, fun b o e n hb hx => ?_, fun b o e n hx => ?_, fun b o e hx => ?_, fun b xs e => tups b xs (I.base.tups b xs e), fun b o xs e => frzs b o xs (I.base.frzs b o xs e), fun b ps e => ?_⟩, ?_, fun x c e => ?_, ?_, fun x c e => ?_, fun p hp => ?_, hok, I.len⟩
  · exact keep b o (neL b o e) hb (neC b o e hx) (I.base.keep b o e n hb hx) (I.base.free b o e n hx)
  · obtain ⟨sl, e1⟩ := I.base.slot b o e n hb hx
    obtain ⟨sl', e2⟩ := slot b _ (neL b o e) hb (neC b o e hx) e1 (I.base.free b o e n hx)
    exact ⟨sl', e2⟩
  · obtain ⟨o', e1⟩ := I.base.there b o e hx
    exact free b o' (neC b o e hx) e1 (I.base.free b o e n hx)
  · obtain ⟨o', e1⟩ := I.base.there b o e hx
    exact there b o' (neC b o e hx) e1
  · obtain ⟨m1, e1⟩ := I.base.tbls b ps e
    obtain ⟨m2, e2⟩ := tbls b _ e1
    exact ⟨m1 ++ m2, by rw [e2, Array.append_assoc]⟩
  · obtain ⟨m, hn, hl⟩ := I.loc
    refine ⟨m, ns m hn, fun i x v e1 e2 e3 => ?_⟩
    obtain ⟨u, r, l⟩ := hl i x v e1 e2 e3
    refine ⟨u, r, ?_⟩
    rcases l with l | ⟨k, c, e, z⟩
    · exact .inl l
    · exact .inr ⟨k, c, e, cellK x c e _ z⟩
  · obtain ⟨v, z⟩ := I.cell x c e
    exact ⟨v, cellK x c e v z⟩
  · obtain ⟨m, ⟨o, _, _, ho, _⟩, _⟩ := I.loc
    exact free _ o (fun z => (hch _ z).2.1 rfl) ho I.free
  · obtain ⟨v, o, ho, hd⟩ := I.cell x c e
    exact free c o (fun z => (hch c z).2.2.1 x c e rfl) ho (I.freeC x c e)
  · obtain ⟨e, n, ne, nf, d⟩ := I.pin p hp
    have nch : p.1 ∉ ch := fun z => (hch p.1 z).2.2.2 p hp rfl
    exact ⟨keep p.1 p.2 ne nf nch e n, free p.1 p.2 nch e n, ne, nf, d⟩
/-- .. where the frame's own object is kept too -/
theorem Inv.un {t' : Nat} (I : Inv X pins σ H s) (u : Un X.fs [] H H' s.heap h') (hok : HOk X.prog X.w H' h') : Inv X pins σ H' { s with heap := h', toks := t' } := by
  obtain ⟨m, ⟨o, es, ep, ho, r⟩, _⟩ := id I.loc
  obtain ⟨sl, hL⟩ := u.any ho I.free (by simp)
  exact I.step (g' := s.gens) (d' := s.drawn) (ch := []) (fun _ z => nomatch z) (fun b o _ hb _ e n => u.keep b o e n hb (by simp)) (fun b o _ hb _ e n => u.slot b o e n hb (by simp)) (fun b o _ e n => u.free b o e n (by simp)) (fun b o _ e => u.there b o e (by simp)) u.tups u.frzs u.tbls (fun m' hm => by
    obtain ⟨o', es', ep', ho', r'⟩ := hm
    rw [ho] at ho'; cases ho'
    exact ⟨_, es', ep', hL, r'⟩) hok I.bare
/-- behind a call (or a comprehension's block): the slots of this frame may have changed too, the records at ch may have turned -/
theorem Inv.call {g' : Array GenState} {t' : Nat} {d' : Drawn} {ch : List Addr} (I : Inv X pins σ H s) (u : Un (frs X.stack) ch H H' s.heap h') (hok : HOk X.prog X.w H' h') (hg : AllBare g')
    (hch : ∀ b ∈ ch, (b ∈ X.ex ∨ X.s₀.heap.objs.size ≤ b) ∧ b ≠ X.env.locals ∧ (∀ x c, X.env.cells.lookup x = some c → c ≠ b) ∧ ∀ p ∈ X.pn ++ pins, p.1 ≠ b) :
    Inv X pins σ H' { s with heap := h', gens := g', drawn := d', toks := t' } := by
  obtain ⟨m, ⟨o, es, ep, ho, r⟩, _⟩ := id I.loc
  obtain ⟨sl, hL⟩ := u.any ho I.free fun z => (hch _ z).2.1 rfl
  exact I.step (ch := ch) hch (fun b o hL hb hc e n => u.keep b o e n (fun z => (List.mem_cons.mp (I.stkSub b z)).elim hL hb) hc) (fun b o _ _ hc e n => u.any e n hc) (fun b o hc e n => u.free b o e n hc) (fun b o hc e => u.there b o e hc) u.tups u.frzs u.tbls (fun m' hm => by
    obtain ⟨o', es', ep', ho', r'⟩ := hm
    rw [ho] at ho'; cases ho'
    exact ⟨_, es', ep', hL, r'⟩) hok hg
/-- an untracked record of ours (an iterator) has turned -/
theorem Inv.turned {t' : Nat} {it : Addr} (I : Inv X pins σ H s) (k : ∀ b o, b ≠ it → s.heap.get? b = some o → h'.get? b = some o) (hn : H it = none) (hL : it ≠ X.env.locals)
    (h1 : it ∈ X.ex ∨ X.s₀.heap.objs.size ≤ it) (h2 : ∀ x c, X.env.cells.lookup x = some c → c ≠ it) (h3 : ∀ p ∈ X.pn ++ pins, p.1 ≠ it) : Inv X pins σ H { s with heap := h', toks := t' } := by
  have nit : ∀ b u, H b = some u → b ≠ it := fun b u e z => by rw [z, hn] at e; cases e
  refine I.step (g' := s.gens) (d' := s.drawn) (ch := [it]) (fun b hb => ?_) (fun b o _ _ hc e _ => k b o (fun z => hc (by simp [z])) e) (fun b o _ _ hc e _ => ⟨o.slots, k b o (fun z => hc (by simp [z])) e⟩) (fun _ _ _ _ n => n)
    (fun b o hc e => ⟨o, k b o (fun z => hc (by simp [z])) e⟩) (fun _ _ e => e) (fun _ _ _ e => e) (fun b ps e => ⟨#[], by rw [e]; simp⟩) (fun m hm => ?_) (fun b u e => ?_) I.bare
  · have e : b = it := by simpa using hb
    subst e
    exact ⟨h1, hL, h2, h3⟩
  · obtain ⟨o, es, ep, ho, r⟩ := hm
    exact ⟨o, es, ep, k _ o (Ne.symm hL) ho, r⟩
  · refine (I.hok b u e).stay (fun c v hc q => k c v ?_ q) (fun _ q => q) fun _ _ q => q
    rcases hc with z | z
    · rw [z]; exact nit b u e
    · exact nit c _ z
theorem Inv.tok (I : Inv X pins σ H s) (t : Nat) : Inv X pins σ H { s with toks := t } := I.un (h' := s.heap) (t' := t) Un.refl I.hok
/-- all objects kept -/
theorem Inv.kept {t' : Nat} (I : Inv X pins σ H s) (k : ∀ b u, s.heap.get? b = some u → h'.get? b = some u) : Inv X pins σ H { s with heap := h', toks := t' } := I.un (Un.kept k) (I.hok.kept k)
/-- a new object laid and tracked -/
theorem Inv.laid {a : Addr} {o : HO} {t' : Nat} (I : Inv X pins σ H s) (k : ∀ b u, s.heap.get? b = some u → h'.get? b = some u) (hp : s.heap.objs.size ≤ a) (new : ObjOk X.prog X.w (upd H a o) h' a o) :
    Inv X pins σ (upd H a o) { s with heap := h', toks := t' } := I.un (Un.laid k hp (I.hok.fresh hp)) (I.hok.laid k hp new)
/-- an object written -/
theorem Inv.write {x e : Addr} {o : HO} {t' : Nat} (I : Inv X pins σ H s) (mu : Mut (H x)) (he : e = x ∨ H e = some (.own x)) (k : ∀ b u, b ≠ e → s.heap.get? b = some u → h'.get? b = some u) (heo : ∃ u, h'.get? e = some u)
    (new : ObjOk X.prog X.w (upd H x o) h' x o) : Inv X pins σ (upd H x o) { s with heap := h', toks := t' } := I.un (Un.write mu he k heo) (I.hok.write mu he k heo new)
/-- forgetting slots, pins -/
theorem Inv.weak {σ' : List (Option V)} (I : Inv X pins σ H s) (hl : σ'.length = σ.length) (w : ∀ (i : Nat) v, σ'[i]? = some (some v) → σ[i]? = some (some v)) : Inv X pins σ' H s :=
  ⟨I.ok, I.os, I.bare, I.base, let ⟨m, hn, hl'⟩ := I.loc; ⟨m, hn, fun i x v e1 e2 e3 => hl' i x v e1 (w i v e2) e3⟩, I.cell, I.free, I.freeC, I.pin, I.hok, hl.trans I.len⟩
theorem Inv.pins_of {pins' : List (Addr × Obj)} (I : Inv X pins σ H s) (h : ∀ p ∈ pins', s.heap.get? p.1 = some p.2 ∧ H p.1 = none ∧ p.1 ≠ X.env.locals ∧ p.1 ∉ X.fs ∧ ∀ v, p.2.data ≠ .cell v) : Inv X pins' σ H s :=
  ⟨I.ok, I.os, I.bare, I.base, I.loc, I.cell, I.free, I.freeC, fun p hp => (List.mem_append.mp hp).elim (fun z => I.pin p (List.mem_append_left _ z)) (h p), I.hok, I.len⟩

theorem nodup_ix {N : List Str} (hN : N.Nodup) {i j : Nat} {x : Str} (a : N[i]? = some x) (b : N[j]? = some x) : i = j := by
  obtain ⟨h1, e1⟩ := List.getElem?_eq_some_iff.mp a
  obtain ⟨h2, e2⟩ := List.getElem?_eq_some_iff.mp b
  exact (List.getElem_inj hN).mp (e1.trans e2.symm)

/-- a name is stored; what changed -/
theorem store_ok2 {M : Model} {A : Around} {E : Value → Shared → Prop} {i : Nat} {x : Str} {v : V} {u : Value} {Q : Unit → Shared → Prop} (I : Inv X pins σ H s) (hN : X.N.Nodup) (hi : X.N[i]? = some x) (hx : Loc X.env.scope x) (r : RelV v u)
    (h : ∀ s', Inv X pins (σ.set i (some v)) H s' → (∃ a, Heap.SameBut a s.heap s'.heap ∧ (a = X.env.locals ∨ X.env.cells.lookup x = some a)) → Q () s') (hf : X.fn x = true ∨ X.env.scope.names.lookup x = some .local := by first | exact .inl rfl | exact .inr rfl | assumption) : wpAny M A (storeName X.env x u) Q E s := by
  obtain ⟨m, hn, hl⟩ := id I.loc
  have hcls : (X.env.scope.kind == .class || (X.env.scope.kind == .module && X.env.locals != X.env.globals)) = false := by rw [I.ok.kind]; rfl
  have hiσ : i < σ.length := by rw [I.len]; exact (List.getElem?_eq_some_iff.mp hi).1
  have cne := I.cne
  have tracked : ∀ {a : Addr} {h' : Heap}, (∃ o, s.heap.get? a = some o ∧ H a = none) → Heap.SameBut a s.heap h' → HOk X.prog X.w H h' := fun {a h'} ha hs b ob e => by
    obtain ⟨_, _, hfree⟩ := ha
    refine (I.hok b ob e).stay (fun c w' hc q => (hs.2 c ?_).trans q) (fun _ q => q) fun _ _ q => q
    rintro rfl
    rcases hc with rfl | hc
    · rw [hfree] at e; cases e
    · rw [hfree] at hc; cases hc
  rcases hx with hk | hk
  · refine wpAny_storeName_local hk hn (fun h' hn' hs => ?_) hcls
    obtain ⟨oL, _, _, hoL, _⟩ := id hn
    refine h _ ⟨I.ok, I.os, I.bare, ⟨fun b o e n hb hx => ?_, fun b o e n hb hx => ?_, I.base.free, fun b o e hx => ?_, I.base.tups, I.base.frzs, I.base.tbls⟩, ⟨_, hn', fun j y v' e1 e2 e3 => ?_⟩, fun y c e => ?_, I.free, I.freeC, fun p hp => ?_, tracked ⟨oL, hoL, I.free⟩ hs, by simpa using I.len⟩ ⟨_, hs, .inl rfl⟩
    · exact (hs.2 b (Nat.ne_of_lt (Nat.lt_of_lt_of_le (Heap.lt_size e) I.ok.above))).trans (I.base.keep b o e n hb hx)
    · obtain ⟨sl, e1⟩ := I.base.slot b o e n hb hx
      exact ⟨sl, (hs.2 b (Nat.ne_of_lt (Nat.lt_of_lt_of_le (Heap.lt_size e) I.ok.above))).trans e1⟩
    · obtain ⟨o', e1⟩ := I.base.there b o e hx
      exact ⟨o', (hs.2 b (Nat.ne_of_lt (Nat.lt_of_lt_of_le (Heap.lt_size e) I.ok.above))).trans e1⟩
    · by_cases hj : j = i
      · subst hj
        rw [hi] at e1; cases e1
        rw [List.getElem?_set_self hiσ] at e2
        cases e2
        exact ⟨u, r, .inl ⟨hk, by simp⟩⟩
      · rw [List.getElem?_set_ne (Ne.symm hj)] at e2
        obtain ⟨u', r', q⟩ := hl j y v' e1 e2 e3
        refine ⟨u', r', ?_⟩
        rcases q with ⟨k, e⟩ | ⟨k, c, e, z⟩
        · refine .inl ⟨k, ?_⟩
          have : y ≠ x := fun e => hj (nodup_ix hN e1 (e ▸ hi))
          simp [this, e]
        · exact .inr ⟨k, c, e, z.sameBut hs (cne y c e)⟩
    · obtain ⟨w', z⟩ := I.cell y c e
      exact ⟨w', z.sameBut hs (cne y c e)⟩
    · obtain ⟨e, n, ne, nf, d⟩ := I.pin p hp
      exact ⟨(hs.2 p.1 ne).trans e, n, ne, nf, d⟩
  · have hfn : X.fn x = true := by
      rcases hf with z | z
      · exact z
      · rw [z] at hk; cases hk
    obtain ⟨c, hc⟩ := I.ok.has x (.inl hk)
    obtain ⟨w', z⟩ := I.cell x c hc
    refine wpAny_storeName_cell I.ok.kind hk hc z (fun h' hc' hs => ?_)
    obtain ⟨oc, hoc, hocd⟩ := id z
    refine h { s with heap := h' } ⟨I.ok, I.os, I.bare, ⟨fun b o e n hb hx => ?_, fun b o e n hb hx => ?_, I.base.free, fun b o e hx => ?_, I.base.tups, I.base.frzs, I.base.tbls⟩, ⟨m, hn.sameBut hs (Ne.symm (cne x c hc)), fun j y v' e1 e2 e3 => ?_⟩, fun y c' e => ?_, I.free, I.freeC, fun p hp => ?_, tracked ⟨oc, hoc, I.freeC x c hc⟩ hs, by simpa using I.len⟩ ⟨c, hs, .inr hc⟩
    · exact (hs.2 b (Nat.ne_of_lt (Nat.lt_of_lt_of_le (Heap.lt_size e) (I.ok.cab x c hfn hc)))).trans (I.base.keep b o e n hb hx)
    · obtain ⟨sl, e1⟩ := I.base.slot b o e n hb hx
      exact ⟨sl, (hs.2 b (Nat.ne_of_lt (Nat.lt_of_lt_of_le (Heap.lt_size e) (I.ok.cab x c hfn hc)))).trans e1⟩
    · obtain ⟨o', e1⟩ := I.base.there b o e hx
      exact ⟨o', (hs.2 b (Nat.ne_of_lt (Nat.lt_of_lt_of_le (Heap.lt_size e) (I.ok.cab x c hfn hc)))).trans e1⟩
    · by_cases hj : j = i
      · subst hj
        rw [hi] at e1; cases e1
        rw [List.getElem?_set_self hiσ] at e2
        cases e2
        exact ⟨u, r, .inr ⟨.inl hk, c, hc, hc'⟩⟩
      · rw [List.getElem?_set_ne (Ne.symm hj)] at e2
        obtain ⟨u', r', q⟩ := hl j y v' e1 e2 e3
        refine ⟨u', r', ?_⟩
        rcases q with q | ⟨k, c', e, z'⟩
        · exact .inl q
        · refine .inr ⟨k, c', e, z'.sameBut hs ?_⟩
          rintro rfl
          exact hj (nodup_ix hN e1 (I.ok.inj _ _ _ e hc ▸ hi))
    · by_cases hcc : c' = c
      · subst hcc; exact ⟨_, hc'⟩
      · obtain ⟨w2, z2⟩ := I.cell y c' e
        exact ⟨w2, z2.sameBut hs hcc⟩
    · obtain ⟨e, n, ne, nf, d⟩ := I.pin p hp
      refine ⟨(hs.2 p.1 ?_).trans e, n, ne, nf, d⟩
      intro q
      rw [q, hoc] at e
      have q' : oc = p.2 := Option.some.inj e
      exact d w' (by rw [← q']; exact hocd)
theorem store_ok {M : Model} {A : Around} {E : Value → Shared → Prop} {i : Nat} {x : Str} {v : V} {u : Value} {Q : Unit → Shared → Prop} (I : Inv X pins σ H s) (hN : X.N.Nodup) (hi : X.N[i]? = some x) (hx : Loc X.env.scope x) (r : RelV v u)
    (h : ∀ s', Inv X pins (σ.set i (some v)) H s' → Q () s') (hf : X.fn x = true ∨ X.env.scope.names.lookup x = some .local := by first | exact .inl rfl | exact .inr rfl | assumption) : wpAny M A (storeName X.env x u) Q E s :=
  store_ok2 I hN hi hx r (fun s' I' _ => h s' I') hf
/-- behind a call or a block, the state as it is -/
theorem Inv.call' {s' : Shared} {ch : List Addr} (I : Inv X pins σ H s) (ho : s'.os = s.os) (u : Un (frs X.stack) ch H H' s.heap s'.heap) (hok : HOk X.prog X.w H' s'.heap) (hg : AllBare s'.gens)
    (hch : ∀ b ∈ ch, (b ∈ X.ex ∨ X.s₀.heap.objs.size ≤ b) ∧ b ≠ X.env.locals ∧ (∀ x c, X.env.cells.lookup x = some c → c ≠ b) ∧ ∀ p ∈ X.pn ++ pins, p.1 ≠ b) : Inv X pins σ H' s' := by
  obtain ⟨h', g', d', t', o'⟩ := s'
  have e : o' = s.os := ho
  subst e
  exact I.call (g' := g') (t' := t') (d' := d') u hok hg hch
end

/-! ### the judgements -/
/-- an exception: its class, its own dict's address (where it has one), the abstract heap behind it -/
abbrev XK := Value → Option Addr → Hp → Prop
abbrev St := List (Option V)
abbrev VK := V → Hp → Prop
/-- an expression's reading; a test's; an argument list's -/
abbrev TE := St → Hp → VK → Prop
abbrev TT := St → Hp → (Bool → Hp → Prop) → Prop
abbrev TA := St → Hp → (List V → Hp → Prop) → Prop
/-- what is wanted behind a statement -/
structure Ends where
  nx : St → Hp → Prop
  rt : VK
  bk : St → Hp → Prop := fun _ _ => False
  ct : St → Hp → Prop := fun _ _ => False
abbrev TS := Ends → St → Hp → Prop

def EP (X : Cx) (pins : List (Addr × Obj)) (σ : St) (Q : VK) (u : Value) (s' : Shared) : Prop := ∃ v H', Inv X pins σ H' s' ∧ RelV v u ∧ Q v H'
def TP (X : Cx) (pins : List (Addr × Obj)) (σ : St) (Q : Bool → Hp → Prop) (b : Bool) (s' : Shared) : Prop := ∃ H', Inv X pins σ H' s' ∧ Q b H'
def AP (X : Cx) (pins : List (Addr × Obj)) (σ : St) (Q : List V → Hp → Prop) (us : List Value) (s' : Shared) : Prop := ∃ vs H', Inv X pins σ H' s' ∧ Vals vs us ∧ Q vs H'
def SP (X : Cx) (pins : List (Addr × Obj)) (D : Ends) (f : Flow) (s' : Shared) : Prop :=
  match f with
  | .next => ∃ σ' H', Inv X pins σ' H' s' ∧ D.nx σ' H'
  | .brk => ∃ σ' H', Inv X pins σ' H' s' ∧ D.bk σ' H'
  | .cont => ∃ σ' H', Inv X pins σ' H' s' ∧ D.ct σ' H'
  | .ret u => ∃ v σ' H', Inv X pins σ' H' s' ∧ RelV v u ∧ D.rt v H'

def PE (X : Cx) (e : Expr) (t : TE) : Prop :=
  ∀ (pins : List (Addr × Obj)) (s : Shared) (σ : St) (H : Hp) (Q : VK), Inv X pins σ H s → t σ H Q → wpAny (model X.prog X.w) X.A (eval e X.env) (EP X pins σ Q) X.xe s
def PT (X : Cx) (e : Expr) (t : TT) : Prop :=
  ∀ (pins : List (Addr × Obj)) (s : Shared) (σ : St) (H : Hp) (Q : Bool → Hp → Prop), Inv X pins σ H s → t σ H Q → wpAny (model X.prog X.w) X.A (isTrue e X.env (eval e X.env)) (TP X pins σ Q) X.xe s
/-- a test whatever its 'whole' is (and, or) -/
def PW (X : Cx) (e : Expr) (t : TT) : Prop :=
  ∀ (whole : Sem Value) (pins : List (Addr × Obj)) (s : Shared) (σ : St) (H : Hp) (Q : Bool → Hp → Prop), Inv X pins σ H s → t σ H Q → wpAny (model X.prog X.w) X.A (isTrue e X.env whole) (TP X pins σ Q) X.xe s
theorem PW.pt {X : Cx} {e : Expr} {t : TT} (h : PW X e t) : PT X e t := h _
/-- an argument list (no star), from the left -/
def PA (X : Cx) (es : List Expr) (t : TA) : Prop :=
  ∀ (pos : Pos) (pins : List (Addr × Obj)) (s : Shared) (σ : St) (H : Hp) (Q : List V → Hp → Prop), Inv X pins σ H s → t σ H Q → wpAny (model X.prog X.w) X.A (spliced (backTo pos (starEach es X.env))) (AP X pins σ Q) X.xe s
def PS (X : Cx) (st : Stmt) (t : TS) : Prop :=
  ∀ (pins : List (Addr × Obj)) (s : Shared) (σ : St) (H : Hp) (D : Ends), Inv X pins σ H s → t D σ H → wpAny (model X.prog X.w) X.A (exec st X.env) (SP X pins D) X.xe s
def PSs (X : Cx) (st : List Stmt) (t : TS) : Prop :=
  ∀ (pins : List (Addr × Obj)) (s : Shared) (σ : St) (H : Hp) (D : Ends), Inv X pins σ H s → t D σ H → wpAny (model X.prog X.w) X.A (execs st X.env) (SP X pins D) X.xe s
/-- weaken the end -/
theorem thn {α : Type} {t : Sem α} {Q Q' : α → Shared → Prop} {M : Model} {A : Around} {E : Value → Shared → Prop} {s : Shared} (h : wpAny M A t Q E s) (hQ : ∀ a s, Q a s → Q' a s) : wpAny M A t Q' E s := wpAny_mono h hQ fun _ _ x => x
end L2

namespace L2
open PySem PySem.Spec PyProof.Rows
section
variable {X : Cx}

/-! ### names and constants -/
def tVar (i : Nat) : TE := fun σ H Q => ∃ v, σ[i]? = some (some v) ∧ Q v H
def tC (v : V) : TE := fun _ H Q => Q v H
theorem pe_var {i : Nat} {x : Str} {pos : Pos} (hN : X.N[i]? = some x) (hv : Vis X.env.scope x) (hd : (x == ("__debug__" : Str)) = false := by decide) (hcd : (x == ("__classdict__" : Str)) = false := by decide) : PE X (.Name x pos) (tVar i) := by
  intro pins s σ H Q I h
  obtain ⟨v, e, h⟩ := h
  obtain ⟨m, hn, hl⟩ := I.loc
  obtain ⟨u, r, l⟩ := hl i x v hN e hv
  have fin : EP X pins σ Q u s := ⟨v, H, I, r, h⟩
  rcases l with ⟨hk, hm⟩ | ⟨hk, c, hc, hcell⟩
  · exact wpAny_Name (wpAny_loadName_local I.ok.kind hk hn hm fin) hd
  · rcases hk with hk | hk
    · exact wpAny_Name (wpAny_loadName_cell I.ok.kind hk hc hcell fin) hd
    · exact wpAny_Name (wpAny_loadName_free I.ok.kind hk hc hcell fin hcd) hd
theorem pe_int {i j pos} : PE X (.Constant (.int i) j pos) (tC (.int i)) := fun _ _ _ H _ I h => wpAny_Constant_int ⟨.int i, H, I.tok _, ⟨_, rfl⟩, h⟩
theorem pe_bl {b j pos} : PE X (.Constant (.bool b) j pos) (tC (.bl b)) := fun _ _ _ H _ I h => Constant_bool ⟨.bl b, H, I, rfl, h⟩
theorem pe_non {j pos} : PE X (.Constant .none j pos) (tC .non) := fun _ _ _ H _ I h => Constant_none ⟨.non, H, I, rfl, h⟩
theorem pe_str {x j pos} : PE X (.Constant (.str x) j pos) (tC (.str x)) := fun _ _ _ H _ I h => Calls.Constant_str ⟨.str x, H, I.tok _, ⟨_, rfl⟩, h⟩

/-- a global name of the def -/
def Gl (X : Cx) (x : Str) : Prop := X.env.kindOf x = some .globalImplicit
theorem ld_glob {E : Value → Shared → Prop} {pins : List (Addr × Obj)} {s : Shared} {σ : St} {H : Hp} {x : Str} {u : Value} {pos : Pos} {Q : Value → Shared → Prop} (I : Inv X pins σ H s) (hg : Gl X x) (hm : X.mg x = some u) (h : Q u s)
    (hd : (x == ("__debug__" : Str)) = false := by decide) : wpAny (model X.prog X.w) X.A (eval (.Name x pos) X.env) Q E s :=
  Calls.Name_function_global I.ok.kind hg (Calls.loadGlobal_global (by rw [I.ok.glob]; exact I.mod.glob.keeps I.bk) hm h) hd
theorem ld_blt {E : Value → Shared → Prop} {pins : List (Addr × Obj)} {s : Shared} {σ : St} {H : Hp} {x : Str} {u : Value} {pos : Pos} {Q : Value → Shared → Prop} (I : Inv X pins σ H s) (hg : Gl X x) (hm : X.mg x = none) (hv : bootBuiltins x = some u) (h : Q u s)
    (hn : x ≠ "__name__" := by decide) (hd : (x == ("__debug__" : Str)) = false := by decide) : wpAny (model X.prog X.w) X.A (eval (.Name x pos) X.env) Q E s := by
  obtain ⟨mb, h1, h2⟩ := I.mod.blt
  exact Calls.Name_function_global I.ok.kind hg (Calls.loadGlobal_builtin (by rw [I.ok.glob]; exact I.mod.glob.keeps I.bk) hm (by rw [I.ok.blt]; exact h1.keeps I.bk) ((h2 x hn).trans hv) h) hd
theorem pe_bltn {x : Str} {v : V} {u : Value} {pos : Pos} (hg : Gl X x) (hm : X.mg x = none) (hv : bootBuiltins x = some u) (r : RelV v u) (hn : x ≠ "__name__" := by decide) (hd : (x == ("__debug__" : Str)) = false := by decide) : PE X (.Name x pos) (tC v) :=
  fun _ _ _ H _ I h => ld_blt I hg hm hv ⟨v, H, I, r, h⟩ hn hd

/-! ### arithmetic -/
variable {a b : Expr} {ta tb : TE} {pos : Pos}
/-! ### comparisons -/
def PC (X : Cx) (op : CmpOp) (a b : Expr) (t : TE) : Prop :=
  ∀ (pins : List (Addr × Obj)) (s : Shared) (σ : St) (H : Hp) (Q : VK), Inv X pins σ H s → t σ H Q →
    wpAny (model X.prog X.w) X.A (eval a X.env) (fun v s₁ => wpAny (model X.prog X.w) X.A (eval b X.env) (fun u s₂ => wpAny (model X.prog X.w) X.A (compareOp op v u) (EP X pins σ Q) X.xe s₂) X.xe s₁) X.xe s
/-! ### and, or, not -/
variable {tA tB' : TT} {rest : List Expr}
def tAnd (t u : TT) : TT := fun σ H Q => t σ H fun c H1 => if c = true then u σ H1 Q else Q false H1
def tOr (t u : TT) : TT := fun σ H Q => t σ H fun c H1 => if c = true then Q true H1 else u σ H1 Q
def tNot (t : TT) : TT := fun σ H Q => t σ H fun c H1 => Q (!c) H1
theorem pw_and1 (ha : PT X a tA) : PW X (.BoolOp .And [a] pos) tA := by
  intro wh pins s σ H Q I h
  refine isTrue_and (thn (ha pins s σ H Q I h) fun c s1 e => ?_)
  cases c with
  | true => exact isTrue_and_nil e
  | false => exact e
theorem pw_or1 (ha : PT X a tA) : PW X (.BoolOp .Or [a] pos) tA := by
  intro wh pins s σ H Q I h
  refine isTrue_or (thn (ha pins s σ H Q I h) fun c s1 e => ?_)
  cases c with
  | false => exact isTrue_or_nil e
  | true => exact e
theorem pw_and (ha : PT X a tA) (hb : PW X (.BoolOp .And (b :: rest) pos) tB') : PW X (.BoolOp .And (a :: b :: rest) pos) (tAnd tA tB') := by
  intro wh pins s σ H Q I h
  refine isTrue_and (thn (ha pins s σ H _ I h) fun c s1 ⟨H1, I1, q1⟩ => ?_)
  cases c with
  | true => exact hb wh pins s1 σ H1 Q I1 q1
  | false => exact ⟨H1, I1, q1⟩
theorem pw_or (ha : PT X a tA) (hb : PW X (.BoolOp .Or (b :: rest) pos) tB') : PW X (.BoolOp .Or (a :: b :: rest) pos) (tOr tA tB') := by
  intro wh pins s σ H Q I h
  refine isTrue_or (thn (ha pins s σ H _ I h) fun c s1 ⟨H1, I1, q1⟩ => ?_)
  cases c with
  | true => exact ⟨H1, I1, q1⟩
  | false => exact hb wh pins s1 σ H1 Q I1 q1
theorem pt_not (ha : PT X a tA) : PT X (.UnaryOp .Not a pos) (tNot tA) := by
  intro pins s σ H Q I h
  exact isTrue_not (ha pins s σ H (fun c H1 => Q (!c) H1) I h)
/-- a if t else b -/
def tIf (t : TT) (ta tb : TE) : TE := fun σ H Q => t σ H fun c H1 => if c = true then ta σ H1 Q else tb σ H1 Q
end
end L2

namespace L2
open PySem PySem.Spec PyProof.Rows

/-! ### a list, a tuple that is read: tracked, frozen, or an object of the module -/
def SqL (K : PySem.W.Frag) (H : Hp) (a : Addr) (xs : List V) : Prop :=
  Rd H a (.lst xs) ∨
    ∃ (o : Obj) (its : Array Value) (n : Nat), K.lookup a = some o ∧ o.cls = .type "list" ∧ o.dict = none ∧ o.data = .seq its n ∧ its.size ≤ sizeLine ∧ Vals xs its.toList
def SqT (K : PySem.W.Frag) (H : Hp) (a : Addr) (xs : List V) : Prop :=
  Rd H a (.tup xs) ∨
    ∃ (o : Obj) (its : Array Value) (n : Nat), K.lookup a = some o ∧ o.cls = .type "tuple" ∧ o.data = .seq its n ∧ its.size ≤ sizeLine ∧ Vals xs its.toList
def absV : Value → Option V
  | .none => some .non
  | .bool b => some (.bl b)
  | .int i _ => some (.int i)
  | .str x _ => some (.str x)
  | .bytes b _ => some (.byt b)
  | .float b _ => some (.flt b)
  | .ref a => some (.ref a)
  | .type n => some (.ty n)
  | _ => none
theorem RelV.abs {x : V} {u : Value} (r : RelV x u) : absV u = some x := by
  cases x with
  | non => cases r; rfl
  | bl _ => cases r; rfl
  | int _ => obtain ⟨t, rfl⟩ := r; rfl
  | str _ => obtain ⟨t, rfl⟩ := r; rfl
  | byt _ => obtain ⟨t, rfl⟩ := r; rfl
  | flt _ => obtain ⟨t, rfl⟩ := r; rfl
  | ref _ => cases r; rfl
  | ty _ => cases r; rfl
theorem RelV.inj {x y : V} {u : Value} (r : RelV x u) (q : RelV y u) : x = y := Option.some.inj (r.abs.symm.trans q.abs)
theorem Vals.inj : ∀ {xs ys : List V} {us : List Value}, Vals xs us → Vals ys us → xs = ys
  | _, _, _, .nil, .nil => rfl
  | _, _, _, .cons r t, .cons r' t' => by rw [r.inj r', Vals.inj t t']
section
variable {X : Cx} {pins : List (Addr × Obj)} {σ : St} {H : Hp} {s : Shared} {a : Addr} {xs ys : List V}
theorem SqL.of {K : PySem.W.Frag} (h : H a = some (.lst xs)) : SqL K H a xs := .inl (.inl h)
theorem SqT.of {K : PySem.W.Frag} (h : H a = some (.tup xs)) : SqT K H a xs := .inl (.inl h)
theorem Inv.list (I : Inv X pins σ H s) (h : SqL X.K H a xs) : ∃ its : List Value, Vals xs its ∧ PlainL s.heap a its.toArray ∧ xs.length ≤ sizeLine := by
  rcases h with h | ⟨o, its, n, hk, hc, hd, hs, hz, r⟩
  · obtain ⟨z, its, n, r, e⟩ := h.ok I.hok
    exact ⟨its, r, ⟨_, n, e, rfl, rfl, rfl⟩, z⟩
  · refine ⟨its.toList, r, ⟨o, n, I.kIn a o hk, hc, hd, by simpa using hs⟩, ?_⟩
    have e := r.length
    simp only [Array.length_toList] at e
    omega
theorem Inv.tuple (I : Inv X pins σ H s) (h : SqT X.K H a xs) : ∃ its : List Value, Vals xs its ∧ IsTup s.heap a its.toArray ∧ xs.length ≤ sizeLine := by
  rcases h with h | ⟨o, its, n, hk, hc, hs, hz, r⟩
  · obtain ⟨z, its, r, p⟩ := h.ok I.hok
    exact ⟨its, r, p, z⟩
  · refine ⟨its.toList, r, ⟨o, I.kIn a o hk, hc, n, by simpa using hs⟩, ?_⟩
    have e := r.length
    simp only [Array.length_toList] at e
    omega
theorem Inv.list_inj (I : Inv X pins σ H s) (h : SqL X.K H a xs) (h' : SqL X.K H a ys) : xs = ys := by
  obtain ⟨its, r, ⟨o, n, e, _, _, d⟩, _⟩ := I.list h
  obtain ⟨its', r', ⟨o', n', e', _, _, d'⟩, _⟩ := I.list h'
  rw [e] at e'; cases e'
  rw [d] at d'
  injection d' with d1 _
  have : its = its' := by simpa using congrArg Array.toList d1
  subst this
  exact r.inj r'
theorem Inv.tuple_inj (I : Inv X pins σ H s) (h : SqT X.K H a xs) (h' : SqT X.K H a ys) : xs = ys := by
  obtain ⟨its, r, ⟨o, e, _, n, d⟩, _⟩ := I.tuple h
  obtain ⟨its', r', ⟨o', e', _, n', d'⟩, _⟩ := I.tuple h'
  rw [e] at e'; cases e'
  rw [d] at d'
  injection d' with d1 _
  have : its = its' := by simpa using congrArg Array.toList d1
  subst this
  exact r.inj r'
end

/-! ### another wish about exceptions -/
abbrev Cx.wish (X : Cx) (E : Value → Shared → Prop) : Cx := { X with xe := E }
/-- no exception leaves -/
abbrev Cx.nox (X : Cx) : Cx := X.wish fun _ _ => False
theorem Cx.Ok.wish {X : Cx} (ok : X.Ok) (E : Value → Shared → Prop) : (X.wish E).Ok :=
  ⟨ok.mod, ok.kind, ok.glob, ok.blt, ok.above, ok.inj, ok.has, ok.cab, ok.hd, ok.frames, ok.stk, ok.exf, ok.bs, ok.bsz, ok.noex, ok.exfs, ok.funs, ok.frf⟩
theorem Cx.Ok.unwish {X : Cx} {E : Value → Shared → Prop} (ok : (X.wish E).Ok) : X.Ok :=
  ⟨ok.mod, ok.kind, ok.glob, ok.blt, ok.above, ok.inj, ok.has, ok.cab, ok.hd, ok.frames, ok.stk, ok.exf, ok.bs, ok.bsz, ok.noex, ok.exfs, ok.funs, ok.frf⟩
section
variable {X : Cx} {pins : List (Addr × Obj)} {σ : St} {H : Hp} {s : Shared} {E : Value → Shared → Prop}
theorem Inv.wish (I : Inv X pins σ H s) (E : Value → Shared → Prop) : Inv (X.wish E) pins σ H s := ⟨I.ok.wish E, I.os, I.bare, I.base, I.loc, I.cell, I.free, I.freeC, I.pin, I.hok, I.len⟩
theorem Inv.unwish (I : Inv (X.wish E) pins σ H s) : Inv X pins σ H s := ⟨I.ok.unwish, I.os, I.bare, I.base, I.loc, I.cell, I.free, I.freeC, I.pin, I.hok, I.len⟩
theorem SP.unwish {D : Ends} {f : Flow} {s' : Shared} (h : SP (X.wish E) pins D f s') : SP X pins D f s' := by
  cases f with
  | next => obtain ⟨σ', H', I, q⟩ := h; exact ⟨σ', H', I.unwish, q⟩
  | brk => obtain ⟨σ', H', I, q⟩ := h; exact ⟨σ', H', I.unwish, q⟩
  | cont => obtain ⟨σ', H', I, q⟩ := h; exact ⟨σ', H', I.unwish, q⟩
  | ret u => obtain ⟨v, σ', H', I, r, q⟩ := h; exact ⟨v, σ', H', I.unwish, r, q⟩
theorem PE.nox {e : Expr} {t : TE} (h : PE X.nox e t) : PE X e t := fun pins s σ H Q I hw =>
  wpAny_mono (h pins s σ H Q (I.wish _) hw) (fun _ _ ⟨v, H', I', r, q⟩ => ⟨v, H', I'.unwish, r, q⟩) fun _ _ z => False.elim z
theorem PT.nox {e : Expr} {t : TT} (h : PT X.nox e t) : PT X e t := fun pins s σ H Q I hw =>
  wpAny_mono (h pins s σ H Q (I.wish _) hw) (fun _ _ ⟨H', I', q⟩ => ⟨H', I'.unwish, q⟩) fun _ _ z => False.elim z
theorem PSs.nox {st : List Stmt} {t : TS} (h : PSs X.nox st t) : PSs X st t := fun pins s σ H D I hw =>
  wpAny_mono (h pins s σ H D (I.wish _) hw) (fun _ _ q => q.unwish) fun _ _ z => False.elim z
end

/-! ### blocks and small statements -/
section
variable {X : Cx} {st : Stmt} {rest : List Stmt} {t u : TS} {e : Expr} {te : TE} {pos : Pos}
def tNext : TS := fun D σ H => D.nx σ H
def tSeq (t u : TS) : TS := fun D σ H => t { D with nx := u D } σ H
theorem pss_nil : PSs X [] tNext := fun _ _ σ H _ I h => wpAny_execs_nil ⟨σ, H, I, h⟩
theorem pss_cons (h1 : PS X st t) (h2 : PSs X rest u) : PSs X (st :: rest) (tSeq t u) := by
  intro pins s σ H D I h
  refine wpAny_execs_cons (thn (h1 pins s σ H { D with nx := u D } I h) fun f s1 q => ?_)
  cases f with
  | next =>
    obtain ⟨σ', H', I', q⟩ := q
    exact h2 pins s1 σ' H' D I' q
  | ret v => exact q
  | brk => exact q
  | cont => exact q
theorem pss_one (h1 : PS X st t) : PSs X [st] t := by
  intro pins s σ H D I h
  refine wpAny_execs_cons (thn (h1 pins s σ H D I h) fun f s1 q => ?_)
  cases f with
  | next => exact wpAny_execs_nil q
  | ret v => exact q
  | brk => exact q
  | cont => exact q
/-- in a def's body nothing is shown -/
theorem Inv.quiet {pins : List (Addr × Obj)} {σ : St} {H : Hp} {s : Shared} (I : Inv X pins σ H s) : interactive X.env = false := by simp [interactive, I.ok.kind]
/-- an expression whose value is dropped -/
def tDrop (te : TE) : TS := fun D σ H => te σ H fun _ H1 => D.nx σ H1
theorem ps_expr (he : PE X e te) (hs : swapsWith e none pos.line X.env = pure false := by rfl) : PS X (.Expr e pos) (tDrop te) := by
  intro pins s σ H D I h
  exact wpAny_Expr_any (thn (he pins s σ H _ I h) fun v s1 ⟨x, H1, I1, r1, q1⟩ => ⟨σ, H1, I1, q1⟩) I.quiet hs
def tRet (te : TE) : TS := fun D σ H => te σ H D.rt
theorem ps_ret (he : PE X e te) : PS X (.Return (some e) pos) (tRet te) := by
  intro pins s σ H D I h
  exact wpAny_Return_some (thn (he pins s σ H _ I h) fun v s1 ⟨x, H1, I1, r1, q1⟩ => ⟨x, σ, H1, I1, r1, q1⟩)
def tRetN : TS := fun D _ H => D.rt .non H
def tIfS (c : TT) (t u : TS) : TS := fun D σ H => c σ H fun b H1 => if b = true then t D σ H1 else u D σ H1
theorem ps_if {c : Expr} {a b : List Stmt} {tc : TT} (hc : PT X c tc) (ha : PSs X a t) (hb : PSs X b u) : PS X (.If c a b pos) (tIfS tc t u) := by
  intro pins s σ H D I h
  refine wpAny_If (thn (hc pins s σ H _ I h) fun d s1 ⟨H1, I1, q1⟩ => ?_)
  cases d with
  | true => exact ha pins s1 σ H1 D I1 q1
  | false => exact hb pins s1 σ H1 D I1 q1
end

/-! ### targets -/
abbrev TG := V → St → Hp → (St → Hp → Prop) → Prop
abbrev TGs := List V → St → Hp → (St → Hp → Prop) → Prop
def PG (X : Cx) (target : Expr) (t : TG) : Prop :=
  ∀ (pins : List (Addr × Obj)) (s : Shared) (σ : St) (H : Hp) (v : V) (u : Value) (Q : St → Hp → Prop), Inv X pins σ H s → RelV v u → t v σ H Q →
    wpAny (model X.prog X.w) X.A (assign target X.env u) (fun _ s' => ∃ σ' H', Inv X pins σ' H' s' ∧ Q σ' H') X.xe s
/-- several targets, one after another -/
def PGs (X : Cx) (ts : List Expr) (t : TGs) : Prop :=
  ∀ (pins : List (Addr × Obj)) (s : Shared) (σ : St) (H : Hp) (vs : List V) (us : List Value) (Q : St → Hp → Prop), Inv X pins σ H s → Vals vs us → t vs σ H Q →
    wpAny (model X.prog X.w) X.A (assignInOrder ((assignEach ts X.env).map (·.2)) us) (fun _ s' => ∃ σ' H', Inv X pins σ' H' s' ∧ Q σ' H') X.xe s
/-- o[i] = v, by values -/
abbrev TSet := V → V → V → Hp → (Hp → Prop) → Prop
def PSet (X : Cx) (t : TSet) : Prop :=
  ∀ (pins : List (Addr × Obj)) (s : Shared) (σ : St) (H : Hp) (o i v : V) (ov iv u : Value) (Q : Hp → Prop), Inv X pins σ H s → RelV o ov → RelV i iv → RelV v u → t o i v H Q →
    wpAny (model X.prog X.w) X.A (setItem ov iv u) (fun _ s' => ∃ H', Inv X pins σ H' s' ∧ Q H') X.xe s
/-- a op= b, by values -/
abbrev TIp := V → V → Hp → VK → Prop
def PIp (X : Cx) (op : Operator) (t : TIp) : Prop :=
  ∀ (pins : List (Addr × Obj)) (s : Shared) (σ : St) (H : Hp) (x y : V) (v u : Value) (Q : VK), Inv X pins σ H s → RelV x v → RelV y u → t x y H Q →
    wpAny (model X.prog X.w) X.A (inplaceOp op v u) (EP X pins σ Q) X.xe s
section
variable {X : Cx} {pos : Pos}
def gName (i : Nat) : TG := fun v σ H Q => Q (σ.set i (some v)) H
theorem pg_name {i : Nat} {x : Str} (hN : X.N.Nodup) (hi : X.N[i]? = some x) (hx : Loc X.env.scope x) (hf : X.fn x = true ∨ X.env.scope.names.lookup x = some .local := by first | exact .inl rfl | exact .inr rfl | assumption) : PG X (.Name x pos) (gName i) := by
  intro pins s σ H v u Q I r h
  exact wpAny_assign_Name (store_ok I hN hi hx r (fun s' I' => ⟨_, H, I', h⟩) hf)
def gNil : TGs := fun vs σ H Q => vs = [] ∧ Q σ H
def gCons (t : TG) (u : TGs) : TGs := fun vs σ H Q => ∃ v r, vs = v :: r ∧ t v σ H fun σ' H' => u r σ' H' Q
theorem pgs_nil : PGs X [] gNil := by
  intro pins s σ H vs us Q I r h
  obtain ⟨e, h⟩ := h
  subst e
  cases r
  exact assignInOrder_nil ⟨σ, H, I, h⟩
theorem pgs_cons {e : Expr} {es : List Expr} {t : TG} {u : TGs} (h1 : PG X e t) (h2 : PGs X es u)
    (hs : (assignEach (e :: es) X.env).map (·.2) = assign e X.env :: (assignEach es X.env).map (·.2) := by rfl) : PGs X (e :: es) (gCons t u) := by
  intro pins s σ H vs us Q I r h
  obtain ⟨v, vr, e1, h⟩ := h
  subst e1
  cases r with
  | cons r rr =>
    rw [hs]
    refine assignInOrder_cons (thn (h1 pins s σ H _ _ _ I r h) fun _ s1 ⟨σ1, H1, I1, q1⟩ => ?_)
    exact h2 pins s1 σ1 H1 _ _ Q I1 rr q1
/-- (a, b, ..) = a tuple of that length -/
def gTup (K : PySem.W.Frag) (n : Nat) (t : TGs) : TG := fun v σ H Q => ∃ a xs, v = .ref a ∧ SqT K H a xs ∧ xs.length = n ∧ t xs σ H Q
theorem pg_tup {es : List Expr} {k : Nat} {t : TGs} {n : Nat} (hc : X.calm = true) (h : PGs X es t)
    (hn : (assignEach es X.env).length = n := by rfl) (hst : (assignEach es X.env).findIdx? (·.1) = none := by rfl) : PG X (.Tuple es k pos) (gTup X.K n t) := by
  intro pins s σ H v u Q I r hw
  obtain ⟨a, xs, e1, hq, hl, hw⟩ := hw
  subst e1
  cases r
  obtain ⟨its, rv, ht, hz⟩ := I.tuple hq
  refine assign_Tuple_tuple (I.ok.hd hc) ht (by simp [hn, ← hl, rv.length]) hst fun h' hx => ?_
  have I1 : Inv X pins σ H { s with heap := h' } := I.kept (t' := s.toks) fun b o e => hx b o (Nat.ne_of_lt (Heap.lt_size e)) e
  exact h pins _ σ H xs _ Q I1 (by simpa using rv) hw
/-- o[i] = .. -/
def gSub (to ti : TE) (t : TSet) : TG := fun v σ H Q => to σ H fun o H1 => ti σ H1 fun i H2 => t o i v H2 fun H3 => Q σ H3
theorem pg_sub {o i : Expr} {to ti : TE} {t : TSet} (ho : PE X o to) (hi : PE X i ti) (hs : PSet X t)
    (ha : ∀ v, assign (.Subscript o i pos) X.env v = (do
      let ov ← holding [v] (eval o X.env)
      let iv ← holding [v, ov] (eval i X.env)
      standAt pos
      holding [v, ov, iv] (setItem ov iv v)
      release [v, ov, iv] []) := by intro _; rfl) : PG X (.Subscript o i pos) (gSub to ti t) := by
  intro pins s σ H v u Q I r h
  rw [ha]
  refine wpAny_bind (wpAny_holding (thn (ho pins s σ H _ I h) fun ov s1 ⟨x, H1, I1, r1, q1⟩ => ?_))
  refine wpAny_bind (wpAny_holding (thn (hi pins s1 σ H1 _ I1 q1) fun iv s2 ⟨y, H2, I2, r2, q2⟩ => ?_))
  refine wpAny_bind (wpAny_standAt (wpAny_bind (wpAny_holding (thn (hs pins s2 σ H2 x y v ov iv u _ I2 r1 r2 r q2) fun _ s3 ⟨H3, I3, q3⟩ => ?_))))
  exact wpAny_release ⟨σ, H3, I3, q3⟩
/-- target = value -/
def tAsg (te : TE) (g : TG) : TS := fun D σ H => te σ H fun x H1 => g x σ H1 D.nx
theorem ps_asg {tg e : Expr} {te : TE} {g : TG} (he : PE X e te) (hg : PG X tg g) (hs : swapsWithSole [tg] e pos.line X.env = pure false := by rfl) (hw : swappedStores [tg] e X.env = pure none := by rfl)
    (h1 : (assignEach [tg] X.env).map (·.2) = [assign tg X.env] := by rfl) : PS X (.Assign [tg] e pos) (tAsg te g) := by
  intro pins s σ H D I h
  refine wpAny_Assign_stores (thn (he pins s σ H _ I h) fun v s1 ⟨x, H1, I1, r1, q1⟩ => ?_) hs hw
  rw [h1]
  exact thn (hg pins s1 σ H1 x v _ I1 r1 q1) fun _ s2 q => q
/-- name = value -/
theorem ps_set {i : Nat} {x : Str} {e : Expr} {te : TE} {pos' : Pos} (hN : X.N.Nodup) (hi : X.N[i]? = some x) (hx : Loc X.env.scope x) (he : PE X e te) (hs : swapsWith e (some (.Name x pos')) pos.line X.env = pure false := by rfl) (hf : X.fn x = true ∨ X.env.scope.names.lookup x = some .local := by first | exact .inl rfl | exact .inr rfl | assumption) :
    PS X (.Assign [.Name x pos'] e pos) (tAsg te (gName i)) := by
  intro pins s σ H D I h
  refine wpAny_Assign_Name (thn (he pins s σ H _ I h) fun v s1 ⟨y, H1, I1, r1, q1⟩ => ?_) hs
  exact store_ok I1 hN hi hx r1 (fun s2 I2 => ⟨_, H1, I2, q1⟩) hf
/-- a, b = x, y with plain local names: stored from the right; the pair itself is not tracked (the opening rows as in PyProof/Rows/TupAssign.lean:23) -/
def tPar (i j : Nat) (ta : TA) : TS := fun D σ H => ta σ H fun vs H1 => ∃ v w, vs = [v, w] ∧ D.nx ((σ.set i (some v)).set j (some w)) H1
end

/-! ### while -/
section
variable {X : Cx} {pos : Pos}
/-- the invariant W with its measure -/
def tWhile (c : TT) (tb : TS) : TS := fun D σ H => ∃ W : Nat → St → Hp → Prop, (∃ m, W m σ H) ∧ ∀ m σ H, W m σ H →
  c σ H fun b H1 => if b = true then ∃ N : St → Hp → Prop, (∀ σ' H', N σ' H' → ∃ m', m' < m ∧ W m' σ' H') ∧ tb { D with nx := N, ct := N, bk := D.nx } σ H1 else D.nx σ H1
theorem ps_while {c : Expr} {body : List Stmt} {tc : TT} {tb : TS} (hp : PassesOwn (model X.prog X.w) X.A X.env X.xe) (hc : PT X c tc) (hb : PSs X body tb) : PS X (.While c body [] pos) (tWhile tc tb) := by
  intro pins s σ H D I h
  obtain ⟨W, ⟨m0, w0⟩, turn⟩ := h
  refine wpAny_While (codeAny_whileLoop (fun n s' => ∃ σ' H', Inv X pins σ' H' s' ∧ W n σ' H') ?_ m0 ⟨σ, H, I, w0⟩)
  rintro n s1 ⟨σ1, H1, I1, w1⟩
  refine wpAny_passesOwn hp (thn (hc pins s1 σ1 H1 _ I1 (turn n σ1 H1 w1)) fun b s2 ⟨H2, I2, q2⟩ => ?_)
  cases b with
  | true =>
    obtain ⟨N, hN, q2⟩ := q2
    rw [if_pos rfl]
    refine wpAny_passesOwn hp (thn (hb pins s2 σ1 H2 _ I2 q2) fun f s3 q3 => ?_)
    cases f with
    | next =>
      obtain ⟨σ3, H3, I3, n3⟩ := q3
      obtain ⟨m', hm, w3⟩ := hN σ3 H3 n3
      exact ⟨m', hm, σ3, H3, I3, w3⟩
    | cont =>
      obtain ⟨σ3, H3, I3, n3⟩ := q3
      obtain ⟨m', hm, w3⟩ := hN σ3 H3 n3
      exact ⟨m', hm, σ3, H3, I3, w3⟩
    | brk => exact q3
    | ret v => exact q3
  | false =>
    rw [if_neg Bool.false_ne_true]
    exact wpAny_execs_nil ⟨σ1, H2, I2, q2⟩
end

/-! ### what a loop or a comprehension walks -/
/-- at turn i: it yields x (the heap may grow), or it stops -/
structure It where
  go : Nat → Hp → Prop
  yld : Nat → Hp → V → Hp → Prop
  stop : Nat → Hp → Prop
/-- the iterator's own objects may turn: they are not the frame's, not pinned, younger than the entry (or a comprehension's own) -/
def FpOk (X : Cx) (pins : List (Addr × Obj)) (H : Hp) (b : Addr) : Prop :=
  H b = none ∧ b ≠ X.env.locals ∧ b ∉ X.fs ∧ (b ∈ X.ex ∨ X.s₀.heap.objs.size ≤ b) ∧ (∀ x c, X.env.cells.lookup x = some c → c ≠ b) ∧ ∀ p ∈ X.pn ++ pins, p.1 ≠ b
theorem Inv.fpOk {X : Cx} {pins : List (Addr × Obj)} {σ : St} {H H' : Hp} {s : Shared} {b : Addr} (I : Inv X pins σ H s) (hb : s.heap.objs.size ≤ b) (hn : H' b = none) : FpOk X pins H' b := by
  refine ⟨hn, Nat.ne_of_gt (Nat.lt_of_lt_of_le I.lt hb), I.nofs hb, .inr (Nat.le_trans I.sz hb), fun x c e z => ?_, fun p hp z => ?_⟩
  · obtain ⟨v, q⟩ := I.cell x c e
    exact absurd (Nat.lt_of_lt_of_le q.lt (by rw [z]; exact hb)) (Nat.lt_irrefl _)
  · exact absurd (Nat.lt_of_lt_of_le (Heap.lt_size (I.pin p hp).1) (by rw [z]; exact hb)) (Nat.lt_irrefl _)
structure Turn (P : Program) (w : World) (K : PySem.W.Frag) (tg : Expr) (J : It) (fp : List Addr) (it : Addr) (tn : Nat → Heap → Prop) : Prop where
  mem : it ∈ fp
  obj : ∀ i h, tn i h → ∀ b ∈ fp, ∃ o, h.get? b = some o ∧ ∀ v, o.data ≠ .cell v
  keep : ∀ i h h', tn i h → (∀ b ∈ fp, ∀ o, h.get? b = some o → h'.get? b = some o) → tn i h'
  item : ∀ (X : Cx), X.prog = P → X.w = w → X.K = K → X.calm = true → ∀ (i : Nat) (pins : List (Addr × Obj)) (s : Shared) (σ : St) (H : Hp) (E : Value → Shared → Prop), Inv X pins σ H s → (∀ b ∈ fp, FpOk X pins H b) → tn i s.heap → J.go i H →
    wpAny (model P w) X.A (pyNext (.ref it)) (fun r s1 => ∃ u, r = some u ∧
      wpAny (model P w) X.A (letOwnedTupleGo tg (.ref it) u) (fun _ s2 => ∃ x H', Inv X pins σ H' s2 ∧ RelV x u ∧ J.yld i H x H' ∧ tn (i + 1) s2.heap ∧ ∀ b ∈ fp, H' b = none) E s1) E s
  done : ∀ (X : Cx), X.prog = P → X.w = w → X.K = K → X.calm = true → ∀ (i : Nat) (pins : List (Addr × Obj)) (s : Shared) (σ : St) (H : Hp) (E : Value → Shared → Prop), Inv X pins σ H s → (∀ b ∈ fp, FpOk X pins H b) → tn i s.heap → J.stop i H →
    wpAny (model P w) X.A (pyNext (.ref it)) (fun r s1 => r = none ∧ Inv X pins σ H s1) E s
  self : ∀ (A : Around) (i : Nat) (s : Shared) (Q : Value → Shared → Prop) (E : Value → Shared → Prop), tn i s.heap → Q (.ref it) s → wpAny (model P w) A (pyIter (.ref it)) Q E s
abbrev TI := St → Hp → (It → Hp → Prop) → Prop
/-- an iterator has come -/
def PIE (X : Cx) (pins : List (Addr × Obj)) (σ : St) (tg : Expr) (R : It → Hp → Prop) (itv : Value) (s2 : Shared) : Prop :=
  ∃ (it : Addr) (fp : List Addr) (tn : Nat → Heap → Prop) (J : It) (H' : Hp), itv = .ref it ∧ Inv X pins σ H' s2 ∧ Turn X.prog X.w X.K tg J fp it tn ∧ tn 0 s2.heap ∧ (∀ b ∈ fp, FpOk X pins H' b) ∧ R J H'
def PI (X : Cx) (tg iter : Expr) (wi : TI) : Prop :=
  ∀ (pins : List (Addr × Obj)) (s : Shared) (σ : St) (H : Hp) (R : It → Hp → Prop), Inv X pins σ H s → wi σ H R →
    wpAny (model X.prog X.w) X.A (eval iter X.env) (fun v s1 => wpAny (model X.prog X.w) X.A (pyIter v) (PIE X pins σ tg R) X.xe s1) X.xe s

/-- the step ahead of the store is nothing for an iterator that keeps no tuple -/
theorem go_of {M : Model} {A : Around} {E : Value → Shared → Prop} {s : Shared} {tg : Expr} {it : Addr} {u : Value} {o : Obj} {n : String} {vs : Array Value} {Q : Unit → Shared → Prop} (ho : s.heap.get? it = some o) (hc : o.cls = .type n) (hd : o.data = .fields vs)
    (hn : ["enumerate", "zip", "dict_itemiterator", "dict_reverseitemiterator", "odict_iterator", "itertools.zip_longest", "itertools.pairwise"].contains n = false) (hQ : Q () s) : wpAny M A (letOwnedTupleGo tg (.ref it) u) Q E s := by
  unfold letOwnedTupleGo
  cases tg <;> first
    | exact wpAny_pure hQ
    | (cases u <;> first
        | exact wpAny_pure hQ
        | (refine wpAny_bind (wpAny_load ho ?_)
           rw [hc, hd]
           show wpAny M A (if (["enumerate", "zip", "dict_itemiterator", "dict_reverseitemiterator", "odict_iterator", "itertools.zip_longest", "itertools.pairwise"].contains n && vs[0]? == some (rawInt _)) = true then _ else _) Q E s
           rw [if_neg (by intro h; rw [hn, Bool.false_and] at h; cases h)]
           exact wpAny_pure hQ))

/-- the list at a, as it stands at each turn (a loop may append to it) -/
def Itl (K : PySem.W.Frag) (a : Addr) : It :=
  ⟨fun i H => ∃ xs x, SqL K H a xs ∧ xs[i]? = some x, fun i H x H' => H' = H ∧ ∀ xs, SqL K H a xs → xs[i]? = some x, fun i H => ∃ xs, SqL K H a xs ∧ xs.length ≤ i⟩
def Itt (K : PySem.W.Frag) (a : Addr) : It :=
  ⟨fun i H => ∃ xs x, SqT K H a xs ∧ xs[i]? = some x, fun i H x H' => H' = H ∧ ∀ xs, SqT K H a xs → xs[i]? = some x, fun i H => ∃ xs, SqT K H a xs ∧ xs.length ≤ i⟩
/-- lo, lo + 1, .. (n of them) -/
def Itr (lo : Int) (n : Nat) : It := ⟨fun i _ => i < n, fun i H x H' => H' = H ∧ x = .int (lo + i), fun i _ => n ≤ i⟩
theorem turn_list {P : Program} {w : World} {K : PySem.W.Frag} {tg : Expr} (a it : Addr) : Turn P w K tg (Itl K a) [it] it (fun i h => h.IsListIter it a i) where
  mem := by simp
  obj := fun i h st b hb => by
    have e : b = it := by simpa using hb
    subst e
    obtain ⟨o, e, c, d⟩ := st
    exact ⟨o, e, fun v z => by rw [d] at z; cases z⟩
  keep := fun i h h' st k => st.at fun o e => k it (by simp) o e
  item := by
    intro X hP hw hK hc i pins s σ H E I hf st hg
    subst hP hw hK
    obtain ⟨xs, x, hq, hx⟩ := hg
    obtain ⟨its, rv, p, hz⟩ := I.list hq
    obtain ⟨u, hu, ru⟩ := rv.get hx
    obtain ⟨f0, f1, f2, f3, f4, f5⟩ := hf it (by simp)
    refine wpAny_pyNext_list_item st p.isList (x := u) (by simpa using hu) fun h' st' sb => ?_
    have I1 : Inv X pins σ H { s with heap := h' } := I.turned (t' := s.toks) (fun b o hb e => (sb.2 b hb).trans e) f0 f1 f3 f4 f5
    obtain ⟨o, e, c, d⟩ := id st'
    exact ⟨u, rfl, go_of (s := { s with heap := h' }) e c d (by decide) ⟨x, H, I1, ru, ⟨rfl, fun ys hy => by rw [I.list_inj hy hq]; exact hx⟩, st', fun b hb => (hf b hb).1⟩⟩
  done := by
    intro X hP hw hK hc i pins s σ H E I hf st hg
    subst hP hw hK
    obtain ⟨xs, hq, hx⟩ := hg
    obtain ⟨its, rv, p, hz⟩ := I.list hq
    obtain ⟨f0, f1, f2, f3, f4, f5⟩ := hf it (by simp)
    have hl := rv.length
    exact wpAny_pyNext_list_end (I.ok.hd hc) st p.isList (by simp; omega) fun h' eb => ⟨rfl, I.turned (t' := s.toks) (fun b o hb e => eb b o hb e) f0 f1 f3 f4 f5⟩
  self := fun _ _ _ _ _ st h => wpAny_pyIter_listiter st h
theorem turn_tuple {P : Program} {w : World} {K : PySem.W.Frag} {tg : Expr} (a it : Addr) : Turn P w K tg (Itt K a) [it] it (fun i h => h.IsTupleIter it a i) where
  mem := by simp
  obj := fun i h st b hb => by
    have e : b = it := by simpa using hb
    subst e
    obtain ⟨o, e, c, d⟩ := st
    exact ⟨o, e, fun v z => by rw [d] at z; cases z⟩
  keep := fun i h h' st k => st.at fun o e => k it (by simp) o e
  item := by
    intro X hP hw hK hc i pins s σ H E I hf st hg
    subst hP hw hK
    obtain ⟨xs, x, hq, hx⟩ := hg
    obtain ⟨its, rv, p, hz⟩ := I.tuple hq
    obtain ⟨u, hu, ru⟩ := rv.get hx
    obtain ⟨f0, f1, f2, f3, f4, f5⟩ := hf it (by simp)
    refine wpAny_pyNext_tuple_item st (show s.heap.IsTuple a its.toArray from p) (x := u) (by simpa using hu) fun h' st' sb => ?_
    have I1 : Inv X pins σ H { s with heap := h' } := I.turned (t' := s.toks) (fun b o hb e => (sb.2 b hb).trans e) f0 f1 f3 f4 f5
    obtain ⟨o, e, c, d⟩ := id st'
    exact ⟨u, rfl, go_of (s := { s with heap := h' }) e c d (by decide) ⟨x, H, I1, ru, ⟨rfl, fun ys hy => by rw [I.tuple_inj hy hq]; exact hx⟩, st', fun b hb => (hf b hb).1⟩⟩
  done := by
    intro X hP hw hK hc i pins s σ H E I hf st hg
    subst hP hw hK
    obtain ⟨xs, hq, hx⟩ := hg
    obtain ⟨its, rv, p, hz⟩ := I.tuple hq
    obtain ⟨f0, f1, f2, f3, f4, f5⟩ := hf it (by simp)
    have hl := rv.length
    exact wpAny_pyNext_tuple_end (I.ok.hd hc) st (show s.heap.IsTuple a its.toArray from p) (by simp; omega) fun h' eb => ⟨rfl, I.turned (t' := s.toks) (fun b o hb e => eb b o hb e) f0 f1 f3 f4 f5⟩
  self := fun _ _ _ _ _ st h => wpAny_pyIter_tupleiter st h
theorem turn_range {P : Program} {w : World} {K : PySem.W.Frag} {tg : Expr} (it : Addr) (lo : Int) (n : Nat) : Turn P w K tg (Itr lo n) [it] it (fun i h => IsRangeIter h it (lo + (i : Nat) * 1) ((n : Int) - (i : Nat)) 1) where
  mem := by simp
  obj := fun i h st b hb => by
    have e : b = it := by simpa using hb
    subst e
    exact ⟨_, st, fun v z => by
      have z' : Data.fields _ = Data.cell v := z
      cases z'⟩
  keep := fun i h h' st k => k it (by simp) _ st
  item := by
    intro X hP hw hK hc i pins s σ H E I hf st hg
    subst hP hw hK
    obtain ⟨f0, f1, f2, f3, f4, f5⟩ := hf it (by simp)
    have W := Walks.range (prog := X.prog) (w := X.w) (I.ok.hd hc) it lo 1 n
    refine W.item i s _ _ hg st fun v h' tk hv st' kk => ?_
    obtain ⟨t, rfl⟩ := hv
    have I1 : Inv X pins σ H { s with heap := h', toks := tk } := I.turned (fun b o hb e => kk b o (by simpa using hb) e) f0 f1 f3 f4 f5
    refine ⟨_, rfl, go_of (s := { s with heap := h', toks := tk }) (n := "range_iterator") st' rfl rfl (by decide) ⟨.int (lo + i), H, I1, ⟨t, ?_⟩, ⟨rfl, rfl⟩, st', fun b hb => (hf b hb).1⟩⟩
    rw [Int.mul_one]
  done := by
    intro X hP hw hK hc i pins s σ H E I hf st hg
    subst hP hw hK
    obtain ⟨f0, f1, f2, f3, f4, f5⟩ := hf it (by simp)
    exact wpAny_pyNext_range_end (I.ok.hd hc) st (by have : n ≤ i := hg; omega) fun h' eb => ⟨rfl, I.turned (t' := s.toks) (fun b o hb e => eb b o hb e) f0 f1 f3 f4 f5⟩
  self := fun _ _ _ _ _ st h => wpAny_pyIter_rangeiter st h
end L2

namespace L2
open PySem PySem.Spec PyProof.Rows
section
variable {X : Cx} {tg : Expr}
def iList (K : PySem.W.Frag) (tl : TE) : TI := fun σ H R => tl σ H fun x H1 => ∃ a, x = .ref a ∧ (∃ xs, SqL K H1 a xs) ∧ R (Itl K a) H1
def iTup (K : PySem.W.Frag) (tl : TE) : TI := fun σ H R => tl σ H fun x H1 => ∃ a, x = .ref a ∧ (∃ xs, SqT K H1 a xs) ∧ R (Itt K a) H1
theorem pi_list {l : Expr} {tl : TE} (hl : PE X l tl) : PI X tg l (iList X.K tl) := by
  intro pins s σ H R I h
  refine thn (hl pins s σ H _ I h) fun v s1 ⟨x, H1, I1, r1, q1⟩ => ?_
  obtain ⟨a, e, ⟨xs, hq⟩, q⟩ := q1
  subst e
  cases r1
  obtain ⟨its, rv, p, hz⟩ := I1.list hq
  refine wpAny_pyIter_list p.isList ?_
  refine ⟨s1.heap.objs.size, [s1.heap.objs.size], _, _, H1, rfl, I1.kept (t' := s1.toks) fun b o e => Heap.get?_push_of_some _ e, turn_list a _, ⟨_, Heap.get?_push_size _ rfl, rfl, rfl⟩, fun b hb => ?_, q⟩
  have e : b = s1.heap.objs.size := by simpa using hb
  subst e
  exact I1.fpOk (Nat.le_refl _) (I1.hok.fresh (Nat.le_refl _))
theorem pi_tup {l : Expr} {tl : TE} (hl : PE X l tl) : PI X tg l (iTup X.K tl) := by
  intro pins s σ H R I h
  refine thn (hl pins s σ H _ I h) fun v s1 ⟨x, H1, I1, r1, q1⟩ => ?_
  obtain ⟨a, e, ⟨xs, hq⟩, q⟩ := q1
  subst e
  cases r1
  obtain ⟨its, rv, p, hz⟩ := I1.tuple hq
  refine wpAny_pyIter_tuple (show s1.heap.IsTuple a its.toArray from p) ?_
  refine ⟨s1.heap.objs.size, [s1.heap.objs.size], _, _, H1, rfl, I1.kept (t' := s1.toks) fun b o e => Heap.get?_push_of_some _ e, turn_tuple a _, ⟨_, Heap.get?_push_size _ rfl, rfl, rfl⟩, fun b hb => ?_, q⟩
  have e : b = s1.heap.objs.size := by simpa using hb
  subst e
  exact I1.fpOk (Nat.le_refl _) (I1.hok.fresh (Nat.le_refl _))
/-- a range object just made, walked -/
theorem range_it {pins : List (Addr × Obj)} {σ : St} {H : Hp} {s : Shared} {R : It → Hp → Prop} {E : Value → Shared → Prop} {lo hi : Int} {t u v : Tok} {tk : Nat} (I : Inv X pins σ H s) (h1 : -(2 ^ 62) ≤ lo) (h2 : lo < 2 ^ 62) (h3 : -(2 ^ 62) ≤ hi) (h4 : hi < 2 ^ 62)
    (q : R (Itr lo (hi - lo).toNat) H) : wpAny (model X.prog X.w) X.A (pyIter (.ref s.heap.objs.size)) (PIE X pins σ tg R) E { s with heap := s.heap.push { cls := .type "range", data := .fields #[.int lo t, .int hi u, .int 1 v] }, toks := tk } := by
  refine wpAny_pyIter_range (IsRange.new ..) (small_one h1 h2 h3 h4) ?_
  have I1 : Inv X pins σ H { s with heap := s.heap.push { cls := .type "range", data := .fields #[.int lo t, .int hi u, .int 1 v] }, toks := tk } := I.kept fun b o e => Heap.get?_push_of_some _ e
  refine ⟨(s.heap.push { cls := .type "range", data := .fields #[.int lo t, .int hi u, .int 1 v] }).objs.size, [(s.heap.push { cls := .type "range", data := .fields #[.int lo t, .int hi u, .int 1 v] }).objs.size], _, _, H, rfl,
    I1.kept (t' := tk) fun b o e => Heap.get?_push_of_some _ e, turn_range _ lo (hi - lo).toNat, ?_, fun b hb => ?_, q⟩
  · have e1 : lo + ((0 : Nat) : Int) * 1 = lo := by simp
    have e2 : (((hi - lo).toNat : Nat) : Int) - ((0 : Nat) : Int) = Builtin.Range.rangeSize lo hi 1 := by rw [rangeSize_one]; split <;> omega
    show IsRangeIter _ _ (lo + ((0 : Nat) : Int) * 1) ((((hi - lo).toNat : Nat) : Int) - ((0 : Nat) : Int)) 1
    rw [e1, e2]
    exact Heap.get?_push_size _ rfl
  · have e : b = (s.heap.push { cls := .type "range", data := .fields #[.int lo t, .int hi u, .int 1 v] }).objs.size := by simpa using hb
    subst e
    exact I1.fpOk (Nat.le_refl _) (I1.hok.fresh (Nat.le_refl _))
def iRng1 (ta : TA) : TI := fun σ H R => ta σ H fun vs H1 => ∃ j : Int, vs = [.int j] ∧ -(2 ^ 62) ≤ j ∧ j < 2 ^ 62 ∧ R (Itr 0 j.toNat) H1
def iRng2 (ta : TA) : TI := fun σ H R => ta σ H fun vs H1 => ∃ i j : Int, vs = [.int i, .int j] ∧ (-(2 ^ 62) ≤ i ∧ i < 2 ^ 62 ∧ -(2 ^ 62) ≤ j ∧ j < 2 ^ 62) ∧ R (Itr i (j - i).toNat) H1
theorem pi_range1 {a : Expr} {ta : TA} {p pos : Pos} (hg : Gl X "range") (hm : X.mg "range" = none) (ha : PA X [a] ta) (hs : starEach [a] X.env = [(false, eval a X.env)] := by rfl) : PI X tg (.Call (.Name "range" p) [a] [] pos) (iRng1 ta) := by
  intro pins s σ H R I h
  refine Call_ (ld_blt I hg hm boot_range (PyProof.Rows.callWith_type1 (thn (ha pos pins s σ H _ I h) fun us s1 ⟨vs, H1, I1, r1, q1⟩ => ?_) hs rfl))
  obtain ⟨j, e, q1, q2, q⟩ := q1
  subst e
  cases r1 with
  | cons r rr =>
    cases rr
    obtain ⟨t, rfl⟩ := r
    exact call_range_1 (range_it I1 (by omega) (by omega) q1 q2 (by simpa using q))
/-! ### for -/
/-- W: the invariant by the turn and a measure; N: what the body is to reach -/
def tFor (wi : TI) (g : TG) (tb : TS) : TS := fun D σ H => wi σ H fun J H1 => ∃ W : Nat → Nat → St → Hp → Prop, (∃ m, W 0 m σ H1) ∧ ∀ i m σ H, W i m σ H →
  (J.stop i H ∧ D.nx σ H) ∨ (J.go i H ∧ ∃ N : St → Hp → Prop, (∀ σ' H', N σ' H' → ∃ m', m' < m ∧ W (i + 1) m' σ' H') ∧ ∀ x H', J.yld i H x H' → g x σ H' fun σ2 H2 => tb { D with nx := N, ct := N, bk := D.nx } σ2 H2)
/-- the records at fp as they stand -/
def pinsAt (fp : List Addr) (h : Heap) : List (Addr × Obj) := fp.filterMap fun b => (h.get? b).map fun o => (b, o)
theorem mem_pinsAt {fp : List Addr} {h : Heap} {b : Addr} {o : Obj} (hb : b ∈ fp) (e : h.get? b = some o) : (b, o) ∈ pinsAt fp h := List.mem_filterMap.mpr ⟨b, hb, by rw [e]; rfl⟩
theorem of_pinsAt {fp : List Addr} {h : Heap} {p : Addr × Obj} (hp : p ∈ pinsAt fp h) : p.1 ∈ fp ∧ h.get? p.1 = some p.2 := by
  obtain ⟨b, hb, e⟩ := List.mem_filterMap.mp hp
  cases q : h.get? b with
  | none => rw [q] at e; cases e
  | some o =>
    rw [q] at e
    have e' : (b, o) = p := Option.some.inj e
    subst e'
    exact ⟨hb, q⟩
theorem Inv.pinned {pins : List (Addr × Obj)} {σ : St} {H : Hp} {s : Shared} {fp : List Addr} (I : Inv X pins σ H s) (hf : ∀ b ∈ fp, FpOk X pins H b) (ho : ∀ b ∈ fp, ∃ o, s.heap.get? b = some o ∧ ∀ v, o.data ≠ .cell v) : Inv X (pins ++ pinsAt fp s.heap) σ H s :=
  I.pins_of fun p hp => (List.mem_append.mp hp).elim (fun z => I.pin p (List.mem_append_right _ z)) fun z => by
    obtain ⟨hb, e⟩ := of_pinsAt z
    obtain ⟨f0, f1, f2, _⟩ := hf p.1 hb
    obtain ⟨o, e', d⟩ := ho p.1 hb
    rw [e] at e'; cases e'
    exact ⟨e, f0, f1, f2, d⟩
theorem Inv.unpinned {pins pl : List (Addr × Obj)} {σ : St} {H : Hp} {s : Shared} (I : Inv X (pins ++ pl) σ H s) : Inv X pins σ H s := I.pins_of fun p hp => I.pin p (List.mem_append_right _ (List.mem_append_left _ hp))
theorem ps_for {iter : Expr} {body : List Stmt} {wi : TI} {g : TG} {tb : TS} {pos : Pos} (hp : PassesOwn (model X.prog X.w) X.A X.env X.xe) (hc : X.calm = true) (hi : PI X tg iter wi) (hg : PG X tg g) (hb : PSs X body tb)
    (hs : ∀ x, foldedSetIterable iter X.env x = pure x := by intro _; rfl) : PS X (.For tg iter body [] pos) (tFor wi g tb) := by
  intro pins s σ H D I h
  refine wpAny_For (thn (hi pins s σ H _ I h) fun v s1 h1 => thn h1 fun itv s2 h2 => ?_) hs
  obtain ⟨it, fp, tn, J, H2, e, I2, T, st2, f2, W, ⟨m0, w0⟩, turn⟩ := h2
  subst e
  -- what stays true of the iterator's objects through the loop
  have stat : ∀ {H' : Hp}, (∀ b ∈ fp, H' b = none) → ∀ b ∈ fp, FpOk X pins H' b := fun hn b hb => ⟨hn b hb, (f2 b hb).2⟩
  refine codeAny_forLoop_any (fun n s' => ∃ i σ' H', Inv X pins σ' H' s' ∧ tn i s'.heap ∧ (∀ b ∈ fp, H' b = none) ∧ W i n σ' H') ?_ m0 ⟨0, σ, H2, I2, st2, fun b hb => (f2 b hb).1, w0⟩
  rintro n s3 ⟨i, σ3, H3, I3, st3, fr3, w3⟩
  rcases turn i n σ3 H3 w3 with ⟨stop, qn⟩ | ⟨go, N, hN, step⟩
  · refine wpAny_passesOwn hp (thn (T.done X rfl rfl rfl hc i pins s3 σ3 H3 X.xe I3 (stat fr3) st3 stop) fun r s4 ⟨hr, I4⟩ => ?_)
    subst hr
    exact wpAny_execs_nil ⟨σ3, H3, I4, qn⟩
  · refine wpAny_passesOwn hp (thn (T.item X rfl rfl rfl hc i pins s3 σ3 H3 X.xe I3 (stat fr3) st3 go) fun r s4 ⟨u, hr, h4⟩ => ?_)
    subst hr
    refine wpAny_passesOwn hp (thn h4 fun _ s5 ⟨x, H5, I5, r5, y5, st5, fr5⟩ => ?_)
    have I5' := I5.pinned (stat fr5) (T.obj _ _ st5)
    refine wpAny_passesOwn hp (thn (hg _ s5 σ3 H5 x u _ I5' r5 (step x H5 y5)) fun _ s6 ⟨σ6, H6, I6, q6⟩ => ?_)
    refine wpAny_passesOwn hp (thn (hb _ s6 σ6 H6 _ I6 q6) fun f s7 q7 => ?_)
    have again : ∀ {σ7 : St} {H7 : Hp}, Inv X (pins ++ pinsAt fp s5.heap) σ7 H7 s7 → N σ7 H7 → ∃ m, m < n ∧ ∃ i σ' H', Inv X pins σ' H' s7 ∧ tn i s7.heap ∧ (∀ b ∈ fp, H' b = none) ∧ W i m σ' H' := fun {σ7 H7} I7 n7 => by
      obtain ⟨m', hm, w7⟩ := hN σ7 H7 n7
      refine ⟨m', hm, i + 1, σ7, H7, I7.unpinned, T.keep _ _ _ st5 fun b hb o e => (I7.pin (b, o) (List.mem_append_right _ (List.mem_append_right _ (mem_pinsAt hb e)))).1, fun b hb => ?_, w7⟩
      obtain ⟨o, e, d⟩ := T.obj _ _ st5 b hb
      exact (I7.pin (b, o) (List.mem_append_right _ (List.mem_append_right _ (mem_pinsAt hb e)))).2.1
    cases f with
    | next => obtain ⟨σ7, H7, I7, n7⟩ := q7; exact again I7 n7
    | cont => obtain ⟨σ7, H7, I7, n7⟩ := q7; exact again I7 n7
    | brk => obtain ⟨σ7, H7, I7, q7⟩ := q7; exact ⟨σ7, H7, I7.unpinned, q7⟩
    | ret v => obtain ⟨x7, σ7, H7, I7, r7, q7⟩ := q7; exact ⟨x7, σ7, H7, I7.unpinned, r7, q7⟩
end

/-! ### the forms one uses -/
/-- over a list that the body leaves as it is -/
theorem for_list {K : PySem.W.Frag} {a : Addr} {xs : List V} {g : TG} {tb : TS} {D : Ends} {σ : St} {H : Hp} (Pv : Nat → St → Hp → Prop) (h0 : Pv 0 σ H) (hl : ∀ i σ H, i ≤ xs.length → Pv i σ H → SqL K H a xs)
    (hs : ∀ i x σ H, xs[i]? = some x → Pv i σ H → g x σ H fun σ2 H2 => tb { D with nx := Pv (i + 1), ct := Pv (i + 1), bk := D.nx } σ2 H2) (hd : ∀ σ H, Pv xs.length σ H → D.nx σ H) :
    ∃ W : Nat → Nat → St → Hp → Prop, (∃ m, W 0 m σ H) ∧ ∀ i m σ H, W i m σ H →
      ((Itl K a).stop i H ∧ D.nx σ H) ∨ ((Itl K a).go i H ∧ ∃ N : St → Hp → Prop, (∀ σ' H', N σ' H' → ∃ m', m' < m ∧ W (i + 1) m' σ' H') ∧ ∀ x H', (Itl K a).yld i H x H' → g x σ H' fun σ2 H2 => tb { D with nx := N, ct := N, bk := D.nx } σ2 H2) := by
  refine ⟨fun i m σ H => m = xs.length - i ∧ i ≤ xs.length ∧ Pv i σ H, ⟨xs.length, by simp, Nat.zero_le _, h0⟩, ?_⟩
  rintro i m σ H ⟨rfl, hi, p⟩
  have q := hl i σ H hi p
  by_cases hlt : i < xs.length
  · refine .inr ⟨⟨xs, xs[i], q, by simp [hlt]⟩, Pv (i + 1), fun σ' H' p' => ⟨xs.length - (i + 1), by omega, rfl, hlt, p'⟩, fun x H' y => ?_⟩
    obtain ⟨e, y⟩ := y
    subst e
    exact hs i x σ _ (y xs q) p
  · have e : i = xs.length := by omega
    subst e
    exact .inl ⟨⟨xs, q, Nat.le_refl _⟩, hd σ H p⟩
theorem for_tup {K : PySem.W.Frag} {a : Addr} {xs : List V} {g : TG} {tb : TS} {D : Ends} {σ : St} {H : Hp} (Pv : Nat → St → Hp → Prop) (h0 : Pv 0 σ H) (hl : ∀ i σ H, i ≤ xs.length → Pv i σ H → SqT K H a xs)
    (hs : ∀ i x σ H, xs[i]? = some x → Pv i σ H → g x σ H fun σ2 H2 => tb { D with nx := Pv (i + 1), ct := Pv (i + 1), bk := D.nx } σ2 H2) (hd : ∀ σ H, Pv xs.length σ H → D.nx σ H) :
    ∃ W : Nat → Nat → St → Hp → Prop, (∃ m, W 0 m σ H) ∧ ∀ i m σ H, W i m σ H →
      ((Itt K a).stop i H ∧ D.nx σ H) ∨ ((Itt K a).go i H ∧ ∃ N : St → Hp → Prop, (∀ σ' H', N σ' H' → ∃ m', m' < m ∧ W (i + 1) m' σ' H') ∧ ∀ x H', (Itt K a).yld i H x H' → g x σ H' fun σ2 H2 => tb { D with nx := N, ct := N, bk := D.nx } σ2 H2) := by
  refine ⟨fun i m σ H => m = xs.length - i ∧ i ≤ xs.length ∧ Pv i σ H, ⟨xs.length, by simp, Nat.zero_le _, h0⟩, ?_⟩
  rintro i m σ H ⟨rfl, hi, p⟩
  have q := hl i σ H hi p
  by_cases hlt : i < xs.length
  · refine .inr ⟨⟨xs, xs[i], q, by simp [hlt]⟩, Pv (i + 1), fun σ' H' p' => ⟨xs.length - (i + 1), by omega, rfl, hlt, p'⟩, fun x H' y => ?_⟩
    obtain ⟨e, y⟩ := y
    subst e
    exact hs i x σ _ (y xs q) p
  · have e : i = xs.length := by omega
    subst e
    exact .inl ⟨⟨xs, q, Nat.le_refl _⟩, hd σ H p⟩
theorem for_range {lo : Int} {n : Nat} {g : TG} {tb : TS} {D : Ends} {σ : St} {H : Hp} (Pv : Nat → St → Hp → Prop) (h0 : Pv 0 σ H)
    (hs : ∀ i σ H, i < n → Pv i σ H → g (.int (lo + i)) σ H fun σ2 H2 => tb { D with nx := Pv (i + 1), ct := Pv (i + 1), bk := D.nx } σ2 H2) (hd : ∀ σ H, Pv n σ H → D.nx σ H) :
    ∃ W : Nat → Nat → St → Hp → Prop, (∃ m, W 0 m σ H) ∧ ∀ i m σ H, W i m σ H →
      ((Itr lo n).stop i H ∧ D.nx σ H) ∨ ((Itr lo n).go i H ∧ ∃ N : St → Hp → Prop, (∀ σ' H', N σ' H' → ∃ m', m' < m ∧ W (i + 1) m' σ' H') ∧ ∀ x H', (Itr lo n).yld i H x H' → g x σ H' fun σ2 H2 => tb { D with nx := N, ct := N, bk := D.nx } σ2 H2) := by
  refine ⟨fun i m σ H => m = n - i ∧ i ≤ n ∧ Pv i σ H, ⟨n, by simp, Nat.zero_le _, h0⟩, ?_⟩
  rintro i m σ H ⟨rfl, hi, p⟩
  by_cases hlt : i < n
  · refine .inr ⟨hlt, Pv (i + 1), fun σ' H' p' => ⟨n - (i + 1), by omega, rfl, hlt, p'⟩, fun x H' y => ?_⟩
    obtain ⟨e, y⟩ := y
    subst e y
    exact hs i σ _ hlt p
  · have e : i = n := by omega
    subst e
    exact .inl ⟨Nat.le_refl _, hd σ H p⟩
end L2

namespace L2
open PySem PySem.Spec PyProof.Rows

abbrev R2 := V → V → Hp → VK → Prop
/-- a two-place operation on values: f is binaryOp op, inplaceOp op or compareOp op -/
def OpR (X : Cx) (f : Value → Value → Sem Value) (r : R2) : Prop :=
  ∀ (pins : List (Addr × Obj)) (s : Shared) (σ : St) (H : Hp) (x y : V) (v u : Value) (Q : VK), Inv X pins σ H s → RelV x v → RelV y u → r x y H Q →
    wpAny (model X.prog X.w) X.A (f v u) (EP X pins σ Q) X.xe s
/-- a one-place operation -/
def UnR (X : Cx) (f : Value → Sem Value) (r : V → Hp → VK → Prop) : Prop :=
  ∀ (pins : List (Addr × Obj)) (s : Shared) (σ : St) (H : Hp) (x : V) (v : Value) (Q : VK), Inv X pins σ H s → RelV x v → r x H Q →
    wpAny (model X.prog X.w) X.A (f v) (EP X pins σ Q) X.xe s
/-- a call of a value that is known (a builtin, a type) with values -/
def CallR (X : Cx) (f : Value) (r : List V → Hp → VK → Prop) : Prop :=
  ∀ (pins : List (Addr × Obj)) (s : Shared) (σ : St) (H : Hp) (xs : List V) (us : List Value) (Q : VK), Inv X pins σ H s → Vals xs us → r xs H Q →
    wpAny (model X.prog X.w) X.A (call f us) (EP X pins σ Q) X.xe s
/-- a value's truth -/
def TruR (X : Cx) (r : V → Hp → (Bool → Hp → Prop) → Prop) : Prop :=
  ∀ (pins : List (Addr × Obj)) (s : Shared) (σ : St) (H : Hp) (x : V) (v : Value) (Q : Bool → Hp → Prop), Inv X pins σ H s → RelV x v → r x H Q →
    wpAny (model X.prog X.w) X.A (truthy v) (TP X pins σ Q) X.xe s

def tOp (r : R2) (ta tb : TE) : TE := fun σ H Q => ta σ H fun x H1 => tb σ H1 fun y H2 => r x y H2 Q
def tUn (r : V → Hp → VK → Prop) (ta : TE) : TE := fun σ H Q => ta σ H fun x H1 => r x H1 Q
/-- ints in, under C, and a value out -/
def rI (C : Int → Int → Prop) (g : Int → Int → V) : R2 := fun x y H Q => ∃ i j, x = .int i ∧ y = .int j ∧ C i j ∧ Q (g i j) H
def rI0 (g : Int → Int → V) : R2 := fun x y H Q => ∃ i j, x = .int i ∧ y = .int j ∧ Q (g i j) H
section
variable {X : Cx} {a b c : Expr} {ta tb tc : TE} {pos : Pos}

theorem binT (ha : PE X a ta) (hb : PE X b tb) {pins : List (Addr × Obj)} {s : Shared} {σ : St} {H : Hp} {R : V → V → Hp → Prop} (I : Inv X pins σ H s)
    (h : ta σ H fun x H1 => tb σ H1 fun y H2 => R x y H2) {Q : Value → Shared → Prop} {f : Value → Value → Sem Value}
    (hf : ∀ v u s2 x y H2, Inv X pins σ H2 s2 → RelV x v → RelV y u → R x y H2 → wpAny (model X.prog X.w) X.A (f v u) Q X.xe s2) :
    wpAny (model X.prog X.w) X.A (eval a X.env) (fun v s₁ => wpAny (model X.prog X.w) X.A (eval b X.env) (fun u s₂ => wpAny (model X.prog X.w) X.A (f v u) Q X.xe s₂) X.xe s₁) X.xe s := by
  refine thn (ha pins s σ H _ I h) fun v s1 ⟨x, H1, I1, r1, q1⟩ => ?_
  refine thn (hb pins s1 σ H1 _ I1 q1) fun u s2 ⟨y, H2, I2, r2, q2⟩ => ?_
  exact hf v u s2 x y H2 I2 r1 r2 q2

theorem pe_op {op : Operator} {r : R2} (ho : OpR X (binaryOp op) r) (ha : PE X a ta) (hb : PE X b tb) : PE X (.BinOp a op b pos) (tOp r ta tb) := by
  intro pins s σ H Q I h
  exact wpAny_BinOp (binT ha hb I h fun v u s2 x y H2 I2 rx ry q => ho pins s2 σ H2 x y v u Q I2 rx ry q)
/-! ### ints -/
theorem opI {f : Value → Value → Sem Value} {C : Int → Int → Prop} {g : Int → Int → Int}
    (rule : ∀ (i j : Int) (t u : Tok) (s : Shared) (Q : Value → Shared → Prop) (E : Value → Shared → Prop), C i j → Q (.int (g i j) s.toks) { s with toks := s.toks + 1 } → wpAny (model X.prog X.w) X.A (f (.int i t) (.int j u)) Q E s) :
    OpR X f (rI C fun i j => .int (g i j)) := by
  intro pins s σ H x y v u Q I rx ry h
  obtain ⟨i, j, rfl, rfl, hc, q⟩ := h
  obtain ⟨t, rfl⟩ := rx
  obtain ⟨t', rfl⟩ := ry
  exact rule i j t t' s _ _ hc ⟨.int (g i j), H, I.tok _, ⟨_, rfl⟩, q⟩
theorem opI0 {f : Value → Value → Sem Value} {g : Int → Int → Int}
    (rule : ∀ (i j : Int) (t u : Tok) (s : Shared) (Q : Value → Shared → Prop) (E : Value → Shared → Prop), Q (.int (g i j) s.toks) { s with toks := s.toks + 1 } → wpAny (model X.prog X.w) X.A (f (.int i t) (.int j u)) Q E s) :
    OpR X f (rI0 fun i j => .int (g i j)) := by
  intro pins s σ H x y v u Q I rx ry h
  obtain ⟨i, j, rfl, rfl, q⟩ := h
  obtain ⟨t, rfl⟩ := rx
  obtain ⟨t', rfl⟩ := ry
  exact rule i j t t' s _ _ ⟨.int (g i j), H, I.tok _, ⟨_, rfl⟩, q⟩
theorem opB0 {f : Value → Value → Sem Value} {g : Int → Int → Bool}
    (rule : ∀ (i j : Int) (t u : Tok) (s : Shared) (Q : Value → Shared → Prop) (E : Value → Shared → Prop), Q (.bool (g i j)) s → wpAny (model X.prog X.w) X.A (f (.int i t) (.int j u)) Q E s) :
    OpR X f (rI0 fun i j => .bl (g i j)) := by
  intro pins s σ H x y v u Q I rx ry h
  obtain ⟨i, j, rfl, rfl, q⟩ := h
  obtain ⟨t, rfl⟩ := rx
  obtain ⟨t', rfl⟩ := ry
  exact rule i j t t' s _ _ ⟨.bl (g i j), H, I, rfl, q⟩

def CDiv (i j : Int) : Prop := 0 < j ∧ j < 1073741824
def CMul (i j : Int) : Prop := (-(2 ^ 64) < i ∧ i < 2 ^ 64) ∨ (-(2 ^ 64) < j ∧ j < 2 ^ 64)
theorem CMul.ok {i j : Int} (h : CMul i j) : IntMulOk i j := by
  rcases h with ⟨h1, h2⟩ | ⟨h1, h2⟩
  · exact .of_left (intBits_le_64 h1 h2)
  · exact .of_right (intBits_le_64 h1 h2)
theorem op_add : OpR X (binaryOp .Add) (rI0 fun i j => .int (i + j)) := opI0 fun _ _ _ _ _ _ _ q => add_int q
theorem op_sub : OpR X (binaryOp .Sub) (rI0 fun i j => .int (i - j)) := opI0 fun _ _ _ _ _ _ _ q => sub_int q
theorem op_mul : OpR X (binaryOp .Mult) (rI CMul fun i j => .int (i * j)) := opI fun _ _ _ _ _ _ _ hc q => mul_int q hc.ok
/-- // by a positive divisor -/
theorem op_fdiv : OpR X (binaryOp .FloorDiv) (rI CDiv fun i j => .int (i / j)) := opI fun i j _ _ _ _ _ hc q => by
  have h1 : (0 : Int) < j := hc.1
  have h2 : j < 1073741824 := hc.2
  exact floordiv_int (by omega) (by rw [Int.fdiv_eq_ediv_of_nonneg i (by omega)]; exact q) (.inl (PyProof.noPylong_small (by omega)))
/-- % by a positive divisor of any size -/
theorem op_mod : OpR X (binaryOp .Mod) (rI (fun _ j => 0 < j) fun i j => .int (i % j)) := opI fun i j _ _ _ _ _ hc q => by
  have h1 : (0 : Int) < j := hc
  exact mod_int' (by omega) (by rw [Int.fmod_eq_emod_of_nonneg i (by omega)]; exact q)
/-! ### bools among ints: n += (a < b) -/
end

/-! ### comparisons -/
/-- the scalars that == tells apart as data does -/
def scal : V → V → Bool
  | .non, .non => true | .non, .int _ => true | .int _, .non => true | .non, .bl _ => true | .bl _, .non => true | .non, .str _ => true | .str _, .non => true
  | .int _, .int _ => true | .bl _, .bl _ => true | .str _, .str _ => true | .byt _, .byt _ => true
  | .int _, .str _ => true | .str _, .int _ => true | .bl _, .str _ => true | .str _, .bl _ => true
  | _, _ => false
def rEq : R2 := fun x y H Q => scal x y = true ∧ Q (.bl (decide (x = y))) H
def rNe : R2 := fun x y H Q => scal x y = true ∧ Q (.bl (!decide (x = y))) H

theorem dec_int {i j : Int} : decide (V.int i = V.int j) = (i == j) := by
  rw [Bool.eq_iff_iff]
  simp
theorem dec_bl {i j : Bool} : decide (V.bl i = V.bl j) = (i == j) := by
  rw [Bool.eq_iff_iff]
  simp
theorem dec_str {i j : Str} : decide (V.str i = V.str j) = (i == j) := by
  rw [Bool.eq_iff_iff]
  simp
theorem dec_byt {i j : Array UInt8} : decide (V.byt i = V.byt j) = (i.toList == j.toList) := by
  rw [Bool.eq_iff_iff]
  cases i
  cases j
  simp

section
variable {X : Cx} {a b c : Expr} {ta tb tc : TE} {pos : Pos}
theorem fin_bl {pins : List (Addr × Obj)} {σ : St} {H : Hp} {s : Shared} {Q : VK} {k k' : Bool} (I : Inv X pins σ H s) (q : Q (.bl k) H) (e : k = k') : EP X pins σ Q (.bool k') s := by
  subst e
  exact ⟨.bl k, H, I, rfl, q⟩
theorem op_eq : OpR X (compareOp .Eq) rEq := by
  intro pins s σ H x y v u Q I rx ry h
  obtain ⟨hs, q⟩ := h
  cases x with
  | non =>
    cases rx
    cases y with
    | non => cases ry; exact PySem.EqNone.eq_none_none (fin_bl I q (by simp))
    | bl j => cases ry; exact PySem.EqNone.eq_none_bool (fin_bl I q (by simp))
    | int j => obtain ⟨t', rfl⟩ := ry; exact PySem.EqNone.eq_none_int (fin_bl I q (by simp))
    | str j => obtain ⟨t', rfl⟩ := ry; exact PySem.EqNone.eq_none_str (fin_bl I q (by simp))
    | _ => exact absurd (show false = true from hs) Bool.false_ne_true
  | bl i =>
    cases rx
    cases y with
    | non => cases ry; exact PySem.EqNone.eq_bool_none (fin_bl I q (by simp))
    | bl j => cases ry; exact eq_bool (fin_bl I q dec_bl)
    | str j => obtain ⟨t', rfl⟩ := ry; exact PySem.EqMixed.eq_bool_str (fin_bl I q (by simp))
    | _ => exact absurd (show false = true from hs) Bool.false_ne_true
  | int i =>
    obtain ⟨t, rfl⟩ := rx
    cases y with
    | non => cases ry; exact PySem.EqNone.eq_int_none (fin_bl I q (by simp))
    | int j => obtain ⟨t', rfl⟩ := ry; exact eq_int (fin_bl I q dec_int)
    | str j => obtain ⟨t', rfl⟩ := ry; exact PySem.EqMixed.eq_int_str (fin_bl I q (by simp))
    | _ => exact absurd (show false = true from hs) Bool.false_ne_true
  | str i =>
    obtain ⟨t, rfl⟩ := rx
    cases y with
    | non => cases ry; exact PySem.EqNone.eq_str_none (fin_bl I q (by simp))
    | bl j => cases ry; exact PySem.EqMixed.eq_str_bool (fin_bl I q (by simp))
    | int j => obtain ⟨t', rfl⟩ := ry; exact PySem.EqMixed.eq_str_int (fin_bl I q (by simp))
    | str j => obtain ⟨t', rfl⟩ := ry; exact eq_str (fin_bl I q dec_str)
    | _ => exact absurd (show false = true from hs) Bool.false_ne_true
  | byt i =>
    obtain ⟨t, rfl⟩ := rx
    cases y with
    | byt j => obtain ⟨t', rfl⟩ := ry; exact PySem.W.eq_bytes (fin_bl I q dec_byt)
    | _ => exact absurd (show false = true from hs) Bool.false_ne_true
  | _ => cases y <;> exact absurd (show false = true from hs) Bool.false_ne_true
theorem op_ne : OpR X (compareOp .NotEq) rNe := by
  intro pins s σ H x y v u Q I rx ry h
  obtain ⟨hs, q⟩ := h
  cases x with
  | non =>
    cases rx
    cases y with
    | non => cases ry; exact PySem.EqNone.ne_none_none (fin_bl I q (by simp))
    | bl j => cases ry; exact PySem.EqNone.ne_none_bool (fin_bl I q (by simp))
    | int j => obtain ⟨t', rfl⟩ := ry; exact PySem.EqNone.ne_none_int (fin_bl I q (by simp))
    | str j => obtain ⟨t', rfl⟩ := ry; exact PySem.EqNone.ne_none_str (fin_bl I q (by simp))
    | _ => exact absurd (show false = true from hs) Bool.false_ne_true
  | bl i =>
    cases rx
    cases y with
    | non => cases ry; exact PySem.EqNone.ne_bool_none (fin_bl I q (by simp))
    | bl j => cases ry; exact ne_bool (fin_bl I q (congrArg not dec_bl))
    | str j => obtain ⟨t', rfl⟩ := ry; exact PySem.EqMixed.ne_bool_str (fin_bl I q (by simp))
    | _ => exact absurd (show false = true from hs) Bool.false_ne_true
  | int i =>
    obtain ⟨t, rfl⟩ := rx
    cases y with
    | non => cases ry; exact PySem.EqNone.ne_int_none (fin_bl I q (by simp))
    | int j => obtain ⟨t', rfl⟩ := ry; exact ne_int (fin_bl I q (congrArg not dec_int))
    | str j => obtain ⟨t', rfl⟩ := ry; exact PySem.EqMixed.ne_int_str (fin_bl I q (by simp))
    | _ => exact absurd (show false = true from hs) Bool.false_ne_true
  | str i =>
    obtain ⟨t, rfl⟩ := rx
    cases y with
    | non => cases ry; exact PySem.EqNone.ne_str_none (fin_bl I q (by simp))
    | bl j => cases ry; exact PySem.EqMixed.ne_str_bool (fin_bl I q (by simp))
    | int j => obtain ⟨t', rfl⟩ := ry; exact PySem.EqMixed.ne_str_int (fin_bl I q (by simp))
    | str j => obtain ⟨t', rfl⟩ := ry; exact ne_str (fin_bl I q (congrArg not dec_str))
    | _ => exact absurd (show false = true from hs) Bool.false_ne_true
  | byt i =>
    obtain ⟨t, rfl⟩ := rx
    cases y with
    | byt j => obtain ⟨t', rfl⟩ := ry; exact PySem.W.ne_bytes (fin_bl I q (congrArg not dec_byt))
    | _ => exact absurd (show false = true from hs) Bool.false_ne_true
  | _ => cases y <;> exact absurd (show false = true from hs) Bool.false_ne_true

theorem op_lt : OpR X (compareOp .Lt) (rI0 fun i j => .bl (decide (i < j))) := opB0 fun _ _ _ _ _ _ _ q => lt_int q
theorem op_gt : OpR X (compareOp .Gt) (rI0 fun i j => .bl (decide (j < i))) := opB0 fun _ _ _ _ _ _ _ q => gt_int q
theorem op_ge : OpR X (compareOp .GtE) (rI0 fun i j => .bl (decide (j ≤ i))) := opB0 fun _ _ _ _ _ _ _ q => ge_int q
/-- the one string within the other -/
theorem op_in_str : OpR X (compareOp .In) (fun x y H Q => ∃ i j, x = .str i ∧ y = .str j ∧ Q (.bl (!(Builtin.Str.occurrences j i 0 j.length 1).isEmpty)) H) := by
  intro pins s σ H x y v u Q I rx ry h
  obtain ⟨i, j, rfl, rfl, q⟩ := h
  obtain ⟨t, rfl⟩ := rx
  obtain ⟨t', rfl⟩ := ry
  exact in_str (fin_bl I q rfl)

/-- two rules for one operation: by cases -/
theorem OpR.or {f : Value → Value → Sem Value} {r r' : R2} (h : OpR X f r) (h' : OpR X f r') : OpR X f (fun x y H Q => r x y H Q ∨ r' x y H Q) := by
  intro pins s σ H x y v u Q I rx ry q
  rcases q with q | q
  · exact h pins s σ H x y v u Q I rx ry q
  · exact h' pins s σ H x y v u Q I rx ry q

theorem nomark (b : Expr) {op : CmpOp} (h : op ≠ .In := by decide) (h2 : op ≠ .NotIn := by decide) : behindInMarks op b = false := by
  have e1 : (op == CmpOp.In) = false := by cases op <;> first | rfl | exact absurd rfl h
  have e2 : (op == CmpOp.NotIn) = false := by cases op <;> first | rfl | exact absurd rfl h2
  cases b <;> simp [behindInMarks, e1, e2]
/-- a reading of a value as a test -/
def tTest (t : TE) : TT := fun σ H Q => t σ H fun x H' => ∃ k, x = .bl k ∧ Q k H'
theorem pt_cmpR {op : CmpOp} {r : R2} (ho : OpR X (compareOp op) r) (ha : PE X a ta) (hb : PE X b tb) (hm : behindInMarks op b = false) : PT X (.Compare a [op] [b] pos) (tTest (tOp r ta tb)) := by
  intro pins s σ H Q I h
  refine wpAny_isTrue_Compare1 (thn (ha pins s σ H _ I h) fun v s1 ⟨x, H1, I1, r1, q1⟩ => thn (hb pins s1 σ H1 _ I1 q1) fun u s2 ⟨y, H2, I2, r2, q2⟩ =>
    thn (ho pins s2 σ H2 x y v u _ I2 r1 r2 q2) fun c s3 ⟨z, H3, I3, r3, k, e, q3⟩ => ?_) hm
  subst e
  cases r3
  exact wpAny_truthy_bool ⟨H3, I3, q3⟩
/-! ### truth -/
/-- a value's truth by the abstract heap -/
def TruV (K : PySem.W.Frag) (x : V) (H : Hp) (k : Bool) : Prop :=
  match x with
  | .non => k = false
  | .bl b => k = b
  | .int i => k = (i != 0)
  | .str y => y.length ≤ sizeLine ∧ k = ((y.length : Int) != 0)
  | .byt y => y.size ≤ sizeLine ∧ k = ((y.size : Int) != 0)
  | .ref p => (∃ xs, SqL K H p xs ∧ k = !xs.isEmpty) ∨ (∃ xs, SqT K H p xs ∧ k = !xs.isEmpty) ∨ ∃ kvs, H p = some (.dK kvs) ∧ k = !kvs.isEmpty
  | _ => False
theorem isEmpty_kv {κ : Type} {kvs : List (κ × V)} {vs : List (κ × Value)} (r : KV kvs vs) : (!vs.isEmpty) = !kvs.isEmpty := by
  cases r <;> rfl
theorem isEmpty_of {xs : List V} {its : List Value} (r : Vals xs its) : (!its.toArray.isEmpty) = !xs.isEmpty := by
  cases r <;> simp
theorem line63 : (sizeLine : Nat) < 2 ^ 63 := by rw [sizeLine_eq]; decide
theorem tru_ok : TruR X (fun x H Q => ∃ k, TruV X.K x H k ∧ Q k H) := by
  intro pins s σ H x v Q I rx h
  obtain ⟨k, e, q⟩ := h
  have hl := line63
  have hs : sizeLine = 16777216 := sizeLine_eq
  cases x with
  | non =>
    cases rx
    have e' : k = false := e
    subst e'
    exact truthy_none ⟨H, I, q⟩
  | bl b =>
    cases rx
    have e' : k = b := e
    subst e'
    exact wpAny_truthy_bool ⟨H, I, q⟩
  | int i =>
    obtain ⟨t, rfl⟩ := rx
    have e' : k = (i != 0) := e
    subst e'
    exact PySem.P.truthy_int ⟨H, I, q⟩
  | str y =>
    obtain ⟨t, rfl⟩ := rx
    obtain ⟨hy, e'⟩ : y.length ≤ sizeLine ∧ k = ((y.length : Int) != 0) := e
    subst e'
    exact PySem.P.truthy_str (by omega) ⟨H, I.tok _, q⟩
  | byt y =>
    obtain ⟨t, rfl⟩ := rx
    obtain ⟨hy, e'⟩ : y.size ≤ sizeLine ∧ k = ((y.size : Int) != 0) := e
    subst e'
    exact PySem.W.truthy_bytes (by omega) ⟨H, I.tok _, q⟩
  | ref p =>
    cases rx
    have e' : (∃ xs, SqL X.K H p xs ∧ k = !xs.isEmpty) ∨ (∃ xs, SqT X.K H p xs ∧ k = !xs.isEmpty) ∨ ∃ kvs, H p = some (.dK kvs) ∧ k = !kvs.isEmpty := e
    rcases e' with ⟨xs, hx, e'⟩ | ⟨xs, hx, e'⟩ | ⟨kvs, hx, e'⟩
    · subst e'
      obtain ⟨its, r, pl, hz⟩ := I.list hx
      have hlen := r.length
      exact wpAny_truthy_list pl.isList (by simp only [List.size_toArray]; omega) ⟨H, I.tok _, by rw [isEmpty_of r]; exact q⟩
    · subst e'
      obtain ⟨its, r, pl, hz⟩ := I.tuple hx
      have hlen := r.length
      exact truthy_tuple pl (by simp only [List.size_toArray]; omega) ⟨H, I.tok _, by rw [isEmpty_of r]; exact q⟩
    · subst e'
      obtain ⟨hz, hS, vs, r, m⟩ : kvs.length ≤ sizeLine ∧ (p == sysModules) = false ∧ ∃ vs, KV kvs vs ∧ s.heap.DictOf (mixKind X.prog X.w) p vs := I.hok p _ hx
      have hlen : kvs.length = vs.length := Paired.length r
      exact wpAny_truthy_dict hS m (by omega) ⟨H, I.tok _, by rw [isEmpty_kv r]; exact q⟩
  | _ => exact (show False from e).elim
/-- any expression whose test is its value's truth (a name, a call, a subscript, a field ..: he by fun _ => rfl) -/
theorem pt_truth (ha : PE X a ta) (he : ∀ whole, isTrue a X.env whole = (do let v ← whole; standAt a.pos; holding [v] (truthy v))) :
    PT X a (fun σ H Q => ta σ H fun x H' => ∃ k, TruV X.K x H' k ∧ Q k H') := by
  intro pins s σ H Q I h
  exact isTrue_plain (thn (ha pins s σ H _ I h) fun v s1 ⟨x, H1, I1, r1, q1⟩ => tru_ok pins s1 σ H1 x v Q I1 r1 q1) (he _)

/-! ### strs and bytes -/
theorem op_add_str : OpR X (binaryOp .Add) (fun x y H Q => ∃ i j, x = .str i ∧ y = .str j ∧ i.length + j.length ≤ sizeLine ∧ Q (.str (i ++ j)) H) := by
  intro pins s σ H x y v u Q I rx ry h
  obtain ⟨i, j, rfl, rfl, hz, q⟩ := h
  obtain ⟨t, rfl⟩ := rx
  obtain ⟨t', rfl⟩ := ry
  exact add_str (fun t' tk => ⟨.str (i ++ j), H, I.tok _, ⟨_, rfl⟩, q⟩) hz
/-! ### scalar builtins, by CallR -/
theorem vals1 {x : V} {us : List Value} (r : Vals [x] us) : ∃ u, us = [u] ∧ RelV x u := by
  cases r with
  | cons r1 r2 => cases r2; exact ⟨_, rfl, r1⟩
theorem vals2 {x y : V} {us : List Value} (r : Vals [x, y] us) : ∃ u w', us = [u, w'] ∧ RelV x u ∧ RelV y w' := by
  cases r with
  | cons r1 r2 =>
    cases r2 with
    | cons r3 r4 => cases r4; exact ⟨_, _, rfl, r1, r3⟩
theorem call_min2 (hc : X.calm = true) : CallR X (.builtin "min") (fun xs H Q => ∃ i j, xs = [.int i, .int j] ∧ Q (.int (if j < i then j else i)) H) := by
  intro pins s σ H xs us Q I r h
  obtain ⟨i, j, rfl, q⟩ := h
  obtain ⟨u, w', rfl, ⟨t, rfl⟩, ⟨t', rfl⟩⟩ := vals2 r
  refine min_two_ints (I.ok.hd hc) fun h' tk k => ⟨_, H, I.kept k, ?_, q⟩
  by_cases hj : j < i
  · rw [if_pos hj, if_pos hj]; exact ⟨_, rfl⟩
  · rw [if_neg hj, if_neg hj]; exact ⟨_, rfl⟩
end
end L2

namespace L2
open PySem PySem.Spec PyProof.Rows

/-! ### an instance, its attributes a map -/
structure ObjM (h : Heap) (x dx C : Addr) (mA : Str → Option Value) : Prop where
  obj : h.get? x = some (PySem.W.instObj C dx)
  ns : h.Ns1 dx mA
  ne : dx ≠ x

theorem lookIn_ns {h : Heap} {dx : Addr} {mA : Str → Option Value} (n : h.Ns1 dx mA) : ∃ od, h.get? dx = some od ∧ ∀ name, PySem.W.lookIn name od = some (mA name) := by
  obtain ⟨o, es, ep, ho, hd, hk, _, hm⟩ := n
  refine ⟨o, ho, fun name => ?_⟩
  have e := hm name
  unfold nsFind findBy at e
  rw [← Array.find?_toList] at e
  unfold PySem.W.lookIn
  rw [hd]
  dsimp only
  split
  · rename_i y q
    rw [q] at e
    exact congrArg some e
  · rename_i q
    rw [q] at e
    have a : es.toList.any (·.refKey) = false := by
      rw [List.any_eq_false]
      intro y hy
      obtain ⟨z, t, hkey⟩ := hk y (Array.mem_toList_iff.mp hy)
      simp [DictEntry.refKey, hkey]
    have a' : ¬ es.toList.any (·.refKey) = true := by rw [a]; exact Bool.false_ne_true
    rw [if_neg a']
    exact congrArg some e

theorem ObjM.look {h : Heap} {x dx C : Addr} {mA : Str → Option Value} (I : ObjM h x dx C mA) : ∃ od, PySem.W.InstAt h x (PySem.W.instObj C dx) C (some od) ∧ ∀ name, PySem.W.lookIn name od = some (mA name) :=
  let ⟨od, ho, hl⟩ := lookIn_ns I.ns
  ⟨od, ⟨I.obj, rfl, rfl, ho⟩, hl⟩

section
variable {prog : Program} {w : World} {A : Around} {E : Value → Shared → Prop} {s : Shared} {K : PySem.W.Frag} {x dx C f : Addr} {mA : Str → Option Value} {name : Str} {v : Value}

theorem get_map {expr : Bool} {Q : Value → Shared → Prop} (X : K.In s.heap) (I : ObjM s.heap x dx C mA) (hg : PySem.W.plainGet K C name = true) (hh : PySem.W.hasDictIn K C = true)
    (ha : PySem.W.findIn K (.ref C) name = some none) (hv : mA name = some v) (hv' : PySem.W.handedIn v = true) (h : Q v { s with toks := s.toks + 1 }) :
    wpAny (model prog w) A (getAttr (.ref x) name expr) Q E s := by
  obtain ⟨od, J, hl⟩ := I.look
  exact PySem.W.get_value X J (PySem.W.plainGet_of hg).1 (PySem.W.findObj_own hh ha rfl (by rw [hl, hv])) hv' h

theorem set_map {ns : List Str} {Q : Unit → Shared → Prop} (X : K.In s.heap) (I : ObjM s.heap x dx C mA)
    (hs : PySem.W.findIn K (.ref C) "__setattr__" = some (some (.builtin "object.__setattr__"))) (hp : PySem.W.plainOver K C = true) (ht : PySem.W.takerIn K C name = some none) (hh : PySem.W.hasDictIn K C = true)
    (hw : PySem.Within mA ns) (hsz : ns.length ≤ sizeLine)
    (h : ∀ h', ObjM h' x dx C (fun y => if y = name then some v else mA y) → Heap.SameBut dx s.heap h' → Q () { s with heap := h', toks := s.toks + 2 }) :
    wpAny (model prog w) A (setAttr (.ref x) name v) Q E s := by
  obtain ⟨od, J, hl⟩ := I.look
  refine PySem.W.set_plain X J hs (PySem.W.osa_open (s := { s with toks := s.toks + 1 }) (r := none) X J hp ht fun b => ?_)
  obtain ⟨cd, hc, hd'⟩ := PySem.W.any_some hh
  have hx : s.heap.get? x = some ⟨.ref C, some dx, .plain, #[]⟩ := I.obj
  refine wpAny_bind (wpAny_pure (wpAny_bind (wpAny_bind (wpAny_loadPart hx (wpAny_bind (PySem.W.Looks.here (s := { s with toks := s.toks + 1 }) (PySem.W.looks_clsIn X hc) ?_))))))
  rw [hd']
  refine wpAny_pure (a := some dx) (wpAny_bind (wpAny_pure (wpAny_bind ?_)))
  refine wpAny_nsSet1 (s := { s with toks := s.toks + 1 }) I.ns fun h' hn2 hs2 => ?_
  obtain ⟨oD, esD, epD, hoD, hdD, hcD⟩ := hn2.count (PySem.Within.cons name v hw)
  refine wpAny_bind (wpAny_lookBehind hoD (by rw [hdD]; exact pastItsLine_dict (Nat.le_trans hcD (by rw [List.length_cons]; omega))) ?_)
  exact wpAny_pure (h _ ⟨(hs2.2 _ (Ne.symm I.ne)).trans I.obj, hn2, I.ne⟩ hs2)

/-- C(..): the dict at the heap's end, the instance behind it; then its __init__ -/
theorem make_map {R : Result → Shared → Prop} {vs : List Value} {kw : List (Str × Value)} (X : K.In s.heap) (hm : PySem.W.makesIn K C = true)
    (hi : PySem.W.findIn K (.ref C) "__init__" = some (some (.ref f))) (hf : PySem.W.typeIn K (.ref f) = some (.type "function"))
    (h : codeAny (model prog w) (A.under (.builtin "type.__call__" ⟨.ref C :: vs, kw⟩)) (.call (.ref f) ⟨.ref (s.heap.objs.size + 1) :: vs, kw⟩) (PySem.W.InitBack (s.heap.objs.size + 1) R)
      { s with heap := (s.heap.push PySem.W.emptyDict).push (PySem.W.instObj C s.heap.objs.size) }) :
    codeAny (model prog w) A (.call (.ref C) ⟨vs, kw⟩) R s := by
  obtain ⟨hh, g, d, t, os⟩ := s
  exact PySem.W.make_core (PySem.W.makes_of X hm) (PySem.W.looks_findIn X hi) (fun self => PySem.W.bind_fn X self hf) (.inl rfl) h
end

/-! ### the attributes as a list of pairs -/
def putF (f : Str) (v : V) : List (Str × V) → List (Str × V)
  | [] => [(f, v)]
  | (g, x) :: r => if g = f then (g, v) :: r else (g, x) :: putF f v r
theorem lookup_putF (f g : Str) (v : V) : ∀ fs : List (Str × V), (putF f v fs).lookup g = if g = f then some v else fs.lookup g
  | [] => by
    show List.lookup g [(f, v)] = _
    by_cases h : g = f
    · have hb : (g == f) = true := beq_iff_eq.mpr h
      simp only [List.lookup, hb, if_pos h]
    · have hb : (g == f) = false := beq_eq_false_iff_ne.mpr h
      simp only [List.lookup, hb, if_neg h]
  | (k, x) :: r => by
    have ih := lookup_putF f g v r
    rw [show putF f v ((k, x) :: r) = (if k = f then (k, v) :: r else (k, x) :: putF f v r) from rfl]
    by_cases hk : k = f
    · rw [if_pos hk]
      by_cases h : g = k
      · have hb : (g == k) = true := beq_iff_eq.mpr h
        simp only [List.lookup, hb, if_pos (h.trans hk)]
      · have hb : (g == k) = false := beq_eq_false_iff_ne.mpr h
        simp only [List.lookup, hb, if_neg (fun e : g = f => h (e.trans hk.symm))]
    · rw [if_neg hk]
      by_cases h : g = k
      · have hb : (g == k) = true := beq_iff_eq.mpr h
        simp only [List.lookup, hb, if_neg (fun e : g = f => hk (h.symm.trans e))]
      · have hb : (g == k) = false := beq_eq_false_iff_ne.mpr h
        simp only [List.lookup, hb]
        exact ih
theorem keys_putF (f : Str) (v : V) : ∀ fs : List (Str × V), f ∈ (putF f v fs).map (·.1) ∧ ∀ g, g ∈ fs.map (·.1) → g ∈ (putF f v fs).map (·.1)
  | [] => ⟨by simp [putF], fun g h => by simp at h⟩
  | (k, x) :: r => by
    obtain ⟨i1, i2⟩ := keys_putF f v r
    rw [show putF f v ((k, x) :: r) = (if k = f then (k, v) :: r else (k, x) :: putF f v r) from rfl]
    by_cases hk : k = f
    · rw [if_pos hk]
      subst hk
      exact ⟨by simp, fun g h => by simpa using h⟩
    · rw [if_neg hk]
      refine ⟨?_, fun g h => ?_⟩
      · rw [List.map_cons]
        exact List.mem_cons_of_mem _ i1
      · rw [List.map_cons] at h ⊢
        rcases List.mem_cons.mp h with e | e
        · exact List.mem_cons.mpr (.inl e)
        · exact List.mem_cons_of_mem _ (i2 g e)
theorem length_putF (f : Str) (v : V) : ∀ fs : List (Str × V), (putF f v fs).length ≤ fs.length + 1
  | [] => by simp [putF]
  | (k, x) :: r => by
    have ih := length_putF f v r
    rw [show putF f v ((k, x) :: r) = (if k = f then (k, v) :: r else (k, x) :: putF f v r) from rfl]
    by_cases hk : k = f
    · rw [if_pos hk, List.length_cons, List.length_cons]; omega
    · rw [if_neg hk, List.length_cons, List.length_cons]; omega

theorem RelO.some_of {v : V} {o : Option Value} (r : RelO (some v) o) : ∃ u, o = some u ∧ RelV v u := by
  cases o with
  | none => exact (show False from r).elim
  | some u => exact ⟨u, rfl, r⟩
theorem handed_of {v : V} {u : Value} (r : RelV v u) : PySem.W.handedIn u = true := by
  cases v with
  | non => cases (show u = Value.none from r); rfl
  | bl b => cases (show u = Value.bool b from r); rfl
  | int i => obtain ⟨t, e⟩ := (show ∃ t, u = Value.int i t from r); cases e; rfl
  | str x => obtain ⟨t, e⟩ := (show ∃ t, u = Value.str x t from r); cases e; rfl
  | byt b => obtain ⟨t, e⟩ := (show ∃ t, u = Value.bytes b t from r); cases e; rfl
  | flt b => obtain ⟨t, e⟩ := (show ∃ t, u = Value.float b t from r); cases e; rfl
  | ref a => cases (show u = Value.ref a from r); rfl
  | ty n => cases (show u = Value.type n from r); rfl

section
variable {P : Program} {w : World} {H H' : Hp} {h h' : Heap} {a C dx : Addr} {fs fs' : List (Str × V)}
theorem ins_get (hok : HOk P w H h) (e : H a = some (.ins C dx fs)) : ∃ mA, ObjM h a dx C mA ∧ (∀ f, RelO (fs.lookup f) (mA f)) ∧ PySem.Within mA (fs.map (·.1)) ∧ fs.length ≤ 1000 ∧ H dx = some (.own a) := by
  obtain ⟨d, z, ne, ob, mA, n, r, q⟩ := (show ObjOk P w H h a (.ins C dx fs) from hok a _ e)
  exact ⟨mA, ⟨ob, n, ne⟩, r, q, z, d⟩
end

/-! ### what of the text a class must have -/
structure Cls (K : PySem.W.Frag) (C : Addr) : Prop where
  pg : PySem.W.plainGet K C Str.empty = true
  hd : PySem.W.hasDictIn K C = true
  po : PySem.W.plainOver K C = true
  sa : PySem.W.findIn K (.ref C) "__setattr__" = some (some (.builtin "object.__setattr__"))
theorem Cls.get {K : PySem.W.Frag} {C : Addr} (c : Cls K C) (f : Str) : PySem.W.plainGet K C f = true := c.pg
/-- no class of it has the name -/
def NoAttr (K : PySem.W.Frag) (C : Addr) (f : Str) : Prop := PySem.W.findIn K (.ref C) f = some none
theorem NoAttr.taker {K : PySem.W.Frag} {C : Addr} {f : Str} (n : NoAttr K C f) : PySem.W.takerIn K C f = some none := by
  unfold PySem.W.takerIn
  rw [show PySem.W.findIn K (.ref C) f = some none from n]
  rfl
/-- a constant of the class -/
structure Con (K : PySem.W.Frag) (C : Addr) (f : Str) (v : V) (u : Value) : Prop where
  at_ : PySem.W.findIn K (.ref C) f = some (some u)
  rel : RelV v u
  get : PySem.W.specialIn K u "__get__" = some none
  cp : PySem.W.copiedNames.contains f = false
/-- a method: a plain def of the class or of one above it -/
structure Meth (K : PySem.W.Frag) (C : Addr) (m : Str) (f : Addr) : Prop where
  at_ : PySem.W.findIn K (.ref C) m = some (some (.ref f))
  fn : PySem.W.isFn K (.ref f) = true
  kp : PySem.W.keepIn K (.ref f) = true

section
variable {X : Cx} {pins : List (Addr × Obj)} {σ : St} {H : Hp} {s : Shared} {a C dx : Addr} {fs : List (Str × V)} {f : Str} {v : V} {A : Around} {E : Value → Shared → Prop}

theorem getattr_ok {b : Bool} {Q : Value → Shared → Prop} (I : Inv X pins σ H s) (e : H a = some (.ins C dx fs)) (c : Cls X.K C) (n : NoAttr X.K C f) (l : fs.lookup f = some v)
    (h : ∀ u s', Inv X pins σ H s' → RelV v u → Q u s') : wpAny (model X.prog X.w) A (getAttr (.ref a) f b) Q E s := by
  obtain ⟨mA, O, r, _, _, _⟩ := ins_get I.hok e
  obtain ⟨u, hu, ru⟩ := RelO.some_of (v := v) (o := mA f) (by rw [← l]; exact r f)
  exact get_map I.kIn O (c.get f) c.hd n hu (handed_of ru) (h u _ (I.tok _) ru)

theorem setattr_ok {y : V} {u : Value} {Q : Unit → Shared → Prop} (I : Inv X pins σ H s) (e : H a = some (.ins C dx fs)) (c : Cls X.K C) (n : NoAttr X.K C f) (hl : fs.length < 1000) (ry : RelV y u)
    (h : ∀ s', Inv X pins σ (upd H a (.ins C dx (putF f y fs))) s' → Q () s') : wpAny (model X.prog X.w) A (setAttr (.ref a) f u) Q E s := by
  obtain ⟨mA, O, r, wi, _, ho⟩ := ins_get I.hok e
  have hz : (fs.map (·.1)).length ≤ sizeLine := by rw [List.length_map, sizeLine_eq]; omega
  refine set_map I.kIn O c.sa c.po n.taker c.hd wi hz fun h' O' sb => h _ ?_
  have hd : ∃ o, h'.get? dx = some o := let ⟨o, _, _, e', _⟩ := O'.ns; ⟨o, e'⟩
  refine I.write (x := a) (e := dx) (by rw [e]; exact True.intro) (.inr ho) (fun b q hb z => (sb.2 b hb).trans z) hd ?_
  refine ⟨by rw [upd_ne O.ne]; exact ho, ?_, O.ne, O'.obj, _, O'.ns, fun g => ?_, fun g hg => ?_⟩
  · have := length_putF f y fs; omega
  · show RelO ((putF f y fs).lookup g) (if g = f then some u else mA g)
    rw [lookup_putF]
    by_cases q : g = f
    · rw [if_pos q, if_pos q]; exact ry
    · rw [if_neg q, if_neg q]; exact r g
  · by_cases q : g = f
    · rw [q]; exact (keys_putF f y fs).1
    · refine (keys_putF f y fs).2 g (wi g fun z => hg ?_)
      show (if g = f then some u else mA g) = none
      rw [if_neg q]; exact z

/-- a new instance, tracked, without attributes -/
theorem Inv.made (I : Inv X pins σ H s) : Inv X pins σ (upd (upd H s.heap.objs.size (.own (s.heap.objs.size + 1))) (s.heap.objs.size + 1) (.ins C s.heap.objs.size []))
    { s with heap := (s.heap.push PySem.W.emptyDict).push (PySem.W.instObj C s.heap.objs.size) } := by
  have e1 : (s.heap.push PySem.W.emptyDict).get? s.heap.objs.size = some PySem.W.emptyDict := Heap.get?_push_size s.heap rfl
  have e2 : ((s.heap.push PySem.W.emptyDict).push (PySem.W.instObj C s.heap.objs.size)).get? (s.heap.objs.size + 1) = some (PySem.W.instObj C s.heap.objs.size) := by
    have := Heap.get?_push_size (s.heap.push PySem.W.emptyDict) (o := PySem.W.instObj C s.heap.objs.size) rfl
    rwa [Heap.size_push] at this
  have e3 : (s.heap.push PySem.W.emptyDict).Ns s.heap.objs.size (fun _ => none) := ⟨PySem.W.emptyDict, #[], _, e1, rfl, (fun e he => absurd he (by simp)), fun _ => rfl⟩
  have I1 := I.laid (a := s.heap.objs.size) (o := .own (s.heap.objs.size + 1)) (h' := s.heap.push PySem.W.emptyDict) (t' := s.toks) (fun b u q => Heap.get?_push_of_some _ q) (Nat.le_refl _) ⟨_, e1⟩
  refine I1.laid (a := s.heap.objs.size + 1) (o := .ins C s.heap.objs.size []) (t' := s.toks) (fun b u q => Heap.get?_push_of_some _ q) (Nat.le_of_eq (Heap.size_push _ _)) ?_
  have ne : s.heap.objs.size ≠ s.heap.objs.size + 1 := Nat.ne_of_lt (Nat.lt_succ_self _)
  refine ⟨by rw [upd_ne ne, upd_same], Nat.zero_le _, ne, e2, fun _ => none, (Heap.Ns1.of_empty e3).at fun o q => Heap.get?_push_of_some _ q, fun _ => True.intro, fun y hy => absurd rfl hy⟩

/-- e.f where nothing but the object is asked: through attributeBase (super) and the last hold -/
theorem attr_of {prog : Program} {w : World} {env : Env} {e : Expr} {f : Str} {pos : Pos} {s : Shared} {Q : Value → Shared → Prop} (hb : attributeBase e f env (eval e env) = eval e env)
    (h : wpAny (model prog w) A (eval e env) (fun o s₁ => wpAny (model prog w) A (getAttr o f true) Q E s₁) E s) : wpAny (model prog w) A (eval (.Attribute e f pos) env) Q E s :=
  Attribute_any_ h (by rw [arm_eval_Attribute, hb])
end

/-! ### readings and rules -/
/-- e.f, an attribute of the instance -/
def tFld (K : PySem.W.Frag) (ta : TE) (f : Str) : TE := fun σ H Q => ta σ H fun x H1 => ∃ a C dx fs v, x = .ref a ∧ H1 a = some (.ins C dx fs) ∧ Cls K C ∧ NoAttr K C f ∧ fs.lookup f = some v ∧ Q v H1
/-- e.f = value -/
def sFld (K : PySem.W.Frag) (ta tv : TE) (f : Str) : TS := fun D σ H => tv σ H fun y H1 => ta σ H1 fun x H2 => ∃ a C dx fs, x = .ref a ∧ H2 a = some (.ins C dx fs) ∧ Cls K C ∧ NoAttr K C f ∧ fs.length < 1000 ∧
  D.nx σ (upd H2 a (.ins C dx (putF f y fs)))
section
variable {X : Cx} {o e value : Expr} {f : Str} {pos pos' tpos : Pos} {ta tv : TE}
theorem pe_fld (he : PE X e ta) (hb : attributeBase e f X.env (eval e X.env) = eval e X.env) : PE X (.Attribute e f pos) (tFld X.K ta f) := by
  intro pins s σ H Q I h
  refine attr_of hb (thn (he pins s σ H _ I h) fun u s1 ⟨x, H1, I1, rx, a, C, dx, fs, v, ex, ea, c, n, l, q⟩ => ?_)
  subst ex
  obtain rfl : u = Value.ref a := rx
  exact getattr_ok I1 ea c n l fun u' s2 I2 ru => ⟨v, H1, I2, ru, q⟩
theorem ps_fld (ha : PE X o ta) (hv : PE X value tv) (hs : swapsWith value (some (.Attribute o f pos')) pos.line X.env = pure false) : PS X (.Assign [.Attribute o f pos'] value pos) (sFld X.K ta tv f) := by
  intro pins s σ H D I h
  refine plainObj_wpAny_Assign_Attribute (thn (hv pins s σ H _ I h) fun u s1 ⟨y, H1, I1, ry, q⟩ => thn (ha pins s1 σ H1 _ I1 q) fun ov s2 ⟨x, H2, I2, rx, a, C, dx, fs, ex, ea, c, n, l, q2⟩ => ?_) hs
  subst ex
  obtain rfl : ov = Value.ref a := rx
  exact setattr_ok I2 ea c n l ry fun s3 I3 => ⟨σ, _, I3, q2⟩
end

/-! ### isinstance -/
section
variable {X : Cx} {pins : List (Addr × Obj)} {σ : St} {H : Hp} {s : Shared} {A : Around} {E : Value → Shared → Prop} {Q : Value → Shared → Prop} {c : Value} {b : Bool}
/-- the type of a value, as the fragment's deciders take it; for an instance its class -/
inductive TyOf (K : PySem.W.Frag) (H : Hp) : V → Value → Prop where
  | non : TyOf K H .non (.type "NoneType")
  | bl (x : Bool) : TyOf K H (.bl x) (.type "bool")
  | int (i : Int) : TyOf K H (.int i) (.type "int")
  | str (x : Str) : TyOf K H (.str x) (.type "str")
  | flt (x : UInt64) : TyOf K H (.flt x) (.type "float")
  | lst {a : Addr} {xs : List V} (e : H a = some (.lst xs)) : TyOf K H (.ref a) (.type "list")
  | frz {a : Addr} {o : Obj} {xs : List V} (e : H a = some (.frz o (.lst xs))) : TyOf K H (.ref a) (.type "list")
  | tup {a : Addr} {xs : List V} (e : H a = some (.tup xs)) : TyOf K H (.ref a) (.type "tuple")
  | dK {a : Addr} {kvs : List (Key × V)} (e : H a = some (.dK kvs)) : TyOf K H (.ref a) (.type "dict")
  | dT {a : Addr} {kvs : List (List Key × V)} (e : H a = some (.dT kvs)) : TyOf K H (.ref a) (.type "dict")
  | ins {a C dx : Addr} {fs : List (Str × V)} (e : H a = some (.ins C dx fs)) (cl : Cls K C) (ha : PySem.W.findIn K (.ref C) "__class__" = some (some (.builtin "object.__class__")))
      (hn : PySem.W.specialIn K (.builtin "object.__class__") "__get__" = some (some (.builtin "getset_descriptor.__get__"))) (htk : PySem.W.takesIn K (.builtin "object.__class__") = some true)
      (hm : PySem.W.mroIn K C (.type "object") = some true) : TyOf K H (.ref a) (.ref C)
/-- isinstance(x, c) for one class c, a built-in or an own one: kitOne's answer -/
theorem isinst_ok {x : V} {u t : Value} (I : Inv X pins σ H s) (rx : RelV x u) (ty : TyOf X.K H x t) (e : PySem.W.kitOne X.K t c = some b) (h : ∀ tk, Q (.bool b) { s with toks := tk }) :
    wpAny (model X.prog X.w) A (call (.builtin "isinstance") [u, c]) Q E s := by
  cases ty with
  | non => cases (show u = Value.none from rx); exact PySem.W.kia_one PySem.W.kitx_none I.kIn True.intro e (fun z => nomatch z) h
  | bl y => cases (show u = Value.bool y from rx); exact PySem.W.kia_one PySem.W.kitx_bool I.kIn True.intro e (fun z => nomatch z) h
  | int i => obtain ⟨t, q⟩ := (show ∃ t, u = Value.int i t from rx); cases q; exact PySem.W.kia_one PySem.W.kitx_int I.kIn True.intro e (fun z => nomatch z) h
  | str y => obtain ⟨t, q⟩ := (show ∃ t, u = Value.str y t from rx); cases q; exact PySem.W.kia_one PySem.W.kitx_str I.kIn True.intro e (fun z => nomatch z) h
  | flt y => obtain ⟨t, q⟩ := (show ∃ t, u = Value.float y t from rx); cases q; exact PySem.W.kia_one PySem.W.kitx_float I.kIn True.intro e (fun z => nomatch z) h
  | @lst a xs ea =>
    cases (show u = Value.ref a from rx)
    obtain ⟨_, _, n, _, h1⟩ := (show ObjOk X.prog X.w H s.heap a (.lst xs) from I.hok a _ ea)
    exact PySem.W.kia_one PySem.W.kitx_list I.kIn ⟨_, h1, rfl⟩ e (fun z => nomatch z) h
  | @frz a ob xs ea =>
    cases (show u = Value.ref a from rx)
    obtain ⟨_, _, _, n, _, h1⟩ := (show ObjOk X.prog X.w H s.heap a (.frz ob (.lst xs)) from I.hok a _ ea)
    exact PySem.W.kia_one PySem.W.kitx_list I.kIn ⟨_, h1, rfl⟩ e (fun z => nomatch z) h
  | @tup a xs ea =>
    cases (show u = Value.ref a from rx)
    obtain ⟨_, _, _, p⟩ := (show ObjOk X.prog X.w H s.heap a (.tup xs) from I.hok a _ ea)
    obtain ⟨o, h1, h2, _⟩ := p
    exact PySem.W.kia_one PySem.W.kitx_tuple I.kIn ⟨o, h1, h2⟩ e (fun z => nomatch z) h
  | @dK a kvs ea =>
    cases (show u = Value.ref a from rx)
    obtain ⟨_, _, vs, _, p⟩ := (show ObjOk X.prog X.w H s.heap a (.dK kvs) from I.hok a _ ea)
    obtain ⟨o, es, ep, h1, h2, _⟩ := p
    exact PySem.W.kia_one PySem.W.kitx_dict I.kIn ⟨o, h1, h2.1⟩ e (fun z => nomatch z) h
  | @dT a kvs ea =>
    cases (show u = Value.ref a from rx)
    obtain ⟨_, _, xs, _, o, es, ep, h1, h2, _⟩ := (show ObjOk X.prog X.w H s.heap a (.dT kvs) from I.hok a _ ea)
    exact PySem.W.kia_one PySem.W.kitx_dict I.kIn ⟨o, h1, h2.1⟩ e (fun z => nomatch z) h
  | @ins a C dx fs ea cl ha hn htk hm =>
    cases (show u = Value.ref a from rx)
    obtain ⟨mA, O, _⟩ := ins_get I.hok ea
    obtain ⟨od, J, _⟩ := O.look
    exact PySem.W.kia_one (PySem.W.kitx_own (cl.get _) cl.hd ha hn htk hm) I.kIn J e (fun z => nomatch z) h
end
end L2

namespace L2
open PySem PySem.Spec PyProof.Rows

/-! ### room -/
structure Room (k : Nat) (A : Around) : Prop where
  hd : A.handled = none
  dp : A.depth + 3 * k + 5 < recursionLimit
  un : A.units + 16 * k + 200 < cLine
theorem Room.mono {j k : Nat} {A : Around} (r : Room k A) (h : j ≤ k) : Room j A := ⟨r.hd, by have := r.dp; omega, by have := r.un; omega⟩
theorem Room.deeper {k : Nat} {A : Around} (r : Room (k + 1) A) (env : Env) : Room k (A.deeper env) :=
  ⟨r.hd, by have := r.dp; show A.depth + 1 + 3 * k + 5 < _; omega, by have := r.un; show A.units + 3 + 16 * k + 200 < _; omega⟩
theorem Room.in1 {k : Nat} {A : Around} (r : Room (k + 1) A) : Room k A.in1 :=
  ⟨r.hd, by have := r.dp; show A.depth + 3 * k + 5 < _; omega, by have := r.un; show A.units + 1 + 16 * k + 200 < _; omega⟩
theorem make_depth {A : Around} {C : Addr} {us : List Value} {kw : List (Str × Value)} : (A.under (.builtin "type.__call__" ⟨.ref C :: us, kw⟩)).depth = A.depth + 1 := by
  first | rfl | simp [Around.under, Code.weight, Code.isCreation, Code.isGuard, Code.isCaller, Code.frames, Code.isFrame, guardIds]
theorem make_units {A : Around} {C : Addr} {us : List Value} {kw : List (Str × Value)} : (A.under (.builtin "type.__call__" ⟨.ref C :: us, kw⟩)).units = A.units + 1 := by
  first | rfl | simp [Around.under, Code.cUnits, Code.frames, Code.isFrame]
theorem Room.make {k : Nat} {A : Around} (r : Room (k + 1) A) (C : Addr) (us : List Value) (kw : List (Str × Value)) : Room k (A.under (.builtin "type.__call__" ⟨.ref C :: us, kw⟩)) :=
  ⟨r.hd, by have := r.dp; rw [make_depth]; omega, by have := r.un; rw [make_units]; omega⟩
theorem Room.depth {k : Nat} {A : Around} (r : Room k A) : A.depth < recursionLimit := by have := r.dp; omega
theorem Room.units {k : Nat} {A : Around} (r : Room k A) : A.units + 64 < cLine := by have := r.un; omega
/-! ### argument lists and displays -/
def tNil : TA := fun _ H Q => Q [] H
def tCons (ta : TE) (tr : TA) : TA := fun σ H Q => ta σ H fun x H1 => tr σ H1 fun xs H2 => Q (x :: xs) H2
section
variable {X : Cx} {e : Expr} {es : List Expr} {te : TE} {t : TA} {pos : Pos}
theorem pa_nil : PA X [] tNil := fun _ _ _ _ H Q I h => Calls.spliced_nil ⟨[], H, I, .nil, h⟩
theorem pa_cons (ha : PE X e te) (hr : PA X es t) (hs : starEach (e :: es) X.env = (false, eval e X.env) :: starEach es X.env := by rfl) : PA X (e :: es) (tCons te t) := by
  intro pos pins s σ H Q I h
  rw [hs]
  show wpAny _ _ (spliced ((false, eval e X.env) :: backTo pos (starEach es X.env))) _ _ s
  refine Calls.spliced_cons (thn (ha pins s σ H _ I h) fun u s1 ⟨x, H1, I1, r1, q1⟩ => ?_)
  exact thn (hr pos pins s1 σ H1 _ I1 q1) fun us s2 ⟨xs, H2, I2, r2, q2⟩ => ⟨x :: xs, H2, I2, .cons r1 r2, q2⟩

/-- a tuple, a list of written items -/
def tTup (t : TA) : TE := fun σ H Q => t σ H fun xs H1 => xs.length ≤ sizeLine ∧ ∀ p, H1 p = none → Q (.ref p) (upd H1 p (.tup xs))
def tLst (t : TA) : TE := fun σ H Q => t σ H fun xs H1 => xs.length ≤ sizeLine ∧ ∀ p, H1 p = none → Q (.ref p) (upd H1 p (.lst xs))
theorem pe_tup {x1} (h : PA X es t) : PE X (.Tuple es x1 pos) (tTup t) := by
  intro pins s σ H Q I hq
  refine wpAny_Tuple_spliced (thn (h pos pins s σ H _ I hq) fun us s1 ⟨xs, H1, I1, r, z, q⟩ => ⟨by rw [← r.length]; exact z, ?_⟩)
  have hf : H1 s1.heap.objs.size = none := I1.hok.fresh (Nat.le_refl _)
  refine ⟨.ref s1.heap.objs.size, upd H1 s1.heap.objs.size (.tup xs), I1.laid (t' := s1.toks) (fun b u e => Heap.get?_push_of_some _ e) (Nat.le_refl _) ?_, rfl, q _ hf⟩
  exact ⟨z, us, r, ⟨_, Heap.get?_push_size _ rfl, rfl, _, rfl⟩⟩
theorem pe_lst (h : PA X es t) : PE X (.List es pos) (tLst t) := by
  intro pins s σ H Q I hq
  refine wpAny_List_spliced (thn (h pos pins s σ H _ I hq) fun us s1 ⟨xs, H1, I1, r, z, q⟩ => ⟨by rw [← r.length]; exact z, ?_⟩)
  have hf : H1 s1.heap.objs.size = none := I1.hok.fresh (Nat.le_refl _)
  refine ⟨.ref s1.heap.objs.size, upd H1 s1.heap.objs.size (.lst xs), I1.laid (t' := s1.toks) (fun b u e => Heap.get?_push_of_some _ e) (Nat.le_refl _) ?_, rfl, q _ hf⟩
  exact ⟨z, us, 0, r, Heap.get?_push_size _ rfl⟩
end

/-! ### what a def promises -/
/-- a def's promise: the bound arguments in the parameters' order, the heap, the wanted end, the wanted exception -/
abbrev Sp := List V → Hp → VK → XK → Prop
/-- how an exception lies behind a call (file 08 gives it): the callers' frames, abstract heap and state ahead of the call, the wish, the exception, the state -/
abbrev CXT := List Env → Hp → Shared → XK → Value → Shared → Prop

/-- the state at a call -/
structure Env0 (P : Program) (w : World) (K : PySem.W.Frag) (mg : Str → Option Value) (base : Heap) (A : Around) (outer : List Env) (s : Shared) (H : Hp) : Prop where
  frames : A.frames = some outer
  mod : Mod K mg base
  bs : ∀ b o, base.get? b = some o → s.heap.get? b = some o ∧ H b = none
  bsz : base.objs.size ≤ s.heap.objs.size
  funs : s.heap.FunFrames base outer
  frf : ∀ b ∈ frs outer, H b = none
  hok : HOk P w H s.heap
  bare : AllBare s.gens
/-- a call's end -/
def CE (outer : List Env) (P : Program) (w : World) (H : Hp) (s : Shared) (Q : VK) (u : Value) (s' : Shared) : Prop :=
  ∃ v H', s'.os = s.os ∧ AllBare s'.gens ∧ Un (frs outer) [] H H' s.heap s'.heap ∧ HOk P w H' s'.heap ∧ RelV v u ∧ Q v H'
def CR (CX : CXT) (outer : List Env) (P : Program) (w : World) (H : Hp) (s : Shared) (Q : VK) (E : XK) (r : Result) (s' : Shared) : Prop :=
  match r with
  | .ok (.ret u) => CE outer P w H s Q u s'
  | .ok _ => False
  | .error e => CX outer H s E e s'
structure FnOk (P : Program) (w : World) (K : PySem.W.Frag) (mg : Str → Option Value) (base : Heap) (CX : CXT) (k : Nat) (f : Addr) (fd : FuncData) (ps : List Str) (sp : Sp) : Prop where
  len : ∀ vs H Q E, sp vs H Q E → vs.length = ps.length
  run : ∀ (A : Around) (outer : List Env) (s : Shared) (H : Hp) (args : Args) (us : List Value) (vs : List V) (Q : VK) (E : XK), Room k A → Env0 P w K mg base A outer s H → BindsTo s fd args (ps.zip us) → Vals vs us → sp vs H Q E →
    codeAny (model P w) A (.call (.ref f) args) (CR CX outer P w H s Q E) s
theorem FnOk.mono {P : Program} {w : World} {K : PySem.W.Frag} {mg : Str → Option Value} {base : Heap} {CX : CXT} {j k : Nat} {f : Addr} {fd : FuncData} {ps : List Str} {sp : Sp} (F : FnOk P w K mg base CX j f fd ps sp) (h : j ≤ k) :
    FnOk P w K mg base CX k f fd ps sp := ⟨F.len, fun A outer s H args us vs Q E hr => F.run A outer s H args us vs Q E (hr.mono h)⟩
/-- a weaker promise -/
theorem FnOk.imp {P : Program} {w : World} {K : PySem.W.Frag} {mg : Str → Option Value} {base : Heap} {CX : CXT} {k : Nat} {f : Addr} {fd : FuncData} {ps : List Str} {sp sp' : Sp} (F : FnOk P w K mg base CX k f fd ps sp)
    (h : ∀ vs H Q E, sp' vs H Q E → sp vs H Q E) : FnOk P w K mg base CX k f fd ps sp' :=
  ⟨fun vs H Q E q => F.len vs H Q E (h _ _ _ _ q), fun A outer s H args us vs Q E hr he hb hv hs => F.run A outer s H args us vs Q E hr he hb hv (h _ _ _ _ hs)⟩

theorem Env0.make {P : Program} {w : World} {K : PySem.W.Frag} {mg : Str → Option Value} {base : Heap} {A : Around} {outer : List Env} {s : Shared} {H : Hp} (e : Env0 P w K mg base A outer s H) (C : Addr) (us : List Value) (kw : List (Str × Value)) :
    Env0 P w K mg base (A.under (.builtin "type.__call__" ⟨.ref C :: us, kw⟩)) outer s H := ⟨by first | exact e.frames | (simpa [Around.under, Code.envs, Code.isFrame, pushEnvs] using e.frames), e.mod, e.bs, e.bsz, e.funs, e.frf, e.hok, e.bare⟩
theorem Env0.in1 {P : Program} {w : World} {K : PySem.W.Frag} {mg : Str → Option Value} {base : Heap} {A : Around} {outer : List Env} {s : Shared} {H : Hp} (e : Env0 P w K mg base A outer s H) :
    Env0 P w K mg base A.in1 outer s H := ⟨e.frames, e.mod, e.bs, e.bsz, e.funs, e.frf, e.hok, e.bare⟩

section
variable {X : Cx} {pins : List (Addr × Obj)} {σ : St} {H : Hp} {s s' : Shared}
/-- from a body: what a callee wants -/
theorem Inv.env0 (I : Inv X pins σ H s) : Env0 X.prog X.w X.K X.mg X.base X.A X.stack s H :=
  ⟨I.ok.frames, I.ok.mod, I.bs, Nat.le_trans I.ok.bsz I.sz, I.stack, I.stkFree, I.hok, I.bare⟩
/-- behind a call -/
theorem Inv.after {Q : VK} {u : Value} (I : Inv X pins σ H s) (h : CE X.stack X.prog X.w H s Q u s') : EP X pins σ Q u s' := by
  obtain ⟨v, H', os, bare, un, hok, r, q⟩ := h
  obtain ⟨hh, g, d, t, os'⟩ := s'
  obtain rfl : os' = s.os := os
  exact ⟨v, H', I.call (h' := hh) (g' := g) (d' := d) (t' := t) (ch := []) un hok bare (fun b z => absurd z (by simp)), r, q⟩
end

/-! ### calls -/
/-- f(..): the written arguments, then the defaults dvs; E: what is wanted of an exception -/
def tCall (sp : Sp) (dvs : List V) (E : XK) (t : TA) : TE := fun σ H Q => t σ H fun vs H1 => sp (vs ++ dvs) H1 Q E
/-- o.m(..) of an instance of the class at C -/
def tMeth (C : Addr) (m : Str) (sp : Sp) (dvs : List V) (E : XK) (ta : TE) (t : TA) : TE := fun σ H Q => ta σ H fun x H1 => ∃ a dx fs, x = .ref a ∧ H1 a = some (.ins C dx fs) ∧ fs.lookup m = none ∧
  t σ H1 fun vs H2 => sp (x :: (vs ++ dvs)) H2 Q E
/-- C(..): a new instance and its dict, then __init__ -/
def tMake (C : Addr) (sp : Sp) (dvs : List V) (E : XK) (t : TA) : TE := fun σ H Q => t σ H fun vs H1 => ∀ x dx, H1 x = none → H1 dx = none → dx ≠ x →
  sp (.ref x :: (vs ++ dvs)) (upd (upd H1 dx (.own x)) x (.ins C dx [])) (fun v H2 => v = .non ∧ Q (.ref x) H2) E

/-- how the parameters are bound: us the positional arguments, kw the keywords' values by name, ds the defaults that fill up -/
def Binds (K : PySem.W.Frag) (fd : FuncData) (ps : List Str) (ds : List Value) : Prop :=
  ∀ (s : Shared) (us : List Value), K.In s.heap → (us ++ ds).length = ps.length → BindsTo s fd ⟨us, []⟩ (ps.zip (us ++ ds))
/-- every parameter is given -/
theorem Binds.all {K : PySem.W.Frag} {fd : FuncData} {ps : List Str} (h : ∀ us : List Value, us.length = ps.length → bindArgs fd ⟨us, []⟩ = pure (ps.zip us)) : Binds K fd ps [] := fun s us _ hl => by
  rw [List.append_nil] at hl ⊢
  exact .of_eq (h us hl)

/-- an exception of a callee reaches what this body wants of exceptions -/
def Passes (CX : CXT) (X : Cx) (E : XK) : Prop := ∀ (pins : List (Addr × Obj)) (σ : St) (H : Hp) (s : Shared) (e : Value) (s' : Shared), Inv X pins σ H s → CX X.stack H s E e s' → X.xe e s'

section
variable {X : Cx} {CX : CXT} {k : Nat} {f C : Addr} {fd : FuncData} {ps : List Str} {sp : Sp} {dvs : List V} {ds : List Value} {E : XK} {x m : Str} {p pos apos : Pos} {e o : Expr} {es : List Expr} {ta : TE} {t : TA}

/-- the callee runs -/
theorem run_fn {pins : List (Addr × Obj)} {σ : St} {H : Hp} {s : Shared} {Q : VK} {us : List Value} {vs : List V} (F : FnOk X.prog X.w X.K X.mg X.base CX k f fd ps sp) (hr : Room k X.A) (hb : Binds X.K fd ps ds) (hd : Vals dvs ds) (hx : Passes CX X E)
    (I : Inv X pins σ H s) (r : Vals vs us) (h : sp (vs ++ dvs) H Q E) : wpAny (model X.prog X.w) X.A (call (.ref f) us) (EP X pins σ Q) X.xe s := by
  have r2 : Vals (vs ++ dvs) (us ++ ds) := r.append hd
  have hl : (us ++ ds).length = ps.length := by rw [← r2.length]; exact F.len _ _ _ _ h
  refine wpAny_call (codeAny_mono (F.run X.A X.stack s H ⟨us, []⟩ (us ++ ds) (vs ++ dvs) Q E hr I.env0 (hb s us I.kIn hl) r2 h) fun r s' hq => ?_)
  cases r with
  | error e => exact hx pins σ H s e s' I hq
  | ok fl =>
    cases fl with
    | ret u => exact I.after hq
    | next => exact False.elim hq
    | brk => exact False.elim hq
    | cont => exact False.elim hq

theorem pe_call (F : FnOk X.prog X.w X.K X.mg X.base CX k f fd ps sp) (hr : Room k X.A) (hg : Gl X x) (hm : X.mg x = some (.ref f)) (hk : PySem.W.keepIn X.K (.ref f) = true) (hb : Binds X.K fd ps ds) (hd : Vals dvs ds) (hx : Passes CX X E)
    (ha : PA X (e :: es) t) (hdb : (x == ("__debug__" : Str)) = false := by decide) (he : starEach (e :: es) X.env = (false, eval e X.env) :: starEach es X.env := by rfl) (hpl : (backTo pos (starEach es X.env)).any (·.1) = false := by rfl) :
    PE X (.Call (.Name x p) (e :: es) [] pos) (tCall sp dvs E t) := by
  intro pins s σ H Q I h
  refine wpAny_Call_Name_kw (ld_glob I hg hm ?_ hdb)
  refine PySem.W.callWith_K (h₀ := X.base) I.ok.mod.kin hk (thn (ha pos pins s σ H _ I h) fun us s1 ⟨vs, H1, I1, r, q⟩ => ⟨I1.kIn, ?_⟩) he hpl
  exact run_fn F hr hb hd hx I1 r q
/-- what a class must have to be made -/
structure Mk (K : PySem.W.Frag) (C f : Addr) : Prop where
  makes : PySem.W.makesIn K C = true
  init : PySem.W.findIn K (.ref C) "__init__" = some (some (.ref f))
  fn : PySem.W.isFn K (.ref f) = true
  kp : PySem.W.keepIn K (.ref C) = true

theorem run_make {pins : List (Addr × Obj)} {σ : St} {H : Hp} {s : Shared} {Q : VK} {us : List Value} {vs : List V} (M : Mk X.K C f) (F : FnOk X.prog X.w X.K X.mg X.base CX k f fd ps sp) (hr : Room (k + 1) X.A) (hb : Binds X.K fd ps ds) (hd : Vals dvs ds)
    (hx : Passes CX X E) (I : Inv X pins σ H s) (r : Vals vs us)
    (h : ∀ x dx, H x = none → H dx = none → dx ≠ x → sp (.ref x :: (vs ++ dvs)) (upd (upd H dx (.own x)) x (.ins C dx [])) (fun v H2 => v = .non ∧ Q (.ref x) H2) E) :
    wpAny (model X.prog X.w) X.A (call (.ref C) us) (EP X pins σ Q) X.xe s := by
  have hq := h (s.heap.objs.size + 1) s.heap.objs.size (I.hok.fresh (Nat.le_succ _)) (I.hok.fresh (Nat.le_refl _)) (Nat.ne_of_lt (Nat.lt_succ_self _))
  have I2 := Inv.made (C := C) I
  have r2 : Vals (V.ref (s.heap.objs.size + 1) :: (vs ++ dvs)) (Value.ref (s.heap.objs.size + 1) :: (us ++ ds)) := .cons rfl (r.append hd)
  have hl : (Value.ref (s.heap.objs.size + 1) :: us ++ ds).length = ps.length := by
    have e := r2.length
    rw [F.len _ _ _ _ hq] at e
    exact e.symm
  refine wpAny_call (make_map (f := f) I.kIn M.makes M.init (beq_iff_eq.mp M.fn) (codeAny_mono (F.run _ X.stack _ _ ⟨Value.ref (s.heap.objs.size + 1) :: us, []⟩ (Value.ref (s.heap.objs.size + 1) :: (us ++ ds)) _ _ E (hr.make C us [])
    (I2.env0.make C us []) (hb _ (Value.ref (s.heap.objs.size + 1) :: us) I2.kIn hl) r2 hq) fun r s' hq' => ?_))
  cases r with
  | error e => exact hx pins σ _ _ e s' I2 hq'
  | ok fl =>
    cases fl with
    | ret u =>
      obtain ⟨v, H', I3, rv, ev, q3⟩ := I2.after hq'
      subst ev
      exact ⟨rv, ⟨V.ref (s.heap.objs.size + 1), H', I3, rfl, q3⟩⟩
    | next => exact False.elim hq'
    | brk => exact False.elim hq'
    | cont => exact False.elim hq'
theorem pe_make (M : Mk X.K C f) (F : FnOk X.prog X.w X.K X.mg X.base CX k f fd ps sp) (hr : Room (k + 1) X.A) (hg : Gl X x) (hm : X.mg x = some (.ref C)) (hb : Binds X.K fd ps ds) (hd : Vals dvs ds) (hx : Passes CX X E)
    (ha : PA X (e :: es) t) (hdb : (x == ("__debug__" : Str)) = false := by decide) (he : starEach (e :: es) X.env = (false, eval e X.env) :: starEach es X.env := by rfl) (hpl : (backTo pos (starEach es X.env)).any (·.1) = false := by rfl) :
    PE X (.Call (.Name x p) (e :: es) [] pos) (tMake C sp dvs E t) := by
  intro pins s σ H Q I h
  refine wpAny_Call_Name_kw (ld_glob I hg hm ?_ hdb)
  refine PySem.W.callWith_K (h₀ := X.base) I.ok.mod.kin M.kp (thn (ha pos pins s σ H _ I h) fun us s1 ⟨vs, H1, I1, r, q⟩ => ⟨I1.kIn, ?_⟩) he hpl
  exact run_make M F hr hb hd hx I1 r q
end

/-! ### keywords -/
/-- the values of the keywords, from the left -/
def PK (X : Cx) (kws : List Keyword) (t : TA) : Prop :=
  ∀ (pos : Pos) (pins : List (Addr × Obj)) (s : Shared) (σ : St) (H : Hp) (Q : List V → Hp → Prop), Inv X pins σ H s → t σ H Q → wpAny (model X.prog X.w) X.A (evalAll ((backToKw pos (keywordEach kws X.env)).map (·.2))) (AP X pins σ Q) X.xe s
section
variable {X : Cx} {CX : CXT} {k : Nat} {f C : Addr} {fd : FuncData} {ps ks : List Str} {sp : Sp} {E : XK} {x m : Str} {p pos apos kpos : Pos} {e o : Expr} {es : List Expr} {kws : List Keyword} {te ta : TE} {t tk : TA} {nm : Option Str}
/-- how a call with keywords binds: g puts the positional values us and the keywords' values ws (names ks) in the parameters' order, defaults among them -/
structure KBinds (K : PySem.W.Frag) (fd : FuncData) (ps ks : List Str) (g : List Value → List Value → List Value) (gV : List V → List V → List V) : Prop where
  to : ∀ (s : Shared) (us ws : List Value), K.In s.heap → (g us ws).length = ps.length → BindsTo s fd ⟨us, ks.zip ws⟩ (ps.zip (g us ws))
  rel : ∀ {vs : List V} {us : List Value} {zs : List V} {ws : List Value}, Vals vs us → Vals zs ws → Vals (gV vs zs) (g us ws)
variable {g : List Value → List Value → List Value} {gV : List V → List V → List V}
end

/-! ### a def's body keeps its promise -/
/-- names: the parameters first -/
structure FnScope (N P : List Str) (sc : Scope) : Prop where
  kind : sc.kind = .function
  co : sc.isCoroutine = false
  gen : sc.isGenerator = false
  nd : N.Nodup
  pre : N.take P.length = P
  par : ∀ x ∈ P, sc.names.lookup x = some .local ∨ sc.names.lookup x = some .cell
  nofree : ∀ y ∈ sc.names, y.2 ≠ .free

theorem bindL_out {kindOf : Str → Option NameKind} {x : Str} : ∀ {binds : List (Str × Value)} {m : Str → Option Value}, (∀ v, (x, v) ∉ binds) → bindL kindOf binds m x = m x
  | [], _, _ => rfl
  | (n, v) :: r, m, h => by
    unfold bindL
    rw [bindL_out fun w hw => h w (List.mem_cons_of_mem _ hw)]
    split
    · have : x ≠ n := by rintro rfl; exact h v List.mem_cons_self
      simp [this]
    · rfl
theorem bindC_out {kindOf : Str → Option NameKind} {x : Str} : ∀ {binds : List (Str × Value)} {m : Str → Option Value}, (∀ v, (x, v) ∉ binds) → bindC kindOf binds m x = m x
  | [], _, _ => rfl
  | (n, v) :: r, m, h => by
    unfold bindC
    rw [bindC_out fun w hw => h w (List.mem_cons_of_mem _ hw)]
    split
    · rfl
    · have : x ≠ n := by rintro rfl; exact h v List.mem_cons_self
      simp [this]
theorem bindL_get {kindOf : Str → Option NameKind} {x : Str} {v : Value} : ∀ {P : List Str} {vs : List Value} {i : Nat} {m : Str → Option Value}, P.Nodup → P[i]? = some x → vs[i]? = some v → kindOf x = some .local →
    bindL kindOf (P.zip vs) m x = some v
  | [], _, _, _, _, h, _, _ => by simp at h
  | _ :: _, [], _, _, _, _, h, _ => by simp at h
  | p :: P, w :: vs, 0, m, nd, h1, h2, hk => by
    simp at h1 h2; subst h1; subst h2
    show bindL kindOf ((p, w) :: P.zip vs) m p = _
    unfold bindL
    rw [bindL_out fun v hv => (List.nodup_cons.mp nd).1 (List.of_mem_zip hv).1, if_pos hk]
    simp
  | p :: P, w :: vs, i + 1, m, nd, h1, h2, hk => by
    show bindL kindOf ((p, w) :: P.zip vs) m x = _
    unfold bindL
    exact bindL_get (i := i) (List.nodup_cons.mp nd).2 (by simpa using h1) (by simpa using h2) hk
theorem bindC_get {kindOf : Str → Option NameKind} {x : Str} {v : Value} : ∀ {P : List Str} {vs : List Value} {i : Nat} {m : Str → Option Value}, P.Nodup → P[i]? = some x → vs[i]? = some v → kindOf x ≠ some .local →
    bindC kindOf (P.zip vs) m x = some v
  | [], _, _, _, _, h, _, _ => by simp at h
  | _ :: _, [], _, _, _, _, h, _ => by simp at h
  | p :: P, w :: vs, 0, m, nd, h1, h2, hk => by
    simp at h1 h2; subst h1; subst h2
    show bindC kindOf ((p, w) :: P.zip vs) m p = _
    unfold bindC
    rw [bindC_out fun v hv => (List.nodup_cons.mp nd).1 (List.of_mem_zip hv).1, if_neg hk]
    simp
  | p :: P, w :: vs, i + 1, m, nd, h1, h2, hk => by
    show bindC kindOf ((p, w) :: P.zip vs) m x = _
    unfold bindC
    exact bindC_get (i := i) (List.nodup_cons.mp nd).2 (by simpa using h1) (by simpa using h2) hk

/-- the names' values at the entry -/
def start (N : List Str) (vs : List V) : St := vs.map some ++ List.replicate (N.length - vs.length) none

/-- the context of a def's body, at its entry; an exception leaves the frame, then lies as CX says -/
def cxOf (CX : CXT) (P : Program) (w : World) (K : PySem.W.Frag) (mg : Str → Option Value) (base : Heap) (N : List Str) (qual : Str) (scope : Scope) (f : Addr) (cd : Value) (A : Around) (outer : List Env) (s : Shared) (H : Hp) (E : XK) : Cx where
  prog := P
  w := w
  K := K
  mg := mg
  base := base
  A := A.deeper (envOfC qual scope s.heap.objs.size f cd)
  N := N
  s₀ := s
  H₀ := H
  env := envOfC qual scope s.heap.objs.size f cd
  outer := outer
  stack := envOfC qual scope s.heap.objs.size f cd :: outer
  ex := []
  calm := true
  fn := fun _ => true
  pn := []
  xe := fun e s' => wpAny (model P w) (A.deeper (envOfC qual scope s.heap.objs.size f cd)) (leaving (envOfC qual scope s.heap.objs.size f cd) e) (fun _ s'' => CX outer H s E e s'') (fun e' s'' => CX outer H s E e' s'') s'

theorem cell_has {sc : Scope} {n : Nat} {x : Str} (h : sc.names.lookup x = some .cell) : ∃ c, (cellsFrom n sc.names []).lookup x = some c := by
  have q := PySem.W.cellsFrom_some sc.names n [] (.inl h)
  exact Option.isSome_iff_exists.mp q

theorem inv_start {CX : CXT} {P : Program} {w : World} {K : PySem.W.Frag} {mg : Str → Option Value} {base : Heap} {N ps : List Str} {qual : Str} {scope : Scope} {f : Addr} {cd : Value} {A : Around} {outer : List Env} {s s1 : Shared} {H : Hp} {E : XK} {us : List Value} {vs : List V}
    (S : FnScope N ps scope) (hd : A.handled = none) (e0 : Env0 P w K mg base A outer s H) (hl : vs.length = ps.length) (r : Vals vs us)
    (x : InCallC s s.heap.objs.size (bindL (envOfC qual scope s.heap.objs.size f cd).kindOf (ps.zip us) fun _ => none) (cellsFrom (s.heap.objs.size + 1) scope.names []) (bindC (envOfC qual scope s.heap.objs.size f cd).kindOf (ps.zip us) fun _ => none) s1) :
    Inv (cxOf CX P w K mg base N qual scope f cd A outer s H E) [] (start N vs) H s1 := by
  have hpl : ps.length ≤ N.length := by have := congrArg List.length S.pre; rw [List.length_take] at this; omega
  obtain ⟨h1, tk, rfl, hk⟩ := x.done
  have noA : ∀ b : Addr, b ∉ (cxOf CX P w K mg base N qual scope f cd A outer s H E).ex := fun b z => absurd (show b ∈ ([] : List Addr) from z) (by simp)
  refine ⟨⟨e0.mod, S.kind, rfl, rfl, Nat.le_refl _, fun y z c h1 h2 => ?_, fun y hy => ?_, fun y c _ h => ?_, fun _ => hd, Around.frames_deeper e0.frames, .inr ⟨rfl, rfl⟩, fun b z => absurd z (noA b), e0.bs, e0.bsz, fun b _ _ => noA b, fun b z => absurd z (noA b), e0.funs, e0.frf⟩,
    rfl, e0.bare, Un.kept hk, ⟨_, x.toInCall.ns, fun i y v h1 h2 h3 => ?_⟩, fun y c h => ⟨_, x.cell y c h⟩, e0.hok.fresh (Nat.le_refl _), fun y c h => ?_, fun p hp => absurd (show p ∈ ([] : List (Addr × Obj)) from hp) (by simp), e0.hok.kept hk, ?_⟩
  · exact name_of_addr x.apart (PySem.mem_of_lookup h1) (PySem.mem_of_lookup h2)
  · have hy : scope.names.lookup y = some .cell ∨ scope.names.lookup y = some .free := hy
    rcases hy with hy | hy
    · exact cell_has hy
    · exact absurd rfl (S.nofree _ (PySem.mem_of_lookup hy))
  · exact Nat.le_of_lt (x.above y c (PySem.mem_of_lookup h))
  · have hi : i < vs.length := by
      unfold start at h2
      by_cases hi : i < vs.length
      · exact hi
      · rw [List.getElem?_append_right (by simpa using hi)] at h2
        rw [List.getElem?_replicate] at h2
        split at h2 <;> cases h2
    have ha : vs[i]? = some v := by
      unfold start at h2
      rw [List.getElem?_append_left (by simpa using hi), List.getElem?_map] at h2
      cases e : vs[i]? with
      | none => rw [e] at h2; cases h2
      | some a => rw [e] at h2; cases h2; rfl
    obtain ⟨u, hu, rv⟩ := r.get ha
    have hp : ps[i]? = some y := by
      rw [← S.pre, List.getElem?_take_of_lt (by omega)]; exact h1
    have ndP : ps.Nodup := by rw [← S.pre]; exact S.nd.sublist (List.take_sublist _ _)
    refine ⟨u, rv, ?_⟩
    rcases S.par y (List.mem_of_getElem? hp) with k | k
    · exact .inl ⟨k, bindL_get ndP hp hu k⟩
    · obtain ⟨c, e⟩ := cell_has (n := s.heap.objs.size + 1) k
      refine .inr ⟨.inl k, c, e, ?_⟩
      have q := x.cell y c e
      rw [bindC_get ndP hp hu (by show scope.names.lookup y ≠ _; rw [k]; decide)] at q
      exact q
  · exact e0.hok.fresh (Nat.le_of_lt (x.above y c (PySem.mem_of_lookup h)))
  · unfold start
    show _ = N.length
    rw [List.length_append, List.length_map, List.length_replicate]
    omega

/-- THE RULE: a def (or a method) of the text, by its body. The body's reading t is chosen for each entry; it is run at the parameters' values -/
theorem fn_of {CX : CXT} {P : Program} {w : World} {K : PySem.W.Frag} {mg : Str → Option Value} {base : Heap} {k : Nat} {f : Addr} {name qual : Str} {params : Arguments} {body : List Stmt} {scope : Scope} {dV kV doc pm cdv ct oc : Value} {an od : Option Addr}
    {osl : Array (Option Value)} {N ps : List Str} {sp : Sp} (lk : K.lookup f = some ⟨oc, od, .func (PySem.W.fnOf name qual params body scope dV kV doc pm an cdv ct), osl⟩) (hcd : PySem.W.codeIn K cdv qual = true) (S : FnScope N ps scope)
    (len : ∀ vs H Q E, sp vs H Q E → vs.length = ps.length)
    (hbody : ∀ (A : Around) (outer : List Env) (s : Shared) (H : Hp) (vs : List V) (Q : VK) (E : XK), Room k (A.deeper (envOfC qual scope s.heap.objs.size f cdv)) → sp vs H Q E →
      ∃ t, PSs (cxOf CX P w K mg base N qual scope f cdv A outer s H E) body t ∧ t { nx := fun _ H' => Q .non H', rt := Q } (start N vs) H) :
    FnOk P w K mg base CX (k + 1) f (PySem.W.fnOf name qual params body scope dV kV doc pm an cdv ct) ps sp := by
  refine ⟨len, fun A outer s H args us vs Q E hr e0 hb r hsp => ?_⟩
  have hl := len _ _ _ _ hsp
  have KX : K.In s.heap := e0.mod.kin.keeps fun b o e => (e0.bs b o e).1
  have lim : s.heap.NoLimit := e0.mod.nolimit.keeps fun b o e => (e0.bs b o e).1
  have hkind : ∀ y ∈ ps.zip us, scope.names.lookup y.1 = some .local ∨ (scope.names.lookup y.1 = some .cell ∧ ((cellsFrom (s.heap.objs.size + 1) scope.names []).lookup y.1).isSome = true) := fun ⟨n, v⟩ hy => by
    rcases S.par n (List.of_mem_zip hy).1 with q | q
    · exact .inl q
    · exact .inr ⟨q, PySem.W.cellsFrom_some _ _ _ (.inl q)⟩
  refine codeAny_call_function hr.depth (KX _ _ lk) rfl S.co S.gen rfl (PySem.W.codeRec_of KX hcd) (hb _ _ _ _ ?_)
  refine wpAny_newFunctionEnv_cells S.kind hkind fun env he s1 x => ?_
  subst he
  refine ⟨lim.keeps x.toInCall.keep, codeAny_func ?_⟩
  obtain ⟨t, ht, hq⟩ := hbody A outer s H vs Q E (hr.deeper _) hsp
  have I : Inv (cxOf CX P w K mg base N qual scope f cdv A outer s H E) [] (start N vs) H s1 := inv_start S hr.hd e0 hl r x
  refine wpAny_mono (ht [] s1 (start N vs) H _ I hq) (fun fl s' hs => ?_) fun e s' hs => hs
  have fin : ∀ {σ' : St} {H' : Hp} {v : V} {u : Value}, Inv (cxOf CX P w K mg base N qual scope f cdv A outer s H E) [] σ' H' s' → RelV v u → Q v H' → CE outer P w H s Q u s' :=
    fun {σ' H' v u} J rv q => ⟨v, H', J.os, J.bare, J.base, J.hok, rv, q⟩
  cases fl with
  | ret u =>
    obtain ⟨v, σ', H', J, rv, q⟩ := hs
    exact fin J rv q
  | next =>
    obtain ⟨σ', H', J, q⟩ := hs
    exact fin (v := V.non) (u := Value.none) J rfl q
  | brk =>
    obtain ⟨_, _, _, q⟩ := hs
    exact False.elim q
  | cont =>
    obtain ⟨_, _, _, q⟩ := hs
    exact False.elim q
end L2

namespace L2
open PySem PySem.Spec PyProof.Rows
section
variable {X : Cx} {x : Str} {p pos : Pos} {e : Expr} {es : List Expr} {t : TA} {id T : String} {r : List V → Hp → VK → Prop}

def tCB (r : List V → Hp → VK → Prop) (t : TA) : TE := fun σ H Q => t σ H fun vs H1 => r vs H1 Q
/-- f(e, ..), f a built-in function -/
theorem pe_callB (hc : CallR X (.builtin id) r) (hg : Gl X x) (hm : X.mg x = none) (hv : bootBuiltins x = some (.builtin id)) (ha : PA X (e :: es) t) (hn : x ≠ "__name__" := by decide) (hdb : (x == ("__debug__" : Str)) = false := by decide)
    (he : starEach (e :: es) X.env = (false, eval e X.env) :: starEach es X.env := by rfl) (hpl : (backTo pos (starEach es X.env)).any (·.1) = false := by rfl) : PE X (.Call (.Name x p) (e :: es) [] pos) (tCB r t) := by
  intro pins s σ H Q I h
  refine wpAny_Call_Name_kw (ld_blt I hg hm hv ?_ hn hdb)
  exact PyProof.Rows.callWith_builtin1 (thn (ha pos pins s σ H _ I h) fun us s1 ⟨vs, H1, I1, r1, q1⟩ => hc pins s1 σ H1 vs us Q I1 r1 q1) he hpl
/-- T(e, ..), T a built-in type -/
theorem pe_callTy (hc : CallR X (.type T) r) (hg : Gl X x) (hm : X.mg x = none) (hv : bootBuiltins x = some (.type T)) (ha : PA X (e :: es) t) (hn : x ≠ "__name__" := by decide) (hdb : (x == ("__debug__" : Str)) = false := by decide)
    (he : starEach (e :: es) X.env = (false, eval e X.env) :: starEach es X.env := by rfl) (hpl : (backTo pos (starEach es X.env)).any (·.1) = false := by rfl) : PE X (.Call (.Name x p) (e :: es) [] pos) (tCB r t) := by
  intro pins s σ H Q I h
  refine wpAny_Call_Name_kw (ld_blt I hg hm hv ?_ hn hdb)
  exact PyProof.Rows.callWith_type1 (thn (ha pos pins s σ H _ I h) fun us s1 ⟨vs, H1, I1, r1, q1⟩ => hc pins s1 σ H1 vs us Q I1 r1 q1) he hpl
end
end L2

namespace HT
open PySem PyProof.Rows

section
open PySem.SeqAt
open PySem.AutoSeq1 (wpAny_loadPart')
open PySem.MeetsSeq PySem.MeetsSeq2 PySem.MeetsSeq3

end

section
variable {prog : Program} {w : World} {A : Around} {E : Value → Shared → Prop} {s : Shared}

/-! ### t[a:b], not the whole -/
/-- a slice's bound as a place among n (d where it is left out) -/
def sIx (n d : Nat) : Option Int → Nat
  | none => d
  | some v => if v < 0 then (v + (n : Int)).toNat else min v.toNat n
theorem sIx_nat (n d k : Nat) : sIx n d (some (k : Int)) = min k n := by
  show (if (k : Int) < 0 then ((k : Int) + (n : Int)).toNat else min (k : Int).toNat n) = min k n
  rw [if_neg (by omega), Int.toNat_natCast]
end
end HT

namespace L2
open PySem PySem.Spec PyProof.Rows

/-! ### the parts of a slice -/
abbrev TO := St → Hp → (Option Int → Hp → Prop) → Prop
/-- a slice's part (left out, or an int) -/
def PO (X : Cx) (e : Option Expr) (t : TO) : Prop :=
  ∀ (pins : List (Addr × Obj)) (s : Shared) (σ : St) (H : Hp) (Q : Option Int → Hp → Prop), Inv X pins σ H s → t σ H Q →
    wpAny (model X.prog X.w) X.A (evalPart e X.env) (fun u s' => ∃ o H', Inv X pins σ H' s' ∧ IsPart u o ∧ Q o H') X.xe s
def tNoPart : TO := fun _ H Q => Q none H
def tPart (t : TE) : TO := fun σ H Q => t σ H fun x H1 => ∃ i, x = .int i ∧ Q (some i) H1

section
variable {X : Cx} {e : Expr} {te : TE} {lo hi : Option Expr} {tl th : TO} {pos p2 : Pos}

theorem po_none : PO X none tNoPart := by
  intro pins s σ H Q I h
  rw [evalPart_none]
  exact wpAny_pure ⟨none, H, I, .none, h⟩
theorem po_some (h : PE X e te) : PO X (some e) (tPart te) := by
  intro pins s σ H Q I hw
  rw [evalPart_some]
  refine thn (h pins s σ H _ I hw) fun u s1 ⟨x, H1, I1, r1, q1⟩ => ?_
  obtain ⟨i, rfl, q⟩ := q1
  obtain ⟨t, rfl⟩ := r1
  exact ⟨some i, H1, I1, .int i t, q⟩

/-- what a slice of a value is, by values: the slice object stands at sl -/
def SlR (X : Cx) (r : V → Option Int → Option Int → Hp → VK → Prop) : Prop :=
  ∀ (pins : List (Addr × Obj)) (s : Shared) (σ : St) (H : Hp) (x : V) (v vl vu : Value) (lo hi : Option Int) (sl : Addr) (Q : VK), Inv X pins σ H s → RelV x v → s.heap.IsSliceOf sl vl vu .none → IsPart vl lo → IsPart vu hi → r x lo hi H Q →
    ∃ T id, typeLookup (.type T) "__getitem__" = pure (some (.builtin id)) ∧ s.TypeIs v T ∧ wpAny (model X.prog X.w) X.A (getItem v (.ref sl)) (EP X pins σ Q) X.xe s
theorem SlR.or {r r' : V → Option Int → Option Int → Hp → VK → Prop} (h : SlR X r) (h' : SlR X r') : SlR X (fun x lo hi H Q => r x lo hi H Q ∨ r' x lo hi H Q) := by
  intro pins s σ H x v vl vu lo hi sl Q I rx hs pl pu q
  rcases q with q | q
  · exact h pins s σ H x v vl vu lo hi sl Q I rx hs pl pu q
  · exact h' pins s σ H x v vl vu lo hi sl Q I rx hs pl pu q
def tSl (r : V → Option Int → Option Int → Hp → VK → Prop) (te : TE) (tl th : TO) : TE := fun σ H Q => te σ H fun x H1 => tl σ H1 fun l H2 => th σ H2 fun u H3 => r x l u H3 Q
/-- a[lo:hi], any a -/
theorem pe_slice {r : V → Option Int → Option Int → Hp → VK → Prop} (hr : SlR X r) (he : PE X e te) (hl : PO X lo tl) (hu : PO X hi th) : PE X (.Subscript e (.Slice lo hi none p2) pos) (tSl r te tl th) := by
  intro pins s σ H Q I h
  refine Subscript_ (thn (he pins s σ H _ I h) fun v s1 ⟨x, H1, I1, r1, q1⟩ => ?_)
  refine wpAny_Slice (thn (hl pins s1 σ H1 _ I1 q1) fun vl s2 ⟨l, H2, I2, pl, q2⟩ => thn (hu pins s2 σ H2 _ I2 q2) fun vu s3 ⟨u, H3, I3, pu, q3⟩ => ?_)
  rw [evalPart_none]
  refine wpAny_pure ?_
  have I4 : Inv X pins σ H3 { s3 with heap := s3.heap.push { cls := .type "slice", data := .fields #[vl, vu, .none] } } := I3.kept (t' := s3.toks) fun b ob q => Heap.get?_push_of_some _ q
  obtain ⟨T, id, hT, ht, hg⟩ := hr pins { s3 with heap := s3.heap.push { cls := .type "slice", data := .fields #[vl, vu, .none] } } σ H3 x v vl vu l u s3.heap.objs.size Q I4 r1 (Heap.IsSliceOf.new ..) pl pu q3
  show wpAny (model X.prog X.w) X.A (subscriptTail e (.Slice lo hi none p2) v (.ref s3.heap.objs.size)) (EP X pins σ Q) X.xe { s3 with heap := s3.heap.push { cls := .type "slice", data := .fields #[vl, vu, .none] } }
  exact tail_any (ops := [.ref s3.heap.objs.size, v]) ht hT hg (by with_unfolding_all rfl)

/-- the items of xs[lo:hi] -/
def cutV (xs : List V) (lo hi : Option Int) : List V := (xs.drop (HT.sIx xs.length 0 lo)).take (HT.sIx xs.length xs.length hi - HT.sIx xs.length 0 lo)
theorem cutV_length (xs : List V) (lo hi : Option Int) : (cutV xs lo hi).length ≤ xs.length := by
  unfold cutV
  rw [List.length_take, List.length_drop]
  omega
/-! ### t < u, t + u -/
end
end L2

namespace L2
open PySem PySem.Spec PyProof.Rows

/-! ### places -/
/-- the place that an index of any sign means -/
def ixN (n : Nat) (i : Int) : Option Nat := if 0 ≤ i then (if i < n then some i.toNat else none) else if -(n : Int) ≤ i then some (i + n).toNat else none
def atI {α : Type} (xs : List α) (i : Int) : Option α := (ixN xs.length i).bind fun j => xs[j]?
theorem ixN_seq {n : Nat} {i : Int} {j : Nat} (h : ixN n i = some j) : seqIndex? i n = some j ∧ j < n ∧ -(n : Int) ≤ i ∧ i < n := by
  unfold ixN at h
  by_cases h0 : 0 ≤ i
  · rw [if_pos h0] at h
    by_cases h1 : i < n
    · rw [if_pos h1] at h
      have e : i.toNat = j := Option.some.inj h
      exact ⟨by rw [seqIndex_of h0 h1, e], by omega, by omega, h1⟩
    · rw [if_neg h1] at h; cases h
  · rw [if_neg h0] at h
    by_cases h1 : -(n : Int) ≤ i
    · rw [if_pos h1] at h
      have e : (i + n).toNat = j := Option.some.inj h
      exact ⟨by rw [seqIndex_neg (by omega) h1, e], by omega, h1, by omega⟩
    · rw [if_neg h1] at h; cases h
theorem atI_get {α : Type} {xs : List α} {i : Int} {v : α} (h : atI xs i = some v) : ∃ j, seqIndex? i xs.length = some j ∧ xs[j]? = some v ∧ j < xs.length ∧ -(xs.length : Int) ≤ i ∧ i < xs.length := by
  unfold atI at h
  cases e : ixN xs.length i with
  | none => rw [e] at h; cases h
  | some j =>
    rw [e] at h
    obtain ⟨h1, h2, h3, h4⟩ := ixN_seq e
    exact ⟨j, h1, h, h2, h3, h4⟩
theorem atI_nat {α : Type} {xs : List α} {j : Nat} {v : α} (h : xs[j]? = some v) : atI xs (j : Int) = some v := by
  have hj : j < xs.length := (List.getElem?_eq_some_iff.mp h).1
  have e : ixN xs.length (j : Int) = some j := by
    unfold ixN
    rw [if_pos (by omega), if_pos (by omega)]; simp
  unfold atI; rw [e]; exact h
/-! ### what may be subscripted -/
/-- what stands as an index of a plain subscript -/
def PlainIx (b : Expr) : Prop := ∀ o i, subscripted b false o i = operate [o, i] (getItem o i)
/-- a subscript by values -/
def IxR (X : Cx) (r : R2) : Prop :=
  ∀ (value slice : Expr) (pins : List (Addr × Obj)) (s : Shared) (σ : St) (H : Hp) (x y : V) (v u : Value) (Q : VK), Inv X pins σ H s → RelV x v → RelV y u → r x y H Q →
    subscripted slice false v u = operate [v, u] (getItem v u) → wpAny (model X.prog X.w) X.A (subscriptTail value slice v u) (EP X pins σ Q) X.xe s
/-- a call of a builtin's method by values: the receiver, the arguments -/
def MtR (X : Cx) (id : String) (r : V → List V → Hp → VK → Prop) : Prop :=
  ∀ (pins : List (Addr × Obj)) (s : Shared) (σ : St) (H : Hp) (x : V) (xs : List V) (v : Value) (us : List Value) (Q : VK), Inv X pins σ H s → RelV x v → Vals xs us → r x xs H Q →
    wpAny (model X.prog X.w) X.A (call (.builtin id) (v :: us)) (EP X pins σ Q) X.xe s
section
variable {X : Cx} {a b : Expr} {ta tb : TE} {pos : Pos}
theorem IxR.or {r r' : R2} (h : IxR X r) (h' : IxR X r') : IxR X (fun x y H Q => r x y H Q ∨ r' x y H Q) := by
  intro value slice pins s σ H x y v u Q I rx ry q hs
  rcases q with q | q
  · exact h value slice pins s σ H x y v u Q I rx ry q hs
  · exact h' value slice pins s σ H x y v u Q I rx ry q hs
theorem MtR.or {id : String} {r r' : V → List V → Hp → VK → Prop} (h : MtR X id r) (h' : MtR X id r') : MtR X id (fun x xs H Q => r x xs H Q ∨ r' x xs H Q) := by
  intro pins s σ H x xs v us Q I rx rs q
  rcases q with q | q
  · exact h pins s σ H x xs v us Q I rx rs q
  · exact h' pins s σ H x xs v us Q I rx rs q
/-- a[b] -/
theorem pe_ix {r : R2} (hr : IxR X r) (ha : PE X a ta) (hb : PE X b tb) (hs : PlainIx b) : PE X (.Subscript a b pos) (tOp r ta tb) := by
  intro pins s σ H Q I h
  exact Subscript_ (binT ha hb I h fun v u s2 x y H2 I2 rx ry q => hr a b pins s2 σ H2 x y v u Q I2 rx ry q (hs _ _))

def rIxL (K : PySem.W.Frag) : R2 := fun x y H Q => ∃ p xs i v, x = .ref p ∧ y = .int i ∧ SqL K H p xs ∧ atI xs i = some v ∧ Q v H
def rIxT (K : PySem.W.Frag) : R2 := fun x y H Q => ∃ p xs i v, x = .ref p ∧ y = .int i ∧ SqT K H p xs ∧ atI xs i = some v ∧ Q v H
def rIxS : R2 := fun x y H Q => ∃ z i c, x = .str z ∧ y = .int i ∧ z.length ≤ sizeLine ∧ atI z.cps.toList i = some c ∧ Q (.str ⟨#[c]⟩) H
theorem ix_list : IxR X (rIxL X.K) := by
  intro value slice pins s σ H x y v u Q I rx ry h hs
  obtain ⟨p, xs, i, z, rfl, rfl, hq, he, q⟩ := h
  cases rx
  obtain ⟨t, rfl⟩ := ry
  obtain ⟨its, r, pl, hz⟩ := I.list hq
  obtain ⟨j, h1, h2, h3, h4, h5⟩ := atI_get he
  obtain ⟨w, ew, rw'⟩ := r.get h2
  have hl := r.length
  have hn := line63
  have fin : EP X pins σ Q w s := ⟨z, H, I, rw', q⟩
  by_cases h0 : 0 ≤ i
  · have hj : i.toNat = j := by
      rw [seqIndex_of h0 h5] at h1
      exact Option.some.inj h1
    exact item_listR pl.isList h0 (by omega) (by rw [hj]; simpa using ew) fin hs
  · have hj : (i + (its.toArray.size : Int)).toNat = j := by
      rw [seqIndex_neg (by omega) h4] at h1
      rw [List.size_toArray, ← hl]
      exact Option.some.inj h1
    exact subscriptTail_builtinR (x := w) pl.isList.typeIs slot_list_getitem.lookup
      (wpAny_getItem_list_neg (Q := fun r s' => r = w ∧ EP X pins σ Q r s') pl.isList (by omega) (by rw [List.size_toArray] <;> omega) (by omega) (by rw [hj]; simpa using ew) ⟨rfl, fin⟩) hs
theorem ix_tup : IxR X (rIxT X.K) := by
  intro value slice pins s σ H x y v u Q I rx ry h hs
  obtain ⟨p, xs, i, z, rfl, rfl, hq, he, q⟩ := h
  cases rx
  obtain ⟨t, rfl⟩ := ry
  obtain ⟨its, r, pl, hz⟩ := I.tuple hq
  obtain ⟨j, h1, h2, h3, h4, h5⟩ := atI_get he
  obtain ⟨w, ew, rw'⟩ := r.get h2
  have hl := r.length
  have hn := line63
  have fin : EP X pins σ Q w s := ⟨z, H, I, rw', q⟩
  exact subscriptTail_builtinR (x := w) pl.typeIs slot_tuple_getitem.lookup
    (getItem_tuple (j := j) (Q := fun r s' => r = w ∧ EP X pins σ Q r s') pl (by omega) (by omega) (by rw [List.size_toArray, ← hl]; exact h1) (by simpa using ew) ⟨rfl, fin⟩) hs
theorem ix_str : IxR X rIxS := by
  intro value slice pins s σ H x y v u Q I rx ry h hs
  obtain ⟨z, i, c, rfl, rfl, hz, he, q⟩ := h
  obtain ⟨t, rfl⟩ := rx
  obtain ⟨t', rfl⟩ := ry
  obtain ⟨j, h1, h2, h3, h4, h5⟩ := atI_get he
  have hl : z.cps.toList.length = z.length := by simp [Str.length]
  rw [hl] at h1 h4 h5
  have hn := line63
  exact tail_any (typeIs_str s z t) slot_str_getitem.lookup (getItem_str (c := c) (by
    have e1 : decide (i < -(2 ^ 63 : Int)) = false := decide_eq_false (by omega)
    have e2 : decide (i ≥ 2 ^ 63) = false := decide_eq_false (by omega)
    rw [e1, e2, Bool.or_false]) (by rw [h1]; simpa using h2) ⟨.str ⟨#[c]⟩, H, I.tok _, ⟨_, rfl⟩, q⟩) hs
/-- list, tuple or str -/
def rIx (K : PySem.W.Frag) : R2 := fun x y H Q => rIxL K x y H Q ∨ rIxT K x y H Q ∨ rIxS x y H Q
theorem ix_seq : IxR X (rIx X.K) := ix_list.or (ix_tup.or ix_str)

/-! ### xs[i] = v, any sign -/
/-- the list's object behind a store -/
theorem mapSeq_set (its : List Value) (n j : Nat) (u : Value) : Obj.mapSeq (·.setIfInBounds j u) { cls := .type "list", data := .seq its.toArray n } = { cls := .type "list", data := .seq (its.set j u).toArray n } := by
  simp [Obj.mapSeq]
theorem Inv.lst {pins : List (Addr × Obj)} {σ : St} {H : Hp} {s : Shared} {p : Addr} {xs : List V} (I : Inv X pins σ H s) (h : H p = some (.lst xs)) :
    ∃ (its : List Value) (n : Nat), Vals xs its ∧ s.heap.get? p = some { cls := .type "list", data := .seq its.toArray n } ∧ xs.length ≤ sizeLine := by
  obtain ⟨z, its, n, r, e⟩ := I.hok p _ h
  exact ⟨its, n, r, e, z⟩
/-- the list at p is written by an update of its object -/
theorem Inv.lstUpd {pins : List (Addr × Obj)} {σ : St} {H : Hp} {s : Shared} {p : Addr} {xs ys : List V} {its its' : List Value} {n n' : Nat} {f : Obj → Obj} (I : Inv X pins σ H s) (h : H p = some (.lst xs))
    (ho : s.heap.get? p = some { cls := .type "list", data := .seq its.toArray n }) (hf : f { cls := .type "list", data := .seq its.toArray n } = { cls := .type "list", data := .seq its'.toArray n' }) (r : Vals ys its') (hz : ys.length ≤ sizeLine) (t : Nat) :
    Inv X pins σ (upd H p (.lst ys)) { s with heap := s.heap.update p f, toks := t } := by
  have e : (s.heap.update p f).get? p = some { cls := .type "list", data := .seq its'.toArray n' } := by
    rw [Heap.get?_update_self f ho (by rw [hf] <;> rfl), hf]
  refine I.write (x := p) (e := p) (by rw [h]; trivial) (.inl rfl) (fun b u hb q => (Heap.get?_update_other _ _ (Ne.symm hb)).trans q) ⟨_, e⟩ ?_
  exact ⟨hz, its', n', r, e⟩
def rSetL : V → V → V → Hp → (Hp → Prop) → Prop := fun o i v H Q => ∃ p xs k j, o = .ref p ∧ i = .int k ∧ H p = some (.lst xs) ∧ ixN xs.length k = some j ∧ Q (upd H p (.lst (xs.set j v)))
theorem set_list : PSet X rSetL := by
  intro pins s σ H o i v ov iv u Q I ro ri rv h
  obtain ⟨p, xs, k, j, rfl, rfl, hp, hj, q⟩ := h
  cases ro
  obtain ⟨t, rfl⟩ := ri
  obtain ⟨its, n, r, ho, hz⟩ := I.lst hp
  obtain ⟨h1, h2, h3, h4⟩ := ixN_seq hj
  have hl := r.length
  have hn := line63
  have I' : Inv X pins σ (upd H p (.lst (xs.set j v))) { s with heap := s.heap.update p (Obj.mapSeq (·.setIfInBounds j u)) } :=
    I.lstUpd hp ho (mapSeq_set its n j u) (r.set rv j) (by rw [List.length_set]; exact hz) s.toks
  by_cases h0 : 0 ≤ k
  · have hk : k.toNat = j := by
      rw [seqIndex_of h0 h4] at h1
      exact Option.some.inj h1
    exact PySem.W.ki_setAt ho h0 (by omega) (by rw [List.size_toArray, ← hl]; exact h4) (by rw [hk]; exact ⟨_, I', q⟩)
  · have hk : (k + (its.toArray.size : Int)).toNat = j := by
      rw [seqIndex_neg (by omega) h3] at h1
      rw [List.size_toArray, ← hl]
      exact Option.some.inj h1
    exact PySem.W.ki_setBack ho (by omega) (by rw [List.size_toArray, ← hl]; exact h3) (by omega) (by rw [hk]; exact ⟨_, I', q⟩)

/-! ### slices -/
theorem slice_bounds (lo hi : Option Int) (n : Nat) : (sliceBounds lo hi none n).1 = ((HT.sIx n 0 lo : Nat) : Int) ∧ (sliceBounds lo hi none n).2.1 = ((HT.sIx n n hi : Nat) : Int) ∧ (sliceBounds lo hi none n).2.2 = 1 := by
  refine ⟨?_, ?_, rfl⟩
  · cases lo with
    | none => simp [sliceBounds, HT.sIx]
    | some i =>
      simp only [sliceBounds, HT.sIx, Option.getD_none, show (1 : Int) > 0 by decide, if_true]
      by_cases h : i < 0
      · simp only [h, if_true] <;> omega
      · simp only [h, if_false] <;> omega
  · cases hi with
    | none => simp [sliceBounds, HT.sIx]
    | some i =>
      simp only [sliceBounds, HT.sIx, Option.getD_none, show (1 : Int) > 0 by decide, if_true]
      by_cases h : i < 0
      · simp only [h, if_true] <;> omega
      · simp only [h, if_false] <;> omega
theorem slicePick_cut (its : List Value) (lo hi : Option Int) : slicePick its.toArray lo hi none = ((its.drop (HT.sIx its.length 0 lo)).take (HT.sIx its.length its.length hi - HT.sIx its.length 0 lo)).toArray := by
  obtain ⟨h1, h2, h3⟩ := slice_bounds lo hi its.toArray.size
  unfold slicePick
  rw [h1, h2, h3]
  simp only [sliceRange_one, pick_run, List.size_toArray] <;> rfl
/-- xs[lo:hi] of a list: a new list -/
def rSlL (K : PySem.W.Frag) : V → Option Int → Option Int → Hp → VK → Prop := fun x lo hi H Q => ∃ a xs, x = .ref a ∧ SqL K H a xs ∧ ∀ p, H p = none → Q (.ref p) (upd H p (.lst (cutV xs lo hi)))
theorem sl_list : SlR X (rSlL X.K) := by
  intro pins s σ H x v vl vu lo hi sl Q I rx hs pl pu h
  obtain ⟨a, xs, rfl, hx, q⟩ := h
  cases rx
  obtain ⟨its, r, ht, hz⟩ := I.list hx
  have hlen := r.length
  refine ⟨"list", _, slot_list_getitem.lookup, ht.isList.typeIs, ?_⟩
  refine wpAny_getItem_list_slice ht.isList hs pl pu .none (by simp) ?_ (by rw [List.size_toArray] <;> omega)
  rw [slicePick_cut, ← hlen]
  refine ⟨.ref s.heap.objs.size, _, I.laid (t' := s.toks) (o := .lst (cutV xs lo hi)) (fun b ob q => Heap.get?_push_of_some _ q) (Nat.le_refl _) ?_, rfl, q _ (I.hok.fresh (Nat.le_refl _))⟩
  exact ⟨Nat.le_trans (cutV_length xs lo hi) hz, _, 0, (r.drop (HT.sIx xs.length 0 lo)).take (HT.sIx xs.length xs.length hi - HT.sIx xs.length 0 lo), Heap.get?_push_size _ rfl⟩

/-! ### in, not in: flat items -/
def flatV : V → Bool
  | .non => true
  | .bl _ => true
  | .int _ => true
  | .str _ => true
  | _ => false
/-- == of flat values -/
def eqV : V → V → Bool
  | .non, .non => true
  | .bl a, .bl b => a == b
  | .bl a, .int b => (if a then 1 else 0) == b
  | .int a, .bl b => a == (if b then 1 else 0)
  | .int a, .int b => a == b
  | .str a, .str b => a == b
  | _, _ => false
theorem eqAt_V {A : Around} {s : Shared} {y x : V} {u v : Value} (ry : RelV y u) (rx : RelV x v) (fy : flatV y = true) (fx : flatV x = true) : SeqAt.EqAt A s u v (eqV y x) := by
  cases y with
  | non =>
    cases ry
    cases x with
    | non => cases rx; exact SeqAt.EqAt.same _
    | bl b => cases rx; exact SeqAt.EqAt.none_bool b
    | int b => obtain ⟨t, rfl⟩ := rx; exact SeqAt.EqAt.none_int b t
    | str b => obtain ⟨t, rfl⟩ := rx; exact SeqAt.EqAt.none_str b t
    | _ => exact absurd (show false = true from fx) Bool.false_ne_true
  | bl a =>
    cases ry
    cases x with
    | non => cases rx; exact SeqAt.EqAt.bool_none a
    | bl b => cases rx; exact SeqAt.EqAt.bool_bool a b
    | int b => obtain ⟨t, rfl⟩ := rx; exact SeqAt.EqAt.bool_int a b t
    | str b => obtain ⟨t, rfl⟩ := rx; exact SeqAt.EqAt.bool_str a b t
    | _ => exact absurd (show false = true from fx) Bool.false_ne_true
  | int a =>
    obtain ⟨t', rfl⟩ := ry
    cases x with
    | non => cases rx; exact SeqAt.EqAt.int_none a t'
    | bl b => cases rx; exact SeqAt.EqAt.int_bool a t' b
    | int b => obtain ⟨t, rfl⟩ := rx; exact SeqAt.EqAt.int_int a t' b t
    | str b => obtain ⟨t, rfl⟩ := rx; exact SeqAt.EqAt.int_str a t' b t
    | _ => exact absurd (show false = true from fx) Bool.false_ne_true
  | str a =>
    obtain ⟨t', rfl⟩ := ry
    cases x with
    | non => cases rx; exact SeqAt.EqAt.str_none a t'
    | bl b => cases rx; exact SeqAt.EqAt.str_bool a t' b
    | int b => obtain ⟨t, rfl⟩ := rx; exact SeqAt.EqAt.str_int a t' b t
    | str b => obtain ⟨t, rfl⟩ := rx; exact SeqAt.EqAt.str_str a t' b t
    | _ => exact absurd (show false = true from fx) Bool.false_ne_true
  | _ => exact absurd (show false = true from fy) Bool.false_ne_true
/-- the items' answers, read off the values (a value's own answer does not lean on its token) -/
def eqU (x : V) (u : Value) : Bool := match u with
  | .none => eqV .non x
  | .bool b => eqV (.bl b) x
  | .int i _ => eqV (.int i) x
  | .str z _ => eqV (.str z) x
  | _ => false
theorem eqU_of {x y : V} {u : Value} (r : RelV y u) (f : flatV y = true) : eqU x u = eqV y x := by
  cases y with
  | non => cases r; rfl
  | bl b => cases r; rfl
  | int i => obtain ⟨t, rfl⟩ := r; rfl
  | str z => obtain ⟨t, rfl⟩ := r; rfl
  | _ => exact absurd (show false = true from f) Bool.false_ne_true
theorem any_eqU {x : V} : ∀ {xs : List V} {us : List Value}, Vals xs us → xs.all flatV = true → us.any (eqU x) = xs.any fun y => eqV y x
  | _, _, .nil, _ => rfl
  | y :: xs, u :: us, .cons r t, f => by
    rw [List.all_cons, Bool.and_eq_true] at f
    rw [List.any_cons, List.any_cons, eqU_of r f.1, any_eqU t f.2]
theorem mem_eqAt {A : Around} {s : Shared} {x : V} {v : Value} (rx : RelV x v) (fx : flatV x = true) : ∀ {xs : List V} {us : List Value}, Vals xs us → xs.all flatV = true → ∀ u ∈ us, SeqAt.EqAt A s u v (eqU x u)
  | _, _, .nil, _ => fun u hu => by cases hu
  | y :: xs, u :: us, .cons r t, f => fun u' hu => by
    rw [List.all_cons, Bool.and_eq_true] at f
    rcases List.mem_cons.mp hu with rfl | hu
    · rw [eqU_of r f.1]; exact eqAt_V r rx f.1 fx
    · exact mem_eqAt rx fx t f.2 u' hu
def inV (x : V) (xs : List V) : Bool := xs.any fun y => eqV y x
/-- x in a list or tuple of flat items -/
def rIn (K : PySem.W.Frag) (neg : Bool) : R2 := fun x y H Q => ∃ p xs, y = .ref p ∧ (SqL K H p xs ∨ SqT K H p xs) ∧ flatV x = true ∧ xs.all flatV = true ∧ Q (.bl (if neg then !inV x xs else inV x xs)) H
theorem op_in_seq : OpR X (compareOp .In) (rIn X.K false) := by
  intro pins s σ H x y v u Q I rx ry h
  obtain ⟨p, xs, rfl, hq, fx, fs, q⟩ := h
  cases ry
  rcases hq with hq | hq
  · obtain ⟨its, r, pl, hz⟩ := I.list hq
    refine SeqAt.in_listAt (eqU x) pl.isList (fun w hw => mem_eqAt rx fx r fs w (by simpa using hw)) ⟨.bl _, H, I, rfl, ?_⟩
    rw [show its.toArray.any (eqU x) = its.any (eqU x) by simp, any_eqU r fs]
    exact q
  · obtain ⟨its, r, pl, hz⟩ := I.tuple hq
    refine SeqAt.in_tupleAt (eqU x) pl (fun w hw => mem_eqAt rx fx r fs w (by simpa using hw)) ⟨.bl _, H, I, rfl, ?_⟩
    rw [show its.toArray.any (eqU x) = its.any (eqU x) by simp, any_eqU r fs]
    exact q
/-! ### len, list(x), tuple(x) of any list or tuple that is read -/
theorem call_len_seq : CallR X (.builtin "len") (fun xs H Q => ∃ p ys, xs = [.ref p] ∧ (SqL X.K H p ys ∨ SqT X.K H p ys) ∧ Q (.int ys.length) H) := by
  intro pins s σ H xs us Q I r h
  obtain ⟨p, ys, rfl, hq, q⟩ := h
  obtain ⟨u, rfl, rx⟩ := vals1 r
  cases rx
  have hn := line63
  rcases hq with hq | hq
  · obtain ⟨its, r', pl, hz⟩ := I.list hq
    have hlen := r'.length
    exact Calls.call_len_list pl.isList (by simp only [List.size_toArray] <;> omega) ⟨.int ys.length, H, I.tok _, ⟨s.toks + 1, by rw [List.size_toArray, hlen]⟩, q⟩
  · obtain ⟨its, r', pl, hz⟩ := I.tuple hq
    have hlen := r'.length
    exact len_tuple pl (by simp only [List.size_toArray] <;> omega) ⟨.int ys.length, H, I.tok _, ⟨s.toks + 1, by rw [List.size_toArray, hlen]⟩, q⟩
theorem call_len_str : CallR X (.builtin "len") (fun xs H Q => ∃ z, xs = [.str z] ∧ z.length ≤ sizeLine ∧ Q (.int z.length) H) := by
  intro pins s σ H xs us Q I r h
  obtain ⟨z, rfl, hz, q⟩ := h
  obtain ⟨u, rfl, t, rfl⟩ := vals1 r
  have hn := line63
  exact len_str (by omega) ⟨.int z.length, H, I.tok _, ⟨_, rfl⟩, q⟩
theorem CallR.or {f : Value} {r r' : List V → Hp → VK → Prop} (h : CallR X f r) (h' : CallR X f r') : CallR X f (fun xs H Q => r xs H Q ∨ r' xs H Q) := by
  intro pins s σ H xs us Q I rs q
  rcases q with q | q
  · exact h pins s σ H xs us Q I rs q
  · exact h' pins s σ H xs us Q I rs q
theorem call_list_of : CallR X (.type "list") (fun xs H Q => ∃ p ys, xs = [.ref p] ∧ (SqL X.K H p ys ∨ SqT X.K H p ys) ∧ ∀ l, H l = none → Q (.ref l) (upd H l (.lst ys))) := by
  intro pins s σ H xs us Q I r h
  obtain ⟨p, ys, rfl, hq, q⟩ := h
  obtain ⟨u, rfl, rx⟩ := vals1 r
  cases rx
  have fin : ∀ (its : List Value), Vals ys its → ys.length ≤ sizeLine → ∀ (h' : Heap) (c' : Nat), (∀ b o', s.heap.get? b = some o' → h'.get? b = some o') →
      h'.get? s.heap.objs.size = some { cls := .type "list", dict := none, data := .seq its.toArray c', slots := #[] } → EP X pins σ Q (.ref s.heap.objs.size) { s with heap := h' } := fun its r' hz h' c' kp e =>
    ⟨.ref s.heap.objs.size, _, I.laid (t' := s.toks) kp (Nat.le_refl _) (show ObjOk X.prog X.w _ h' _ (.lst ys) from ⟨hz, its, c', r', e⟩), rfl, q _ (I.hok.fresh (Nat.le_refl _))⟩
  rcases hq with hq | hq
  · obtain ⟨its, r', pl, hz⟩ := I.list hq
    have hlen := r'.length
    obtain ⟨o, ho, hc, n, hd⟩ := pl.isList
    exact call_list_seq p (.inl rfl) ho hc hd (fun h' c' kp e => fin its r' hz h' c' kp e) (by simp only [List.size_toArray] <;> omega)
  · obtain ⟨its, r', pl, hz⟩ := I.tuple hq
    have hlen := r'.length
    obtain ⟨o, ho, hc, n, hd⟩ := pl
    exact call_list_seq p (.inr rfl) ho hc hd (fun h' c' kp e => fin its r' hz h' c' kp e) (by simp only [List.size_toArray] <;> omega)
theorem call_tuple_of : CallR X (.type "tuple") (fun xs H Q => ∃ p ys, xs = [.ref p] ∧ ((SqL X.K H p ys ∧ ∀ l, H l = none → Q (.ref l) (upd H l (.tup ys))) ∨ (SqT X.K H p ys ∧ Q (.ref p) H))) := by
  intro pins s σ H xs us Q I r h
  obtain ⟨p, ys, rfl, h⟩ := h
  obtain ⟨u, rfl, rx⟩ := vals1 r
  cases rx
  rcases h with ⟨hq, q⟩ | ⟨hq, q⟩
  · obtain ⟨its, r', pl, hz⟩ := I.list hq
    have hlen := r'.length
    refine call_tuple_list pl.isList (fun h' kp => ?_) (by simp only [List.size_toArray] <;> omega)
    have I1 : Inv X pins σ H { s with heap := h' } := I.kept (t' := s.toks) kp
    have I2 : Inv X pins σ (upd H h'.objs.size (.tup ys)) { s with heap := h'.push { cls := .type "tuple", data := .seq its.toArray } } :=
      I1.laid (t' := s.toks) (fun b o e => Heap.get?_push_of_some _ e) (Nat.le_refl _) (show ObjOk X.prog X.w _ _ _ (.tup ys) from ⟨hz, its, r', IsTup.new _ _⟩)
    exact ⟨.ref h'.objs.size, _, I2, rfl, q _ (I1.hok.fresh (Nat.le_refl _))⟩
  · obtain ⟨its, r', pl, hz⟩ := I.tuple hq
    exact call_tuple_same pl ⟨.ref p, H, I, rfl, q⟩

/-! ### the call of a builtin's method: o.m(..) -/
/-- the value is of that builtin type -/
def tyV (K : PySem.W.Frag) (T : String) (x : V) (H : Hp) : Prop := match x with
  | .str _ => T = "str"
  | .int _ => T = "int"
  | .ref p => (T = "list" ∧ ∃ xs, SqL K H p xs) ∨ (T = "tuple" ∧ ∃ o, K.lookup p = some o ∧ o.cls = .type "tuple" ∧ o.dict = none) ∨
      (T = "dict" ∧ ((∃ kvs, H p = some (.dK kvs)) ∨ ∃ kvs, H p = some (.dT kvs))) ∨ (T = "set" ∧ ∃ S n, H p = some (.set S n))
  | _ => False
theorem tyV_is {pins : List (Addr × Obj)} {σ : St} {H : Hp} {s : Shared} {T : String} {x : V} {v : Value} (I : Inv X pins σ H s) (r : RelV x v) (ty : tyV X.K T x H) :
    s.TypeIs v T ∧ ∀ a, v = .ref a → ∃ ob, s.heap.get? a = some ob ∧ ob.dict = none := by
  cases x with
  | str z =>
    obtain ⟨t, rfl⟩ := r
    cases (show T = "str" from ty)
    exact ⟨typeIs_str s z t, fun _ e => nomatch e⟩
  | int i =>
    obtain ⟨t, rfl⟩ := r
    cases (show T = "int" from ty)
    exact ⟨typeIs_int s i t, fun _ e => nomatch e⟩
  | ref p =>
    cases r
    rcases ty with ⟨rfl, xs, hq⟩ | ⟨rfl, o, hk, hc, hd⟩ | ⟨rfl, hk⟩ | ⟨rfl, S, n, hk⟩
    · obtain ⟨its, _, pl, _⟩ := I.list hq
      refine ⟨pl.isList.typeIs, fun a e => ?_⟩
      cases e
      obtain ⟨o, n, e, c, hd, _⟩ := pl
      exact ⟨o, e, hd⟩
    · refine ⟨⟨o, I.kIn p o hk, hc⟩, fun a e => ?_⟩
      cases e
      exact ⟨o, I.kIn _ o hk, hd⟩
    · have z : ∃ o, s.heap.get? p = some o ∧ o.ExactDict := by
        rcases hk with ⟨kvs, hk⟩ | ⟨kvs, hk⟩
        · obtain ⟨_, _, _, _, o, _, _, e, ex, _⟩ := I.hok p _ hk
          exact ⟨o, e, ex⟩
        · obtain ⟨_, _, _, _, o, _, _, e, ex, _⟩ := I.hok p _ hk
          exact ⟨o, e, ex⟩
      obtain ⟨o, e, ex⟩ := z
      refine ⟨⟨o, e, ex.1⟩, fun a e2 => ?_⟩
      cases e2
      exact ⟨o, e, ex.2.1⟩
    · obtain ⟨o, _, _, _, e, ex, _⟩ := I.hok p _ hk
      refine ⟨⟨o, e, ex.1⟩, fun a e2 => ?_⟩
      cases e2
      exact ⟨o, e, ex.2.1⟩
  | _ => exact False.elim ty
def tBM0 (K : PySem.W.Frag) (T : String) (r : V → List V → Hp → VK → Prop) (to : TE) : TE := fun σ H Q => to σ H fun x H1 => tyV K T x H1 ∧ r x [] H1 Q
def tBM (K : PySem.W.Frag) (T : String) (r : V → List V → Hp → VK → Prop) (to : TE) (t : TA) : TE := fun σ H Q => to σ H fun x H1 => tyV K T x H1 ∧ t σ H1 fun xs H2 => r x xs H2 Q
variable {o e : Expr} {es : List Expr} {to : TE} {t : TA} {name : Str} {apos cpos : Pos} {T id : String} {r : V → List V → Hp → VK → Prop}
theorem pe_bm0 (pa : PlainAttrs T) (slot : Slot T name id) (hty : typeOf (.builtin id) = pure (.type "method_descriptor")) (hm : MtR X id r) (ho : PE X o to)
    (hbase : attributeBase o name X.env (eval o X.env) = eval o X.env := by rfl) (hline : (apos.endLine == cpos.line) = true := by rfl) : PE X (.Call (.Attribute o name apos) [] [] cpos) (tBM0 X.K T r to) := by
  intro pins s σ H Q I h
  refine wpAny_Call_method0_late hbase hline (thn (ho pins s σ H _ I h) fun v s1 ⟨x, H1, I1, r1, ty, q1⟩ => ?_)
  obtain ⟨h1, h2⟩ := tyV_is I1 r1 ty
  exact ⟨T, id, pa, slot, hty, h1, h2, Calls.callWith_builtin rfl (PySem.evalArgs_none (hm pins s1 σ H1 x [] v [] Q I1 r1 .nil q1))⟩
theorem pe_bm (pa : PlainAttrs T) (slot : Slot T name id) (hty : typeOf (.builtin id) = pure (.type "method_descriptor")) (hm : MtR X id r) (ho : PE X o to) (ha : PA X (e :: es) t)
    (hbase : attributeBase o name X.env (eval o X.env) = eval o X.env := by rfl)
    (hfew : ((backTo cpos (starEach (e :: es) X.env)).all (fun x => !x.1) && (backToKw cpos (keywordEach [] X.env)).all (fun x => x.1.isSome)
      && decide ((e :: es).length + ([] : List Keyword).length + (if ([] : List Keyword).isEmpty then 0 else 1) < 30)) = true := by rfl)
    (hline : (apos.endLine == cpos.line) = true := by rfl) (hs : starEach (e :: es) X.env = (false, eval e X.env) :: starEach es X.env := by rfl) (hplain : (backTo cpos (starEach es X.env)).any (·.1) = false := by rfl) :
    PE X (.Call (.Attribute o name apos) (e :: es) [] cpos) (tBM X.K T r to t) := by
  intro pins s σ H Q I h
  refine wpAny_Call_method_late hbase hfew hline rfl (thn (ho pins s σ H _ I h) fun v s1 ⟨x, H1, I1, r1, ty, q1⟩ => ?_)
  obtain ⟨h1, h2⟩ := tyV_is I1 r1 ty
  refine ⟨T, id, pa, slot, hty, h1, h2, ?_⟩
  have hA := ha cpos pins s1 σ H1 _ I1 q1
  rw [hs] at hA ⊢
  refine Calls.callWith_builtin (by show (false || (backTo cpos (starEach es X.env)).any (·.1)) = false; rw [hplain] <;> rfl) (Calls.evalArgs_plain ?_)
  exact thn hA fun us s2 ⟨vs, H2, I2, r2, q2⟩ => hm pins s2 σ H2 x vs v us Q I2 r1 r2 q2
/- xs.append(e), list.index on a module's tuple .. are MtR facts of 06m -/
end
end L2

namespace L2
open PySem PySem.Spec PyProof.Rows

def MtM (X : Cx) (id : String) (r : V → List V → Hp → VK → Prop) : Prop :=
  ∀ (pins : List (Addr × Obj)) (s : Shared) (σ : St) (H : Hp) (x : V) (xs : List V) (v : Value) (us : List Value) (Q : VK), Inv X pins σ H s → RelV x v → Vals xs us → r x xs H Q →
    wpAny (model X.prog X.w) X.A (call (.builtin id) (v :: us)) (EP X pins σ Q) X.xe s

/-! ### lists of values -/
theorem Vals.one : ∀ {x : V} {us : List Value}, Vals [x] us → ∃ u, us = [u] ∧ RelV x u
  | _, _, .cons r .nil => ⟨_, rfl, r⟩
theorem Vals.two : ∀ {x y : V} {us : List Value}, Vals [x, y] us → ∃ u v, us = [u, v] ∧ RelV x u ∧ RelV y v
  | _, _, _, .cons r (.cons q .nil) => ⟨_, _, rfl, r, q⟩
theorem Vals.zero : ∀ {us : List Value}, Vals [] us → us = []
  | _, .nil => rfl
theorem Vals.dropLast {xs : List V} {us : List Value} (h : Vals xs us) : Vals xs.dropLast us.dropLast := by
  induction h with
  | nil => exact .nil
  | cons r t ih =>
    cases t with
    | nil => exact .nil
    | cons q t' => exact .cons r ih
theorem Vals.reverse {xs : List V} {us : List Value} (h : Vals xs us) : Vals xs.reverse us.reverse := by
  induction h with
  | nil => exact .nil
  | cons r t ih => rw [List.reverse_cons, List.reverse_cons]; exact Vals.append ih (.cons r .nil)
section
variable {X : Cx} {pins : List (Addr × Obj)} {σ : St} {H : Hp} {s : Shared} {l b : Addr} {xs ys zs : List V}

/-! ### the two steps: a tracked list is rewritten, a new list is laid -/
theorem Inv.lset {its its' : List Value} {n : Nat} {f : Array Value → Array Value} {t' : Nat} (I : Inv X pins σ H s) (hH : H l = some (.lst xs))
    (e : s.heap.get? l = some { cls := .type "list", data := .seq its.toArray n }) (hf : f its.toArray = its'.toArray) (hv : Vals ys its') (hz : ys.length ≤ sizeLine) :
    Inv X pins σ (upd H l (.lst ys)) { s with heap := s.heap.update l (Obj.mapSeq f), toks := t' } := by
  have q := PySem.IsL.update e f
  rw [hf] at q
  refine I.write (x := l) (e := l) (by rw [hH]; exact trivial) (.inl rfl) (fun b' u hb hu => (Heap.get?_update_other s.heap (Obj.mapSeq f) (Ne.symm hb)).trans hu) ⟨_, q⟩ ?_
  exact ⟨hz, its', _, hv, q⟩
theorem Inv.lnew {its : List Value} {t' : Nat} (I : Inv X pins σ H s) (hv : Vals ys its) (hz : ys.length ≤ sizeLine) :
    Inv X pins σ (upd H s.heap.objs.size (.lst ys)) { s with heap := s.heap.push { cls := .type "list", data := .seq its.toArray }, toks := t' } :=
  I.laid (fun _ _ q => Heap.get?_push_of_some _ q) (Nat.le_refl _) ⟨hz, its, 0, hv, Heap.get?_push_size _ rfl⟩
theorem Inv.fresh (I : Inv X pins σ H s) : H s.heap.objs.size = none := I.hok.fresh (Nat.le_refl _)
theorem Inv.lstM (I : Inv X pins σ H s) (hH : H l = some (.lst xs)) : xs.length ≤ sizeLine ∧ ∃ (its : List Value) (n : Nat), Vals xs its ∧ xs.length = its.length ∧ s.heap.get? l = some { cls := .type "list", data := .seq its.toArray n } := by
  obtain ⟨z, its, n, r, e⟩ := I.hok l _ hH
  exact ⟨z, its, n, r, r.length, e⟩

end

section
variable {X : Cx}

/-! ### methods -/
def rAppend : V → List V → Hp → VK → Prop := fun x vs H Q => ∃ l xs y, x = .ref l ∧ vs = [y] ∧ H l = some (.lst xs) ∧ xs.length < sizeLine ∧ Q .non (upd H l (.lst (xs ++ [y])))
theorem mt_append : MtM X "list.append" rAppend := by
  intro pins s σ H x vs v us Q I rx rv h
  obtain ⟨l, xs, y, rfl, rfl, hH, hz, q⟩ := h
  cases rx
  obtain ⟨u, rfl, ru⟩ := rv.one
  obtain ⟨z, its, n, r, hl, e⟩ := I.lstM hH
  refine call_meets F.slot_list_append ⟨_, e, rfl⟩ F.entry_list_append (F.args_list_append_2 _ _) (PySem.list_append l its.toArray n u (by rw [List.size_toArray]; omega)) ⟨e, ?_⟩
  refine ⟨.non, _, I.lset (its' := its ++ [u]) hH e (by simp) (r.append (.cons ru .nil)) ?_, rfl, q⟩
  rw [List.length_append, List.length_singleton]
  omega

def rClear : V → List V → Hp → VK → Prop := fun x vs H Q => ∃ l xs, x = .ref l ∧ vs = [] ∧ H l = some (.lst xs) ∧ Q .non (upd H l (.lst []))
theorem mt_clear : MtM X "list.clear" rClear := by
  intro pins s σ H x vs v us Q I rx rv h
  obtain ⟨l, xs, rfl, rfl, hH, q⟩ := h
  cases rx
  have hus := rv.zero
  subst hus
  obtain ⟨z, its, n, r, hl, e⟩ := I.lstM hH
  refine call_meets F.slot_list_clear ⟨_, e, rfl⟩ F.entry_list_clear (F.args_list_clear_1 _) (AutoSeq1.list_clear_list_0 l its.toArray n (by rw [List.size_toArray]; omega)) ⟨e, ?_⟩
  exact ⟨.non, _, I.lset (its' := []) (ys := []) hH e rfl .nil (Nat.zero_le _), rfl, q⟩

/-! ### list + list, list += list, list * int -/
def rCat : R2 := fun x y H Q => ∃ l b xs zs, x = .ref l ∧ y = .ref b ∧ H l = some (.lst xs) ∧ H b = some (.lst zs) ∧ xs.length + zs.length ≤ sizeLine ∧ ∀ p, H p = none → Q (.ref p) (upd H p (.lst (xs ++ zs)))
theorem op_cat : OpR X (binaryOp .Add) rCat := by
  intro pins s σ H x y v u Q I rx ry h
  obtain ⟨l, b, xs, zs, rfl, rfl, hH, hB, hz, q⟩ := h
  cases rx
  cases ry
  obtain ⟨z, its, n, r, hl, e⟩ := I.lstM hH
  obtain ⟨z2, its2, n2, r2, hl2, e2⟩ := I.lstM hB
  refine PySem.P.add_list e e2 ?_ (by rw [List.size_toArray, List.size_toArray]; omega)
  have ea : its.toArray ++ its2.toArray = (its ++ its2).toArray := by simp
  rw [ea]
  exact ⟨.ref _, _, I.lnew (t' := s.toks) (r.append r2) (by rw [List.length_append]; omega), rfl, q _ I.fresh⟩
/-! ### del xs[i] -/
end

/-! ### xs[a:b] = ys -/
section
variable {prog : Program} {w : World} {A : Around} {E : Value → Shared → Prop} {s : Shared}
end

section
variable {X : Cx}
end
end L2

namespace L2
open PySem PySem.Spec PyProof.Rows

/-! ### lists of pairs as tables -/
section
variable {κ : Type} [DecidableEq κ]
def valV (kvs : List (κ × V)) (k : κ) : Option V := (kvs.find? fun kv => decide (kv.1 = k)).map (·.2)
/-- in its place, or at the end -/
def putK (kvs : List (κ × V)) (k : κ) (v : V) : List (κ × V) :=
  if (kvs.any fun kv => decide (kv.1 = k)) = true then kvs.map (fun kv => if kv.1 = k then (kv.1, v) else kv) else kvs ++ [(k, v)]
def dropK (kvs : List (κ × V)) (k : κ) : List (κ × V) := kvs.filter fun kv => decide (kv.1 ≠ k)

theorem valV_pos {p : κ × V} {r : List (κ × V)} {k : κ} (e : p.1 = k) : valV (p :: r) k = some p.2 := by simp [valV, List.find?_cons, e]
theorem valV_neg {p : κ × V} {r : List (κ × V)} {k : κ} (e : ¬ p.1 = k) : valV (p :: r) k = valV r k := by simp [valV, List.find?_cons, e]
theorem valV_any (k : κ) : ∀ kvs : List (κ × V), (kvs.any fun kv => decide (kv.1 = k)) = (valV kvs k).isSome
  | [] => rfl
  | p :: r => by
    rw [List.any_cons]
    by_cases e : p.1 = k
    · simp only [valV_pos e, decide_eq_true e, Bool.true_or, Option.isSome_some]
    · rw [valV_neg e, decide_eq_false e, Bool.false_or]; exact valV_any k r
theorem length_putK (kvs : List (κ × V)) (k : κ) (v : V) : (putK kvs k v).length ≤ kvs.length + 1 := by
  unfold putK
  split
  · rw [List.length_map]; omega
  · rw [List.length_append, List.length_cons, List.length_nil]; omega
theorem RelO.isSome_eq {o : Option V} {u : Option Value} (r : RelO o u) : o.isSome = u.isSome := by
  cases o with
  | none => cases u with
    | none => rfl
    | some _ => exact (show False from r).elim
  | some _ => cases u with
    | none => exact (show False from r).elim
    | some _ => rfl
theorem RelO.getD {o : Option V} {u : Option Value} {d : V} {d' : Value} (r : RelO o u) (rd : RelV d d') : RelV (o.getD d) (u.getD d') := by
  cases o with
  | none => cases u with
    | none => exact rd
    | some _ => exact (show False from r).elim
  | some _ => cases u with
    | none => exact (show False from r).elim
    | some _ => exact r

/-- raw tables of the same keys -/
theorem KV.val {kvs : List (κ × V)} {vs : List (κ × Value)} (r : KV kvs vs) (k : κ) : RelO (valV kvs k) (valueAt vs k) := by
  unfold KV at r
  induction r with
  | nil => exact True.intro
  | @cons p q ps qs h t ih =>
    obtain ⟨h1, h2⟩ := h
    by_cases e : p.1 = k
    · have e' : q.1 = k := h1.symm.trans e
      have b : valueAt (q :: qs) k = some q.2 := by simp [valueAt, List.find?_cons, e']
      rw [valV_pos e, b]; exact h2
    · have e' : ¬ q.1 = k := fun z => e (h1.trans z)
      have b : valueAt (q :: qs) k = valueAt qs k := by simp [valueAt, List.find?_cons, e']
      rw [valV_neg e, b]; exact ih
theorem KV.any {kvs : List (κ × V)} {vs : List (κ × Value)} (r : KV kvs vs) (k : κ) : (kvs.any fun kv => decide (kv.1 = k)) = vs.any fun kv => decide (kv.1 = k) := by
  unfold KV at r
  induction r with
  | nil => rfl
  | cons h t ih => rw [List.any_cons, List.any_cons, ih, h.1]
theorem KV.repl {kvs : List (κ × V)} {vs : List (κ × Value)} (r : KV kvs vs) (k : κ) {y : V} {u : Value} (ry : RelV y u) :
    KV (kvs.map fun kv => if kv.1 = k then (kv.1, y) else kv) (vs.map fun kv => if kv.1 = k then (kv.1, u) else kv) := by
  unfold KV at r ⊢
  induction r with
  | nil => exact .nil
  | @cons p q ps qs h t ih =>
    rw [List.map_cons, List.map_cons]
    refine .cons ?_ ih
    obtain ⟨h1, h2⟩ := h
    by_cases e : p.1 = k
    · rw [if_pos e, if_pos (h1.symm.trans e)]; exact ⟨h1, ry⟩
    · rw [if_neg e, if_neg (fun z => e (h1.trans z))]; exact ⟨h1, h2⟩
theorem KV.put {kvs : List (κ × V)} {vs : List (κ × Value)} (r : KV kvs vs) (k : κ) {y : V} {u : Value} (ry : RelV y u) : KV (putK kvs k y) (stored vs k u) := by
  unfold putK stored
  rw [r.any k]
  by_cases e : (vs.any fun kv => decide (kv.1 = k)) = true
  · rw [if_pos e, if_pos e]; exact r.repl k ry
  · rw [if_neg e, if_neg e]; exact Paired.snoc r ⟨rfl, ry⟩
theorem KV.drop {kvs : List (κ × V)} {vs : List (κ × Value)} (r : KV kvs vs) (k : κ) : KV (dropK kvs k) (without vs k) := by
  unfold KV at r ⊢
  unfold dropK without
  induction r with
  | nil => exact .nil
  | @cons p q ps qs h t ih =>
    obtain ⟨h1, h2⟩ := h
    rw [List.filter_cons, List.filter_cons]
    by_cases e : p.1 = k
    · have a : ¬ decide (p.1 ≠ k) = true := by simp [e]
      have b : ¬ decide (q.1 ≠ k) = true := by simp [h1.symm.trans e]
      rw [if_neg a, if_neg b]; exact ih
    · have e' : ¬ q.1 = k := fun z => e (h1.trans z)
      have a : decide (p.1 ≠ k) = true := by simp [e]
      have b : decide (q.1 ≠ k) = true := by simp [e']
      rw [if_pos a, if_pos b]; exact .cons ⟨h1, h2⟩ ih
theorem KV.keys {kvs : List (κ × V)} {vs : List (κ × Value)} (r : KV kvs vs) : kvs.map (·.1) = vs.map (·.1) := by
  unfold KV at r
  induction r with
  | nil => rfl
  | cons h t ih => rw [List.map_cons, List.map_cons, ih, h.1]
theorem KV.length {kvs : List (κ × V)} {vs : List (κ × Value)} (r : KV kvs vs) : kvs.length = vs.length := Paired.length r
end


/-! ### a tracked dict, its keys ints and texts or tuples of these -/
theorem kV_is {P : Program} {w : World} {k : Key} {u : Value} (r : RelV (kV k) u) : (mixKind P w).is k u = true := by
  cases k with
  | inl i => obtain ⟨t, e⟩ := (show ∃ t, u = Value.int i t from r); subst e; exact mixKind_int P w i t
  | inr x => obtain ⟨t, e⟩ := (show ∃ t, u = Value.str x t from r); subst e; exact mixKind_str P w x t
theorem items_are {P : Program} {w : World} : ∀ {ks : List Key} {us : List Value}, Vals (ks.map kV) us → ItemsAre (mixKind P w) ks us
  | [], _, r => by rw [List.map_nil] at r; cases r; exact .nil
  | k :: ks, _, r => by
    rw [List.map_cons] at r
    cases r with
    | cons h t => exact .cons (kV_is h) (items_are t)

/-- raw entries of a dict with tuple keys -/
abbrev KT (H : Hp) : List (List Key × V) → List (List Key × Addr × Value) → Prop := Paired fun p q => p.1 = q.1 ∧ H q.2.1 = some (.tup (p.1.map kV)) ∧ RelV p.2 q.2.2
theorem KT.val {H : Hp} {kvs : List (List Key × V)} {xs : List (List Key × Addr × Value)} (r : KT H kvs xs) (k : List Key) : RelO (valV kvs k) ((atKey xs k).map (·.2)) := by
  induction r with
  | nil => exact True.intro
  | @cons p q ps qs h t ih =>
    obtain ⟨h1, _, h2⟩ := h
    by_cases e : p.1 = k
    · have e' : q.1 = k := h1.symm.trans e
      have b : atKey (q :: qs) k = some q.2 := by simp [atKey, List.find?_cons, e']
      rw [valV_pos e, b]; exact h2
    · have e' : ¬ q.1 = k := fun z => e (h1.trans z)
      have b : atKey (q :: qs) k = atKey qs k := by simp [atKey, List.find?_cons, e']
      rw [valV_neg e, b]; exact ih
theorem KT.repl {H : Hp} {kvs : List (List Key × V)} {xs : List (List Key × Addr × Value)} (r : KT H kvs xs) (k : List Key) {y : V} {u : Value} (ry : RelV y u) :
    KT H (kvs.map fun kv => if kv.1 = k then (kv.1, y) else kv) (xs.map (putAt k u)) := by
  induction r with
  | nil => exact .nil
  | @cons p q ps qs h t ih =>
    rw [List.map_cons, List.map_cons]
    refine .cons ?_ ih
    obtain ⟨h1, h2, h3⟩ := h
    unfold putAt
    by_cases e : p.1 = k
    · rw [if_pos e, if_pos (h1.symm.trans e)]; exact ⟨h1, h2, ry⟩
    · rw [if_neg e, if_neg (fun z => e (h1.trans z))]; exact ⟨h1, h2, h3⟩
theorem KT.put {H : Hp} {kvs : List (List Key × V)} {xs : List (List Key × Addr × Value)} (r : KT H kvs xs) (k : List Key) {b : Addr} {y : V} {u : Value} (hb : H b = some (.tup (k.map kV))) (ry : RelV y u) :
    KT H (putK kvs k y) (storedH xs k b u) := by
  have e : (kvs.any fun kv => decide (kv.1 = k)) = (atKey xs k).isSome := by
    rw [valV_any, (r.val k).isSome_eq, Option.isSome_map]
  unfold putK storedH
  rw [e]
  by_cases q : (atKey xs k).isSome = true
  · rw [if_pos q, if_pos q]; exact r.repl k ry
  · rw [if_neg q, if_neg q]; exact Paired.snoc r ⟨rfl, hb, ry⟩
theorem KT.keeps {H H' : Hp} {kvs : List (List Key × V)} {xs : List (List Key × Addr × Value)} (r : KT H kvs xs) (ht : ∀ b ys, H b = some (.tup ys) → H' b = some (.tup ys)) : KT H' kvs xs :=
  Paired.mapP r fun _ _ z => ⟨z.1, ht _ _ z.2.1, z.2.2⟩

section
variable {P : Program} {w : World} {H : Hp} {h : Heap} {a : Addr}
theorem rd_of {u : HO} (ok : HOk P w H h) (e : Rd H a u) : ObjOk P w H h a u := e.ok ok
theorem dk_rd {kvs : List (Key × V)} (ok : HOk P w H h) (e : Rd H a (.dK kvs)) : kvs.length ≤ sizeLine ∧ (a == sysModules) = false ∧ ∃ vs, KV kvs vs ∧ h.DictOf (mixKind P w) a vs :=
  show ObjOk P w H h a (.dK kvs) from rd_of ok e
theorem dk_of {kvs : List (Key × V)} (ok : HOk P w H h) (e : H a = some (.dK kvs)) : kvs.length ≤ sizeLine ∧ (a == sysModules) = false ∧ ∃ vs, KV kvs vs ∧ h.DictOf (mixKind P w) a vs := dk_rd ok (.inl e)
/-- a tracked tuple of ints and texts is a key -/
theorem key_of {ks : List Key} (ok : HOk P w H h) (e : H a = some (.tup (ks.map kV))) : (tupleKind (mixKind P w)).is h ks a := by
  obtain ⟨_, its, r, o, h1, h2, n, h3⟩ := (show ObjOk P w H h a (.tup (ks.map kV)) from ok a _ e)
  exact ⟨o, its.toArray, n, h1, h2, h3, by simpa using items_are r⟩
theorem dt_rd {kvs : List (List Key × V)} (ok : HOk P w H h) (e : Rd H a (.dT kvs)) : kvs.length ≤ sizeLine ∧ (a == sysModules) = false ∧
    ∃ xs, KT H kvs xs ∧ h.DictOfH (tupleKind (mixKind P w)) a xs := by
  obtain ⟨z, y, xs, r, o, es, ep, h1, h2, h3, h4, h5⟩ := (show ObjOk P w H h a (.dT kvs) from rd_of ok e)
  refine ⟨z, y, xs, r, o, es, ep, h1, h2, h3, h4, fun x hx => ?_, h5⟩
  have all : ∀ {l : List (List Key × V)} {m : List (List Key × Addr × Value)}, KT H l m → ∀ x ∈ m, (tupleKind (mixKind P w)).is h x.1 x.2.1 := by
    intro l m q
    induction q with
    | nil => intro x hx; exact nomatch hx
    | @cons p q ps qs hq t ih =>
      intro x hx
      rcases List.mem_cons.mp hx with e | hx
      · subst e
        exact key_of ok (by rw [← hq.1]; exact hq.2.1)
      · exact ih x hx
  exact all r x hx
end

/-- what the dict at a holds at the key y -/
def DGet (H : Hp) (a : Addr) (y : V) (r : Option V) : Prop :=
  (∃ kvs k, Rd H a (.dK kvs) ∧ y = kV k ∧ r = valV kvs k) ∨ ∃ kvs k b, Rd H a (.dT kvs) ∧ y = .ref b ∧ H b = some (.tup (k.map kV)) ∧ r = valV kvs k
/-- the heap behind a[y] = v -/
def DPut (H : Hp) (a : Addr) (y v : V) (H' : Hp) : Prop :=
  (∃ kvs k, H a = some (.dK kvs) ∧ y = kV k ∧ kvs.length < sizeLine ∧ H' = upd H a (.dK (putK kvs k v))) ∨
  ∃ kvs k b, H a = some (.dT kvs) ∧ y = .ref b ∧ H b = some (.tup (k.map kV)) ∧ kvs.length < sizeLine ∧ H' = upd H a (.dT (putK kvs k v))
theorem DGet.k {H : Hp} {a : Addr} {kvs : List (Key × V)} {k : Key} (e : H a = some (.dK kvs)) : DGet H a (kV k) (valV kvs k) := .inl ⟨kvs, k, .inl e, rfl, rfl⟩
theorem DGet.t {H : Hp} {a b : Addr} {kvs : List (List Key × V)} {k : List Key} (e : H a = some (.dT kvs)) (eb : H b = some (.tup (k.map kV))) : DGet H a (.ref b) (valV kvs k) := .inr ⟨kvs, k, b, .inl e, rfl, eb, rfl⟩
theorem DPut.k {H : Hp} {a : Addr} {kvs : List (Key × V)} {k : Key} {v : V} (e : H a = some (.dK kvs)) (hl : kvs.length < sizeLine) : DPut H a (kV k) v (upd H a (.dK (putK kvs k v))) := .inl ⟨kvs, k, e, rfl, hl, rfl⟩
theorem DPut.t {H : Hp} {a b : Addr} {kvs : List (List Key × V)} {k : List Key} {v : V} (e : H a = some (.dT kvs)) (eb : H b = some (.tup (k.map kV))) (hl : kvs.length < sizeLine) :
    DPut H a (.ref b) v (upd H a (.dT (putK kvs k v))) := .inr ⟨kvs, k, b, e, rfl, eb, hl, rfl⟩


section
variable {X : Cx} {pins : List (Addr × Obj)} {σ : St} {H : Hp} {s : Shared} {a : Addr} {y v : V} {u r : Value} {o : Option V} {A : Around} {E : Value → Shared → Prop}

theorem Inv.big (I : Inv X pins σ H s) : sysModules < s.heap.objs.size := by
  have h : mainGlobals < s.heap.objs.size := (I.mod.glob.keeps I.bk).lt
  exact Nat.lt_trans (by decide) h

/-- a dict's object is replaced -/
theorem d_write {h' : Heap} {t' : Nat} {ob : HO} (I : Inv X pins σ H s) (mu : Mut (H a)) (hs : Heap.SameBut a s.heap h') (he : ∃ q, h'.get? a = some q) (new : ObjOk X.prog X.w (upd H a ob) h' a ob) :
    Inv X pins σ (upd H a ob) { s with heap := h', toks := t' } :=
  I.write (x := a) (e := a) mu (.inl rfl) (fun b q hb z => (hs.2 b hb).trans z) he new
theorem dk_new {P : Program} {w : World} {H' : Hp} {h' : Heap} {kvs : List (Key × V)} {vs : List (Key × Value)} (z : kvs.length ≤ sizeLine) (hd : (a == sysModules) = false) (rel : KV kvs vs) (dd : h'.DictOf (mixKind P w) a vs) :
    ObjOk P w H' h' a (.dK kvs) := ⟨z, hd, vs, rel, dd⟩
end

section
variable {X : Cx} {pins : List (Addr × Obj)} {σ : St} {H : Hp} {s : Shared} {a : Addr} {kvs : List (Key × V)} {k : Key} {u : Value} {A : Around} {E : Value → Shared → Prop}
/-- len(d) -/
theorem d_len {Q : Value → Shared → Prop} (I : Inv X pins σ H s) (e : Rd H a (.dK kvs)) (h : ∀ t s', Inv X pins σ H s' → Q (.int kvs.length t) s') : wpAny (model X.prog X.w) A (call (.builtin "len") [.ref a]) Q E s := by
  obtain ⟨z, hd, vs, rel, dd⟩ := dk_rd I.hok e
  refine call_len_dict hd dd (by rw [← rel.length]; rw [sizeLine_eq] at z; omega) ?_
  rw [← rel.length]
  exact h _ _ (I.tok _)
end


/-! ### readings and rules -/
/-- d[y] -/
def tDGet (td ty : TE) : TE := fun σ H Q => td σ H fun x H1 => ty σ H1 fun y H2 => ∃ a v, x = .ref a ∧ DGet H2 a y (some v) ∧ Q v H2
/-- y in d, y not in d -/
def tDIn (ty td : TE) : TE := fun σ H Q => ty σ H fun y H1 => td σ H1 fun x H2 => ∃ a o, x = .ref a ∧ DGet H2 a y o ∧ Q (.bl o.isSome) H2
def tDNotIn (ty td : TE) : TE := fun σ H Q => ty σ H fun y H1 => td σ H1 fun x H2 => ∃ a o, x = .ref a ∧ DGet H2 a y o ∧ Q (.bl (!o.isSome)) H2
/-- d[y] = v -/
def sDPut (td ty tv : TE) : TS := fun D σ H => tv σ H fun v H1 => td σ H1 fun x H2 => ty σ H2 fun y H3 => ∃ a H4, x = .ref a ∧ DPut H3 a y v H4 ∧ D.nx σ H4
section
variable {X : Cx} {o i e value : Expr} {pos pos' tpos : Pos} {td ty tv : TE}
end


/-! ### displays -/
theorem dk_empty {P : Program} {w : World} {H : Hp} (h : Heap) (hb : sysModules < h.objs.size) : ObjOk P w H (h.push { cls := .type "dict", data := .dict #[] }) h.objs.size (.dK []) :=
  ⟨Nat.zero_le _, beq_eq_false_iff_ne.mpr (Ne.symm (Nat.ne_of_lt hb)), [], .nil, Heap.DictOf.new h⟩
/-- {}, to be a dict of the kind that is wanted -/
def tDNewK : TE := fun _ H Q => ∀ p, H p = none → Q (.ref p) (upd H p (.dK []))
def tDNewT : TE := fun _ H Q => ∀ p, H p = none → Q (.ref p) (upd H p (.dT []))
section
variable {X : Cx} {pos : Pos}
end

/-- the pairs of a display, from the left -/
def tPairs : List (TE × TE) → St → Hp → (List (V × V) → Hp → Prop) → Prop
  | [], _, H, Q => Q [] H
  | (tk, tv) :: r, σ, H, Q => tk σ H fun x H1 => tv σ H1 fun y H2 => tPairs r σ H2 fun ps H3 => Q ((x, y) :: ps) H3
abbrev VV : List (V × V) → List (Value × Value) → Prop := Paired fun p q => RelV p.1 q.1 ∧ RelV p.2 q.2
def PPs (X : Cx) (pos : Pos) (keys : List (Option Expr)) (values : List Expr) (trs : List (TE × TE)) : Prop :=
  ∀ (pins : List (Addr × Obj)) (s : Shared) (σ : St) (H : Hp) (Q : List (V × V) → Hp → Prop), Inv X pins σ H s → tPairs trs σ H Q →
    wpAny (model X.prog X.w) X.A (evalPairs (pairTrees keys values X.env pos)) (fun vs s' => ∃ ps H', Inv X pins σ H' s' ∧ VV ps vs ∧ Q ps H') X.xe s
theorem pps_nil {X : Cx} {pos : Pos} : PPs X pos [] [] [] := fun pins s σ H Q I h => pairTrees_nil_walk ⟨[], H, I, .nil, h⟩
theorem pps_cons {X : Cx} {pos : Pos} {k v : Expr} {ks : List (Option Expr)} {vs : List Expr} {tk tv : TE} {trs : List (TE × TE)} (hk : PE X k tk) (hv : PE X v tv) (hr : PPs X pos ks vs trs) :
    PPs X pos (some k :: ks) (v :: vs) ((tk, tv) :: trs) := fun pins s σ H Q I h =>
  pairTrees_cons_walk (thn (hk pins s σ H _ I h) fun u s1 ⟨x, H1, I1, rx, q1⟩ => thn (hv pins s1 σ H1 _ I1 q1) fun w2 s2 ⟨y, H2, I2, ry, q2⟩ =>
    thn (hr pins s2 σ H2 _ I2 q2) fun ws s3 ⟨ps, H3, I3, rel, q3⟩ => ⟨(x, y) :: ps, H3, I3, .cons ⟨rx, ry⟩ rel, q3⟩)

def mergeK (kvs more : List (Key × V)) : List (Key × V) := more.foldl (fun acc kv => putK acc kv.1 kv.2) kvs
theorem KV.merge : ∀ {more : List (Key × V)} {rs : List (Key × Value)} {kvs : List (Key × V)} {vs : List (Key × Value)}, KV more rs → KV kvs vs → KV (mergeK kvs more) (merged vs rs) := by
  intro more rs kvs vs r
  unfold KV at r
  induction r generalizing kvs vs with
  | nil => intro q; exact q
  | @cons p q ps qs h t ih =>
    intro r0
    have e : KV (putK kvs p.1 p.2) (stored vs q.1 q.2) := by
      have := r0.put p.1 h.2
      rw [← h.1]; exact this
    exact ih e
theorem length_mergeK : ∀ (more kvs : List (Key × V)), (mergeK kvs more).length ≤ kvs.length + more.length
  | [], kvs => by show kvs.length ≤ kvs.length + 0; omega
  | p :: r, kvs => by
    have h1 := length_mergeK r (putK kvs p.1 p.2)
    have h2 := length_putK kvs p.1 p.2
    show (mergeK (putK kvs p.1 p.2) r).length ≤ _
    rw [List.length_cons]; omega
theorem carries_of {P : Program} {w : World} : ∀ {kvs : List (Key × V)} {ws : List (Value × Value)}, VV (kvs.map fun kv => (kV kv.1, kv.2)) ws → ∃ rs, Carries (mixKind P w) ws rs ∧ KV kvs rs
  | [], _, r => by rw [List.map_nil] at r; cases r; exact ⟨[], True.intro, .nil⟩
  | p :: kvs, _, r => by
    rw [List.map_cons] at r
    cases r with
    | @cons a b as bs h t =>
      obtain ⟨rs, c, q⟩ := carries_of (P := P) (w := w) t
      obtain ⟨b1, b2⟩ := b
      exact ⟨(p.1, b2) :: rs, ⟨kV_is h.1, rfl, c⟩, .cons ⟨rfl, h.2⟩ q⟩
/-- {k: v, ..} with keys ints and texts; the new dict stands empty while the pairs are made -/
def tDisp (trs : List (TE × TE)) : TE := fun σ H Q => ∀ p, H p = none → tPairs trs σ (upd H p (.dK [])) fun ps H2 => H2 p = some (.dK []) ∧ ∃ kvs : List (Key × V), ps = kvs.map (fun kv => (kV kv.1, kv.2)) ∧ kvs.length ≤ 15 ∧ Q (.ref p) (upd H2 p (.dK (mergeK [] kvs)))
theorem pe_disp {X : Cx} {pos : Pos} {keys : List (Option Expr)} {values : List Expr} {trs : List (TE × TE)} (h : PPs X pos keys values trs) (hall : keys.all (·.isSome) = true) (hl : keys.length = values.length) (h0 : keys ≠ [])
    (h15 : keys.length ≤ 15) : PE X (.Dict keys values pos) (tDisp trs) := by
  intro pins s σ H Q I q
  have hn := I.hok.fresh (Nat.le_refl s.heap.objs.size)
  have I1 := I.laid (a := s.heap.objs.size) (o := .dK []) (h' := s.heap.push { cls := .type "dict", data := .dict #[] }) (t' := s.toks) (fun _ _ q => Heap.get?_push_of_some _ q) (Nat.le_refl _) (dk_empty s.heap I.big)
  refine wpAny_Dict_walk (knd := mixKind X.prog X.w) hall hl h0 h15 (thn (h pins _ σ _ _ I1 (q _ hn)) fun ws s2 ⟨ps, H2, I2, rel, e, kvs, ep, lk, q2⟩ => ?_)
  subst ep
  obtain ⟨rs, c, rk⟩ := carries_of (P := X.prog) (w := X.w) rel
  obtain ⟨z, hd, vs0, r0, dd⟩ := dk_of I2.hok e
  cases r0
  refine ⟨rs, c, dd, fun h' dd' hs => ⟨.ref s.heap.objs.size, _, ?_, rfl, q2⟩⟩
  have hz : (mergeK [] kvs).length ≤ sizeLine := by
    have h1 := length_mergeK kvs []
    rw [List.length_nil] at h1
    rw [sizeLine_eq]; omega
  have he : ∃ q, h'.get? s.heap.objs.size = some q := let ⟨q, _, _, hq, _⟩ := dd'; ⟨q, hq⟩
  exact d_write I2 (by rw [e]; exact True.intro) hs he (dk_new hz hd (rk.merge .nil) dd')


/-! ### methods -/
/-- a method call o.m(e) of a built-in, with one argument: what must be seen of the text -/
structure M1 (X : Cx) (o : Expr) (m : Str) (apos : Pos) (e : Expr) (cpos : Pos) : Prop where
  base : attributeBase o m X.env (eval o X.env) = eval o X.env
  few : ((backTo cpos (starEach [e] X.env)).all (fun x => !x.1) && (backToKw cpos (keywordEach [] X.env)).all (fun x => x.1.isSome)
    && decide (([e] : List Expr).length + ([] : List Keyword).length + (if ([] : List Keyword).isEmpty then 0 else 1) < 30)) = true
  line : (apos.endLine == cpos.line) = true
  trees : backTo cpos (starEach [e] X.env) = [(false, eval e X.env)]
structure M2 (X : Cx) (o : Expr) (m : Str) (apos : Pos) (e f : Expr) (cpos : Pos) : Prop where
  base : attributeBase o m X.env (eval o X.env) = eval o X.env
  few : ((backTo cpos (starEach [e, f] X.env)).all (fun x => !x.1) && (backToKw cpos (keywordEach [] X.env)).all (fun x => x.1.isSome)
    && decide (([e, f] : List Expr).length + ([] : List Keyword).length + (if ([] : List Keyword).isEmpty then 0 else 1) < 30)) = true
  line : (apos.endLine == cpos.line) = true
  trees : backTo cpos (starEach [e, f] X.env) = [(false, eval e X.env), (false, eval f X.env)]

/-- a is a dict, whatever its keys -/
def IsD (H : Hp) (a : Addr) : Prop := (∃ kvs, Rd H a (.dK kvs)) ∨ ∃ kvs, Rd H a (.dT kvs)
theorem isD_at {X : Cx} {pins : List (Addr × Obj)} {σ : St} {H : Hp} {s : Shared} {a : Addr} (I : Inv X pins σ H s) (d : IsD H a) :
    s.TypeIs (.ref a) "dict" ∧ (∀ b, Value.ref a = .ref b → ∃ ob, s.heap.get? b = some ob ∧ ob.dict = none) ∧ (a == sysModules) = false := by
  rcases d with ⟨kvs, e⟩ | ⟨kvs, e⟩
  · obtain ⟨_, hd, vs, _, dd⟩ := dk_rd I.hok e
    refine ⟨dd.typeIs, fun b q => ?_, hd⟩
    cases q
    obtain ⟨ob, _, _, h1, h2, _⟩ := dd
    exact ⟨ob, h1, h2.2.1⟩
  · obtain ⟨_, hd, xs, _, dd⟩ := dt_rd I.hok e
    refine ⟨dd.typeIs, fun b q => ?_, hd⟩
    cases q
    obtain ⟨ob, _, _, h1, h2, _⟩ := dd
    exact ⟨ob, h1, h2.2.1⟩

section
variable {X : Cx} {pins : List (Addr × Obj)} {σ : St} {H : Hp} {s : Shared} {a : Addr} {y d : V} {u r : Value} {o : Option V} {A : Around} {E : Value → Shared → Prop}
/-- d.get(y, x) -/
theorem d_get2 {Q : Value → Shared → Prop} (hu : A.units + 1 < cLine) (I : Inv X pins σ H s) (g : DGet H a y o) (ry : RelV y u) (rd : RelV d r) (h : ∀ w' s', Inv X pins σ H s' → RelV (o.getD d) w' → Q w' s') :
    wpAny (model X.prog X.w) A (call (.builtin "dict.get") [.ref a, u, r]) Q E s := by
  rcases g with ⟨kvs, k, e, ey, l⟩ | ⟨kvs, k, b, e, ey, eb, l⟩
  · subst ey
    obtain ⟨z, hd, vs, rel, dd⟩ := dk_rd I.hok e
    refine call_meetsIn PySem.F.slot_dict_get dd.typeIs PySem.F.entry_dict_get (PySem.F.args_dict_get_3 _ _ _) (meets_dict_get_default (mixKind X.prog X.w) a (kV_is ry) hd r) ⟨_, dd.mapOf, h _ _ (I.tok _) ?_⟩
    rw [l]
    exact (rel.val k).getD rd
  · subst ey
    cases (show u = Value.ref b from ry)
    obtain ⟨z, hd, xs, rel, dd⟩ := dt_rd I.hok e
    refine call_meetsIn PySem.F.slot_dict_get dd.typeIs PySem.F.entry_dict_get (PySem.F.args_dict_get_3 _ _ _) (meetsH_dict_get_default (tupleKind (mixKind X.prog X.w)) a b hd r) ⟨tupleKind_room_in1 hu, k, xs, key_of I.hok eb, dd, h _ _ (I.tok _) ?_⟩
    rw [l]
    exact (rel.val k).getD rd
end

def tDGet2 (td ty tx : TE) : TE := fun σ H Q => td σ H fun x H1 => ∃ a, x = .ref a ∧ IsD H1 a ∧ ty σ H1 fun y H2 => tx σ H2 fun z H3 => ∃ o, DGet H3 a y o ∧ Q (o.getD z) H3
section
variable {X : Cx} {o e f : Expr} {apos cpos : Pos} {td ty tx : TE}
theorem pe_dget2 (hu : X.A.units + 1 < cLine) (ho : PE X o td) (he : PE X e ty) (hf : PE X f tx) (m : M2 X o "get" apos e f cpos) : PE X (.Call (.Attribute o "get" apos) [e, f] [] cpos) (tDGet2 td ty tx) := by
  intro pins s σ H Q I h
  refine wpAny_Call_method m.base m.few m.line PySem.F.plainAttrs_dict PySem.F.slot_dict_get PySem.F.type_dict_get (thn (ho pins s σ H _ I h) fun u s1 ⟨x, H1, I1, rx, a, ex, d, q1⟩ => ?_)
  subst ex
  obtain rfl : u = Value.ref a := rx
  obtain ⟨t1, t2, _⟩ := isD_at I1 d
  refine ⟨t1, t2, ?_⟩
  rw [m.trees]
  refine Calls.callWith_builtin rfl (Calls.evalArgs_plain (Calls.spliced_cons (thn (he pins s1 σ H1 _ I1 q1) fun iv s2 ⟨y, H2, I2, ry, q2⟩ =>
    Calls.spliced_cons (thn (hf pins s2 σ H2 _ I2 q2) fun fv s3 ⟨z, H3, I3, rz, ov, g, q3⟩ => Calls.spliced_nil ?_))))
  exact d_get2 hu I3 g ry rz fun w' s4 I4 rw' => ⟨_, H3, I4, rw', q3⟩
end

/-! ### dict(d): a copy -/
section
variable {X : Cx} {pins : List (Addr × Obj)} {σ : St} {H : Hp} {s : Shared} {a : Addr} {kvs : List (Key × V)} {A : Around} {E : Value → Shared → Prop}
end


section
variable {X : Cx} {pins : List (Addr × Obj)} {σ : St} {H : Hp} {s : Shared} {a : Addr} {y : V} {u : Value} {A : Around} {E : Value → Shared → Prop}
end
end L2

namespace Att
open PySem PySem.W PySem.Calls PyProof.Rows

/-! ### the script -/
theorem ints_of_wellAll {P : Params} {h : Heap} : ∀ (ns : List Int) (vs : List Value), WellAll P h vs (ns.map WData.int) → IntsAre vs ns := by
  intro ns
  induction ns with
  | nil =>
    intro vs w
    rw [List.map_nil] at w
    cases w
    exact .nil
  | cons n ns ih =>
    intro vs w
    rw [List.map_cons] at w
    cases w with
    | cons a b =>
      cases a
      exact .cons _ _ (ih _ b)

theorem script_of {l : OpenLaw} {n : Nat} (hn : l.most = some n) {P : Params} {h : Heap} {args : List WData} {vals : List Value}
    (hpre : l.row.toRowW.claim.pre args = true) (hwl : WellAll P h vals args) :
    ∃ a vs ns, vals = [Value.ref a] ∧ args = [WData.list (ns.map WData.int)] ∧ h.get? a = some { cls := .type "list", data := .seq vs.toArray } ∧ IntsAre vs ns ∧ ns.length ≤ n := by
  have hsh : WShape.hasAll [] args [.list .int] = true := (pre_splitW hpre).1
  have hc : l.pre.holds [] { args := args } = true := (pre_splitW hpre).2
  obtain ⟨d, r, rfl, h1, h2⟩ := hasAllW_cons hsh
  obtain rfl := hasAllW_nil h2
  obtain ⟨xs, rfl, h3⟩ := hasW_list h1
  obtain ⟨ns, rfl⟩ := items_int h3
  have hlen : ns.length ≤ n := by
    unfold OpenLaw.pre at hc
    have h4 : (WTm.not (.lt (.lit (.int (n : Int))) (.len (.arg 0)))).holds [] { args := [.list (ns.map .int)] } = true := by
      have h4 := (holds_andW hc).1
      rw [hn] at h4
      exact h4
    have h5 := condW_of h4 (w_not (w_lt w_lit (w_len_list (w_arg rfl))))
    rw [List.length_map] at h5
    refine Nat.le_of_not_lt fun q => ?_
    have q' : (n : Int) < ((ns.length : Nat) : Int) := by omega
    first
      | (rw [decide_eq_true q'] at h5; exact absurd h5 (by decide))
      | (simp at h5; omega)
  cases hwl with
  | cons w1 w2 =>
    cases w2
    cases w1 with
    | list ho hall => exact ⟨_, _, ns, rfl, rfl, ho, ints_of_wellAll ns _ hall, hlen⟩

theorem post_true (l : OpenLaw) (args : List WData) : l.row.toRowW.claim.post args (.bool true) args = true :=
  postW_of (r := l.row.toRowW) (X := (true == true))
    (show WShape.has [] (.bool true) .bool = true by first | rfl | decide | simp [WShape.has, WShape.arms, WShape.armsAll])
    (show (WTm.eq .res (.lit (.bool true))).value [] { args := args, res := some (.bool true), after := args } = some (.bool (true == true)) from w_eq_bool (w_res rfl) w_lit) rfl

/-! ### the attachment: holds_open's last premise (the goal 'hc' behind k_head) from a wpAny of the law's body -/
/-- the same from a codeAny of the CALL (for a layer whose function contracts speak of calls) -/
theorem attach_call {l : OpenLaw} {n : Nat} {q : Program} {loose : List Str} {XP : (Str → Option Value) → Heap → Prop} {YP : World → Heap → Prop} {d : DefRec}
    (hn : l.most = some n) (hdf : d.params.defaults = [])
    (call : ∀ (w : World) (s₀ s₁ : Shared) (mg mb : Str → Option Value) (fa : Addr) (o : Obj) (pm cd doc : Value) (a : Addr) (vs : List Value) (ns : List Int),
      Ground q loose [] XP w s₀ mg mb s₁.heap → YP w s₁.heap →
      s₁.heap.get? fa = some o → o.data = .func (docDef d.name d.params d.body d.scope pm cd doc) → s₁.heap.CodeRec cd d.name → mg d.name = some (.ref fa) →
      s₁.heap.get? a = some { cls := .type "list", data := .seq vs.toArray } → IntsAre vs ns → ns.length ≤ n → s₁.gens = #[] →
      codeAny (model l.prog w) callerA (.call (.ref fa) ⟨[.ref a], []⟩) (fun r s' => r = .ok (.ret (.bool true)) ∧ OldK s₁.heap s'.heap ∧ s'.os = s₁.os ∧ AllBare s'.gens) s₁) :
    WalkO q loose XP YP l.row.toRowW d [] (fun f vs => PySem.call f vs) := by
  intro w s₀ s₁ mg mb G Y fa o pm cd doc dV kV ho hd hcd hD hmg hg args vals as hpre hlay hrd hwl hlo
  obtain rfl : dV = .none := Dflts.none hD hdf
  obtain rfl : kV = .none := Dflts.noKw hD
  obtain ⟨a, vs, ns, rfl, rfl, hobj, hints, hlen⟩ := script_of hn hpre hwl
  refine enter_call (codeAny_mono (call w s₀ s₁ mg mb fa o pm cd doc a vs ns G Y ho (fd_plain hd) hcd hmg hobj hints hlen hg) fun r s' hq => ?_)
  obtain ⟨rfl, h2, h3, h4⟩ := hq
  exact ⟨.inl ⟨.bool true, .bool true, [], rfl, fun _ => rfl, .bool true, post_true l _, fun _ => ⟨List.Pairwise.nil, fun _ hm => (nomatch hm)⟩⟩, h2, h3, h4⟩

/-! ### rules over ANY heap (no ledger) from facts about the written part K: the library's own take a ledger (News) for what they write -/
section
variable {prog : Program} {w : World} {A : Around} {E : Value → Shared → Prop} {s : Shared} {K : Frag}

/-! the whole heap as the ledger: makes every rule that writes through a ledger a rule over any heap -/
def ledger (h : Heap) (L d : Addr) : List (Addr × Obj) := (List.range h.objs.size).filterMap fun a => if a = L ∨ a = d then none else (h.get? a).map fun o => (a, o)
end
end Att

namespace L2
open PySem PySem.Spec PyProof.Rows

theorem vals_ints : ∀ {vs : List Value} {ns : List Int}, IntsAre vs ns → Vals (ns.map V.int) vs
  | _, _, .nil => .nil
  | _, _, .cons n t h => .cons ⟨t, rfl⟩ (vals_ints h)

/-- nothing is tracked but the script, known to the object (or it is an object of the module) -/
def Only (H : Hp) : Prop := ∀ b, H b = none ∨ ∃ o xs, H b = some (.frz o (.lst xs))

/-- THE HEAD: the law's promise, at the heap behind the top. F, the promise of the law's def, may use that base is part of the heap (so K.In base, base.Ns mainGlobals mg stand in Mod) -/
theorem law_call {P : Program} {w : World} {K : PySem.W.Frag} {mg mb : Str → Option Value} {CX : CXT} {k : Nat} {fa a : Addr} {fd : FuncData} {x : Str} {sp : Sp} {s₁ : Shared} {vs : List Value} {ns : List Int}
    (KX : K.In s₁.heap) (hns : s₁.heap.Ns mainGlobals mg) (hb : s₁.heap.Ns builtinsNs mb) (hbb : ∀ x : Str, x ≠ "__name__" → mb x = bootBuiltins x) (hlim : s₁.heap.NoLimit) (hg : s₁.gens = #[])
    (ha : s₁.heap.get? a = some { cls := .type "list", data := .seq vs.toArray }) (hi : IntsAre vs ns) (hl : ns.length ≤ sizeLine) (hr : Room k callerA)
    (F : ∀ base : Heap, K.In base → base.Ns mainGlobals mg → FnOk P w K mg base CX k fa fd [x] sp) (hbind : ∀ (s : Shared) (u : Value), BindsTo s fd ⟨[u], []⟩ [(x, u)])
    (hsp : ∀ H : Hp, Only H → SqL K H a (ns.map V.int) → sp [.ref a] H (fun v _ => v = .bl true) fun _ _ _ => False)
    (hCX : ∀ H e s', CX [] H s₁ (fun _ _ _ => False) e s' → False) :
    codeAny (model P w) callerA (.call (.ref fa) ⟨[.ref a], []⟩) (fun r s' => r = .ok (.ret (.bool true)) ∧ OldK s₁.heap s'.heap ∧ s'.os = s₁.os ∧ AllBare s'.gens) s₁ := by
  have rv := vals_ints hi
  have lenV := hi.length
  -- from an abstract heap in which nothing but the script may be tracked
  have core : ∀ H : Hp, Only H → SqL K H a (ns.map V.int) → HOk P w H s₁.heap → (∀ b, H b ≠ none → b = a) → (H a ≠ none → K.lookup a = none) →
      codeAny (model P w) callerA (.call (.ref fa) ⟨[.ref a], []⟩) (fun r s' => r = .ok (.ret (.bool true)) ∧ OldK s₁.heap s'.heap ∧ s'.os = s₁.os ∧ AllBare s'.gens) s₁ := by
    intro H hO hS hok hA hK
    have base_of : ∀ {b : Addr} {o : Obj}, s₁.heap.get? b = some o → H b = none → (hidT s₁.heap H).get? b = some o := fun e n => hidT_get e n
    have noA : ∀ {b : Addr} {o : Obj} {es : Array DictEntry} {ep : Nat}, s₁.heap.get? b = some o → o.data = .dict es ep → H b = none := fun {b o es ep} e d => by
      cases q : H b with
      | none => rfl
      | some u =>
        have e' : b = a := hA b (by rw [q]; simp)
        subst e'
        rw [ha] at e; cases e
        have d' : Data.seq vs.toArray _ = Data.dict es ep := d
        cases d'
    have nsK : ∀ {b : Addr} {m : Str → Option Value}, s₁.heap.Ns b m → (hidT s₁.heap H).Ns b m := fun {b m} ⟨o, es, ep, e, d, r⟩ => ⟨o, es, ep, base_of e (noA e d), d, r⟩
    have hKb : K.In (hidT s₁.heap H) := fun b o e => base_of (KX b o e) (by
      cases q : H b with
      | none => rfl
      | some u =>
        have e' : b = a := hA b (by rw [q]; simp)
        subst e'
        rw [hK (by rw [q]; simp)] at e; cases e)
    have hM : Mod K mg (hidT s₁.heap H) := ⟨hKb, nsK hns, ⟨mb, nsK hb, hbb⟩, let ⟨mc, h1, h2⟩ := hlim; ⟨mc, nsK h1, h2⟩⟩
    have e0 : Env0 P w K mg (hidT s₁.heap H) callerA [] s₁ H := ⟨rfl, hM, fun b o e => of_hidT e, Nat.le_of_eq (hidT_size _ _), trivial, fun b hb => absurd (show b ∈ ([] : List Addr) from hb) (by simp), hok, .of_eq hg⟩
    refine codeAny_mono ((F _ hKb (nsK hns)).run callerA [] s₁ H ⟨[.ref a], []⟩ [.ref a] [.ref a] _ _ hr e0 (hbind s₁ (.ref a)) (.cons rfl .nil) (hsp H hO hS)) fun r s' h => ?_
    cases r with
    | error e => exact (hCX H e s' h).elim
    | ok fl =>
      cases fl with
      | next => exact False.elim h
      | brk => exact False.elim h
      | cont => exact False.elim h
      | ret u =>
        obtain ⟨v, H', os, bare, un, hok', r', q⟩ := h
        have q' : v = .bl true := q
        subst q'
        obtain rfl : u = Value.bool true := r'
        refine ⟨rfl, OldK.of_keep fun b o e => ?_, os, bare⟩
        cases q : H b with
        | none => exact un.keep b o e q (by intro z; exact absurd (show b ∈ ([] : List Addr) from z) (by simp)) (by simp)
        | some u =>
          rcases hO b with z | ⟨ob, xs, z⟩
          · rw [q] at z; cases z
          · have z2 := un.frzs b ob _ z
            obtain ⟨e1, _⟩ := hok b _ z
            obtain ⟨e2, _⟩ := hok' b _ z2
            rw [e] at e1; cases e1
            exact e2
  cases hk : K.lookup a with
  | some o =>
    -- the script is one of the module's own objects
    have e := KX a o hk
    rw [ha] at e
    cases e
    refine core (fun _ => none) (fun _ => .inl rfl) (.inr ⟨_, vs.toArray, _, hk, rfl, rfl, rfl, by rw [List.size_toArray, lenV]; exact hl, by simpa using rv⟩) (fun b u z => by have z' : (none : Option HO) = some u := z; cases z') (fun b z => absurd rfl z) fun z => absurd rfl z
  | none =>
    refine core (fun b => if b = a then some (.frz { cls := .type "list", data := .seq vs.toArray } (.lst (ns.map V.int))) else none) (fun b => ?_) (.inl (.inr ⟨{ cls := .type "list", data := .seq vs.toArray }, if_pos rfl⟩)) (fun b u z => ?_) (fun b z => ?_) fun _ => hk
    · by_cases hb : b = a
      · exact .inr ⟨_, _, if_pos hb⟩
      · exact .inl (if_neg hb)
    · by_cases hb : b = a
      · have z' := (if_pos hb).symm.trans z
        cases z'
        subst hb
        exact ⟨ha, by rw [List.length_map]; exact hl, vs, _, rv, ha⟩
      · have z' := (if_neg hb).symm.trans z
        cases z'
    · by_cases hb : b = a
      · exact hb
      · exact absurd (if_neg hb) z
end L2

namespace L2
open PySem PySem.Spec PyProof.Rows

abbrev KOf {K : PySem.W.Frag} {h : Heap} (_ : K.In h) : PySem.W.Frag := K

/-- the goal that k_head leaves (case hc), from the law's promise. F gives the function object fd (K's own) once, then the promise over every base -/
theorem walk_of {l : PySem.W.OpenLaw} {n k : Nat} {q : Program} {loose : List Str} {XP : (Str → Option Value) → Heap → Prop} {YP : World → Heap → Prop} {d : DefRec} {K : Params → PySem.W.Frag} {CX : World → CXT} {sp : World → Sp} {x : Str}
    (hn : l.most = some n) (hn2 : n ≤ sizeLine) (hdf : d.params.defaults = []) (hr : Room k callerA)
    (hY : ∀ (w : World) (h : Heap), YP w h → (K w.params).In h)
    (F : ∀ (w : World) (mg : Str → Option Value) (fa : Addr) (h : Heap), (K w.params).In h → h.Ns mainGlobals mg → mg d.name = some (.ref fa) →
      ∃ fd : FuncData, (∀ (s : Shared) (u : Value), BindsTo s fd ⟨[u], []⟩ [(x, u)]) ∧
        ∀ base : Heap, (K w.params).In base → base.Ns mainGlobals mg → FnOk l.prog w (K w.params) mg base (CX w) k fa fd [x] (sp w))
    (hsp : ∀ (w : World) (H : Hp) (a : Addr) (ns : List Int), ns.length ≤ n → Only H → SqL (K w.params) H a (ns.map V.int) → sp w [.ref a] H (fun v _ => v = .bl true) fun _ _ _ => False)
    (hCX : ∀ (w : World) (H : Hp) (s : Shared) (e : Value) (s' : Shared), CX w [] H s (fun _ _ _ => False) e s' → False) :
    PySem.W.WalkO q loose XP YP l.row.toRowW d [] (fun f vs => PySem.call f vs) := by
  refine Att.attach_call hn hdf fun w s₀ s₁ mg mb fa o pm cd doc a vs ns G Y ho hd hcd hmg hobj hints hlen hg => ?_
  have KX := hY w _ Y
  obtain ⟨fd, hb, hF⟩ := F w mg fa _ KX G.T.g hmg
  exact law_call KX G.T.g G.T.b G.T.builtins G.T.nolimit hg hobj hints (Nat.le_trans hlen hn2) hr hF hb (fun H hO hS => hsp w H a ns hlen hO hS) fun H e s' => hCX w H s₁ e s'
end L2

/- THE LAST THEOREM (shape; LID, My.* are yours):
   My.Adr: a structure of the addresses that your layer names (classes, functions); My.Txt K t: a structure (Prop) of the equations over K;
   My.txt_mk : {K} {implicit addresses ..} (e1 : nsIn K mainGlobals "law" = some (some (.ref f))) (e2 : K.lookup f = some ⟨oc, od, .func (fnOf "law" "law" params body scope dV kV doc pm an cdv ct), sl⟩) (e3 : codeIn K cdv "law" = true) .. : ∃ t, My.Txt K t

set_option maxRecDepth 100000 in
set_option maxHeartbeats 0 in
theorem PySem.Challenge.cw_LID_holds : PySem.Challenge.rw_LID.Holds := by
  w_on; o_law; k_head; (case hw => w_witness2)
  k_fill
  refine L2.walk_of (l := PySem.Challenge.rw_LID) (n := 63) (k := 40) (x := "script") (CX := fun w => ..) (sp := fun _ => My.sp_law) rfl (by decide) rfl ⟨rfl, by decide, by decide⟩ (fun w h Y => PySem.W.kIn_of Y) ?F ?S ?C
  case F =>
    intro w mg fa h KX G hmg
    have T : ∃ t, My.Txt (L2.KOf KX) t := by
      dsimp only [L2.KOf]                          -- K must stand as «<heap const> w.params» for k_is
      refine' My.txt_mk ?e1 ?e2 ?e3 ..
      (case e1 => PySem.W.k_is)                    -- in the order: a name -> its address -> its object -> its parts
      (case e2 => PySem.W.k_is)
      ..
    obtain ⟨t, T⟩ := T
    have e0 := hmg.symm.trans (PySem.W.mg_of KX G T.law)
    cases e0                                       -- fa is the law's own address
    exact ⟨_, fun s u => .of_eq rfl, fun base kb nb => My.law_fn T kb nb⟩     -- if «.of_eq rfl» comes too early: refine' ⟨_, ?b, fun base kb nb => My.law_fn T kb nb⟩; exact fun s u => .of_eq rfl
  case S => exact fun w H a ns hl hO hS => ..
  case C => exact ..
(the tactic k_is has no namespace: write k_is) -/

/-! SHORT WORDS over the layer: a def of the text, its body, what a loop and a test want. -/
namespace L2
open PySem PySem.Spec PyProof.Rows

/-! ### the text by places -/
/-- the j-th statement of a class's body -/
def inClass (s : Stmt) (j : Nat) : Stmt := match s with
  | .ClassDef _ _ _ body _ _ _ _ _ _ _ => body.getD j (.Pass ⟨0, 0, 0, 0⟩)
  | _ => .Pass ⟨0, 0, 0, 0⟩
def defArgs (s : Stmt) : Arguments := match s with
  | .FunctionDef _ a _ _ _ _ _ _ _ _ => a
  | _ => { posonlyargs := [], args := [], vararg := none, kwonlyargs := [], kw_defaults := [], kwarg := none, defaults := [] }
def defBody (s : Stmt) : List Stmt := match s with
  | .FunctionDef _ _ b _ _ _ _ _ _ _ => b
  | _ => []
def defScope (s : Stmt) : Scope := match s with
  | .FunctionDef _ _ _ _ _ _ sc _ _ _ => sc
  | _ => { kind := .function, names := [], isGenerator := false, isCoroutine := false }

/-! ### no exception leaves a def -/
abbrev CX0 : CXT := fun _ _ _ _ _ _ => False
abbrev E0 : XK := fun _ _ _ => False
theorem pass0 {X : Cx} : Passes CX0 X E0 := fun _ _ _ _ _ _ _ h => h.elim

/-! ### a def (or method) of the text as it stands behind the top -/
structure Fun (K : PySem.W.Frag) (x qual : Str) (st : Stmt) (f : Addr) (fd : FuncData) : Prop where
  ex : ∃ (oc : Value) (od : Option Addr) (kV doc pm : Value) (an : Option Addr) (cdv ct : Value) (osl : Array (Option Value)),
    fd = PySem.W.fnOf x qual (defArgs st) (defBody st) (defScope st) .none kV doc pm an cdv ct ∧ K.lookup f = some ⟨oc, od, .func fd, osl⟩ ∧ PySem.W.codeIn K cdv qual = true
  kp : PySem.W.keepIn K (.ref f) = true
section
variable {P : Program} {w : World} {K : PySem.W.Frag} {mg : Str → Option Value} {base : Heap}
/-- THE RULE for a def: its body as a term of rules, and the reading of that term -/
theorem Fun.ok {x qual : Str} {st : Stmt} {f : Addr} {fd : FuncData} {N ps : List Str} {k : Nat} {sp : Sp} (F : Fun K x qual st f fd) (S : FnScope N ps (defScope st)) (len : ∀ vs H Q E, sp vs H Q E → vs.length = ps.length)
    (hbody : ∀ (cdv : Value) (A : Around) (outer : List Env) (s : Shared) (H : Hp) (vs : List V) (Q : VK) (E : XK), Room k (A.deeper (envOfC qual (defScope st) s.heap.objs.size f cdv)) → sp vs H Q E →
      ∃ t, PSs (cxOf CX0 P w K mg base N qual (defScope st) f cdv A outer s H E).nox (defBody st) t ∧ t { nx := fun _ H' => Q .non H', rt := Q } (start N vs) H) : FnOk P w K mg base CX0 (k + 1) f fd ps sp := by
  obtain ⟨oc, od, kV, doc, pm, an, cdv, ct, osl, rfl, lk, hcd⟩ := F.ex
  refine fn_of lk hcd S len fun A outer s H vs Q E hr hsp => ?_
  obtain ⟨t, h, q⟩ := hbody cdv A outer s H vs Q E hr hsp
  exact ⟨t, h.nox, q⟩
/-- how its arguments bind (no defaults): h is «fun _ _ _ _ _ _ us hl => match us, hl with | [_, _], _ => rfl», one _ a parameter -/
theorem Fun.binds {x qual : Str} {st : Stmt} {f : Addr} {fd : FuncData} {ps : List Str} (F : Fun K x qual st f fd)
    (h : ∀ (kV doc pm : Value) (an : Option Addr) (cdv ct : Value) (us : List Value), us.length = ps.length → bindArgs (PySem.W.fnOf x qual (defArgs st) (defBody st) (defScope st) .none kV doc pm an cdv ct) ⟨us, []⟩ = pure (ps.zip us)) : Binds K fd ps [] := by
  obtain ⟨oc, od, kV, doc, pm, an, cdv, ct, osl, rfl, lk, hcd⟩ := F.ex
  exact .all (h kV doc pm an cdv ct)
theorem fun_mk {x qual : Str} {st : Stmt} {f : Addr} {oc : Value} {od an : Option Addr} {osl : Array (Option Value)} {kV doc pm cdv ct : Value} (l : K.lookup f = some ⟨oc, od, .func (PySem.W.fnOf x qual (defArgs st) (defBody st) (defScope st) .none kV doc pm an cdv ct), osl⟩)
    (c : PySem.W.codeIn K cdv qual = true) (k : PySem.W.keepIn K (.ref f) = true) : Fun K x qual st f (PySem.W.fnOf x qual (defArgs st) (defBody st) (defScope st) .none kV doc pm an cdv ct) := ⟨⟨oc, od, kV, doc, pm, an, cdv, ct, osl, rfl, l, c⟩, k⟩
end
theorem hu_of {A : Around} {k : Nat} (hr : Room k A) : A.units + 1 < cLine := Nat.lt_of_le_of_lt (Nat.add_le_add_left (by decide : 1 ≤ 64) _) hr.units
/-! ### expressions in short: the name that stands in the i-th slot -/
section
variable {X : Cx}
/-- len of a dict -/
theorem call_lenD : CallR X (.builtin "len") (fun xs H Q => ∃ a kvs, xs = [V.ref a] ∧ H a = some (.dK kvs) ∧ Q (.int kvs.length) H) := by
  intro pins s σ H xs us Q I r h
  obtain ⟨a, kvs, rfl, ha, q⟩ := h
  obtain ⟨u, rfl, ru⟩ := vals1 r
  cases ru
  exact d_len I (.inl ha) fun t s' I' => ⟨.int kvs.length, H, I', ⟨t, rfl⟩, q⟩
end

/-! ### tests -/
/-! ### heaps -/
/-- all that was tracked is as it was -/
def Same (H H' : Hp) : Prop := ∀ b o, H b = some o → H' b = some o
theorem Same.refl (H : Hp) : Same H H := fun _ _ h => h
theorem Same.trans {H H1 H2 : Hp} (a : Same H H1) (b : Same H1 H2) : Same H H2 := fun c o h => b c o (a c o h)
theorem Same.free {H H' : Hp} (e : Same H H') {l : Addr} (h : H' l = Option.none) : H l = Option.none := by
  cases q : H l with
  | none => rfl
  | some o =>
    rw [e l o q] at h
    cases h
theorem Same.seq {K : PySem.W.Frag} {H H' : Hp} {a : Addr} {xs : List V} (e : Same H H') (h : SqL K H a xs) : SqL K H' a xs := by
  rcases h with (h | ⟨o, h⟩) | h
  · exact .inl (.inl (e _ _ h))
  · exact .inl (.inr ⟨o, e _ _ h⟩)
  · exact .inr h

/-! ### a dict's pairs: keys that differ -/
section
variable {κ : Type} [DecidableEq κ]
end
end L2

set_option maxHeartbeats 4000000
/-! comprehensions over the hand layer -/
namespace L2
open PySem PySem.Spec PyProof.Rows

/-- the cells that a block's free names stand for -/
def clOf (env : Env) : List (Str × NameKind) → List (Str × Addr) → List (Str × Addr)
  | [], acc => acc
  | (n, k) :: r, acc => if (k == NameKind.free) = true then clOf env r ((n, (env.cells.lookup n).getD 0) :: acc) else clOf env r acc

theorem cellOf_eq {env : Env} {n : Str} {c : Addr} (h : env.cells.lookup n = some c) : cellOf env n = pure c := by
  unfold cellOf
  rw [h]

theorem closure_go {env : Env} : ∀ (names : List (Str × NameKind)) (acc : List (Str × Addr)), (∀ x ∈ names, x.2 = .free → ∃ c, env.cells.lookup x.1 = some c) →
    (forIn names acc fun (x : Str × NameKind) (cs : List (Str × Addr)) => (match x with | (name, kind) => if (kind == NameKind.free) = true then (do let __do_lift ← cellOf env name; pure PUnit.unit; pure (ForInStep.yield ((name, __do_lift) :: cs)) : Sem _) else (do pure PUnit.unit; pure (ForInStep.yield cs)) : Sem (ForInStep (List (Str × Addr))))) = pure (clOf env names acc)
  | [], acc, _ => rfl
  | (n, k) :: r, acc, h => by
    have ih := fun a => closure_go r a fun x hx => h x (List.mem_cons_of_mem _ hx)
    rw [List.forIn_cons]
    by_cases hk : (k == NameKind.free) = true
    · obtain ⟨c, hc⟩ := h (n, k) List.mem_cons_self (by simpa using hk)
      simp only [hk, if_true, clOf, cellOf_eq hc, hc, Option.getD_some, pure_bind]
      exact ih _
    · simp only [hk, if_false, clOf, pure_bind]
      exact ih _
theorem closure_of {scope : Scope} {env : Env} (h : ∀ x ∈ scope.names, x.2 = .free → ∃ c, env.cells.lookup x.1 = some c) : closureFor scope env = pure (clOf env scope.names []) := by
  unfold closureFor
  have q := closure_go scope.names [] h
  exact (congrArg (fun m => m >>= pure) q).trans (pure_bind _ _)

theorem clOf_sub {env : Env} : ∀ (names : List (Str × NameKind)) (acc : List (Str × Addr)), (∀ x ∈ names, x.2 = .free → ∃ c, env.cells.lookup x.1 = some c) → (∀ p ∈ acc, env.cells.lookup p.1 = some p.2) →
    ∀ p ∈ clOf env names acc, env.cells.lookup p.1 = some p.2
  | [], acc, _, ha => ha
  | (n, k) :: r, acc, h, ha => by
    by_cases hk : (k == NameKind.free) = true
    · obtain ⟨c, hc⟩ := h (n, k) List.mem_cons_self (by simpa using hk)
      simp only [clOf, hk, if_true]
      refine clOf_sub r _ (fun x hx => h x (List.mem_cons_of_mem _ hx)) fun p hp => ?_
      rcases List.mem_cons.mp hp with rfl | hp
      · show env.cells.lookup n = some _
        rw [hc]; rfl
      · exact ha p hp
    · simp only [clOf, hk, if_false]
      exact clOf_sub r _ (fun x hx => h x (List.mem_cons_of_mem _ hx)) ha
theorem clOf_acc {env : Env} : ∀ (names : List (Str × NameKind)) (acc : List (Str × Addr)) (p : Str × Addr), p ∈ acc → p ∈ clOf env names acc
  | [], _, _, h => h
  | (n, k) :: r, acc, p, h => by
    by_cases hk : (k == NameKind.free) = true
    · simp only [clOf, hk, if_true]
      exact clOf_acc r _ p (List.mem_cons_of_mem _ h)
    · simp only [clOf, hk, if_false]
      exact clOf_acc r _ p h
theorem clOf_has {env : Env} : ∀ (names : List (Str × NameKind)) (acc : List (Str × Addr)) (x : Str), (x, NameKind.free) ∈ names → ∃ c, (x, c) ∈ clOf env names acc
  | (n, k) :: r, acc, x, h => by
    rcases List.mem_cons.mp h with e | h
    · injection e with e1 e2
      subst e1; subst e2
      simp only [clOf, beq_self_eq_true, if_true]
      exact ⟨_, clOf_acc r _ _ List.mem_cons_self⟩
    · by_cases hk : (k == NameKind.free) = true
      · simp only [clOf, hk, if_true]
        exact clOf_has r _ x h
      · simp only [clOf, hk, if_false]
        exact clOf_has r _ x h
theorem lookup_some_of_mem : ∀ {l : List (Str × Addr)} {x : Str} {c : Addr}, (x, c) ∈ l → ∃ d, l.lookup x = some d
  | (n, d) :: r, x, c, h => by
    by_cases e : x == n
    · exact ⟨d, by simp [List.lookup_cons, e]⟩
    · rcases List.mem_cons.mp h with q | q
      · injection q with q1 _
        subst q1
        simp at e
      · obtain ⟨d', hd⟩ := lookup_some_of_mem q
        exact ⟨d', by simp [List.lookup_cons, e, hd]⟩
theorem relabel_look {env : Env} : ∀ {names : List (Str × NameKind)} {x : Str} {k : NameKind},
    (names.map fun (n, k) => if (k == NameKind.free && env.scope.kind == .function && env.kindOf n == some .cell) then (n, NameKind.cell) else (n, k)).lookup x = some k →
    ∃ k', names.lookup x = some k' ∧ (k = k' ∨ k' = .free)
  | [], _, _, h => by simp at h
  | (n, j) :: r, x, k, h => by
    have ih := @relabel_look env r x k
    by_cases hc : (j == NameKind.free && env.scope.kind == .function && env.kindOf n == some .cell) = true
    · simp only [List.map_cons, hc, if_true, List.lookup_cons] at h ⊢
      cases e : x == n with
      | true =>
        rw [e] at h
        refine ⟨j, rfl, .inr ?_⟩
        simp only [Bool.and_eq_true, beq_iff_eq] at hc
        exact hc.1.1
      | false =>
        rw [e] at h
        exact ih h
    · rw [List.map_cons] at h
      dsimp only at h
      rw [if_neg hc, List.lookup_cons] at h
      rw [List.lookup_cons]
      cases e : x == n with
      | true =>
        rw [e] at h
        exact ⟨j, rfl, .inl (by injection h with h; exact h.symm)⟩
      | false =>
        rw [e] at h
        exact ih h
theorem relabel_free {env : Env} : ∀ {names : List (Str × NameKind)} {x : Str}, names.lookup x = some .free →
    (names.map fun (n, k) => if (k == NameKind.free && env.scope.kind == .function && env.kindOf n == some .cell) then (n, NameKind.cell) else (n, k)).lookup x = some .cell ∨
    (names.map fun (n, k) => if (k == NameKind.free && env.scope.kind == .function && env.kindOf n == some .cell) then (n, NameKind.cell) else (n, k)).lookup x = some .free
  | [], _, h => by simp at h
  | (n, j) :: r, x, h => by
    have ih := @relabel_free env r x
    cases e : x == n with
    | true =>
      rw [List.lookup_cons, e] at h
      injection h with h
      subst h
      rw [List.map_cons]
      dsimp only
      split
      · exact .inl (by simp [List.lookup_cons, e])
      · exact .inr (by simp [List.lookup_cons, e])
    | false =>
      rw [List.lookup_cons, e] at h
      rcases ih h with q | q
      · left
        rw [List.map_cons]
        dsimp only
        split <;> simp only [List.lookup_cons, e] <;> exact q
      · right
        rw [List.map_cons]
        dsimp only
        split <;> simp only [List.lookup_cons, e] <;> exact q

/-- the context of a comprehension's block -/
def ccx (X : Cx) (scope : Scope) (N : List Str) (C : Addr) (s : Shared) (H : Hp) (fp : List Addr) : Cx :=
  { X with N := N, s₀ := s, H₀ := H, env := compEnvC scope (clOf X.env scope.names []) C X.env, outer := X.stack, stack := X.stack, ex := fp, fn := fun _ => false, pn := [], xe := fun _ _ => False }

/-- what a block's scope must be: no cells of its own; its free names are cells of ours -/
structure CScope (X : Cx) (scope : Scope) : Prop where
  kind : scope.kind = .function
  nocell : ∀ y ∈ scope.names, y.2 ≠ .cell
  names : ∀ y ∈ scope.names, y.2 = .local → scope.names.lookup y.1 = some .local
  free : ∀ y ∈ scope.names, y.2 = .free → X.env.kindOf y.1 = some .cell ∨ X.env.kindOf y.1 = some .free

section
variable {X : Cx} {pins : List (Addr × Obj)} {σ : St} {H : Hp} {s : Shared}
theorem CScope.has {scope : Scope} (S : CScope X scope) (ok : X.Ok) : ∀ x ∈ scope.names, x.2 = .free → ∃ c, X.env.cells.lookup x.1 = some c := fun x hx h => ok.has _ (S.free x hx h)
theorem cl_sub {scope : Scope} (S : CScope X scope) (ok : X.Ok) {x : Str} {c : Addr} (h : (clOf X.env scope.names []).lookup x = some c) : X.env.cells.lookup x = some c :=
  clOf_sub scope.names [] (S.has ok) (fun p hp => absurd hp (by simp)) (x, c) (PySem.mem_of_lookup h)
theorem cl_free {scope : Scope} (S : CScope X scope) (ok : X.Ok) {x : Str} (h : scope.names.lookup x = some .free) : ∃ c, (clOf X.env scope.names []).lookup x = some c ∧ X.env.cells.lookup x = some c := by
  obtain ⟨c, hc⟩ := clOf_has (env := X.env) scope.names [] x (PySem.mem_of_lookup h)
  obtain ⟨d, hd⟩ := lookup_some_of_mem hc
  exact ⟨d, hd, cl_sub S ok hd⟩

/-- the names of the block: its targets, then free names (sel: their slots in the frame) -/
structure CNames (X : Cx) (scope : Scope) (N : List Str) (k : Nat) (sel : List Nat) : Prop where
  len : N.length = k + sel.length
  fr : ∀ (i j : Nat) (x : Str), sel[i]? = some j → N[k + i]? = some x → X.N[j]? = some x ∧ scope.names.lookup x = some .free
/-- the block's values at a turn's start -/
def cst (σ : St) (k : Nat) (sel : List Nat) : St := List.replicate k none ++ sel.map fun j => (σ[j]?).join
theorem cst_len {k : Nat} {sel : List Nat} : (cst σ k sel).length = k + sel.length := by
  unfold cst; rw [List.length_append, List.length_replicate, List.length_map]

theorem ccx_ok {scope : Scope} {N : List Str} {fp : List Addr} (S : CScope X scope) (I : Inv X pins σ H s) (hf : ∀ b ∈ fp, FpOk X pins H b) (hlt : ∀ b ∈ fp, b < s.heap.objs.size) : (ccx X scope N s.heap.objs.size s H fp).Ok where
  mod := I.ok.mod
  kind := S.kind
  glob := I.ok.glob
  blt := I.ok.blt
  above := Nat.le_refl _
  inj := fun x y c h1 h2 => I.ok.inj x y c (cl_sub S I.ok h1) (cl_sub S I.ok h2)
  has := fun x h => by
    have h' : (relabel scope X.env).names.lookup x = some .cell ∨ (relabel scope X.env).names.lookup x = some .free := h
    rcases h' with h' | h'
    · obtain ⟨k', e, q⟩ := relabel_look h'
      rcases q with q | q
      · subst q
        exact absurd rfl (S.nocell _ (PySem.mem_of_lookup e))
      · subst q
        obtain ⟨c, hc, _⟩ := cl_free S I.ok e
        exact ⟨c, hc⟩
    · obtain ⟨k', e, q⟩ := relabel_look h'
      have : k' = .free := by rcases q with q | q; exact q.symm; exact q
      subst this
      obtain ⟨c, hc, _⟩ := cl_free S I.ok e
      exact ⟨c, hc⟩
  cab := fun x c h => absurd (show false = true from h) (by simp)
  hd := I.ok.hd
  frames := I.ok.frames
  stk := .inl rfl
  exf := fun b hb => ⟨Nat.ne_of_lt (hlt b hb), fun x c h => (hf b hb).2.2.2.2.1 x c (cl_sub S I.ok h)⟩
  bs := I.bs
  bsz := Nat.le_trans I.ok.bsz I.sz
  noex := fun b o e hb => by
    rcases (hf b hb).2.2.2.1 with z | z
    · exact I.ok.noex b o e z
    · exact absurd (Nat.lt_of_lt_of_le (Heap.lt_size e) (Nat.le_trans I.ok.bsz z)) (Nat.lt_irrefl _)
  exfs := fun b hb z => by
    rcases List.mem_cons.mp (I.stkSub b z) with q | q
    · exact (hf b hb).2.1 q
    · exact (hf b hb).2.2.1 q
  funs := I.stack
  frf := I.stkFree

theorem ccx_inv {scope : Scope} {N : List Str} {fp : List Addr} {k : Nat} {sel : List Nat} {h₁ : Heap} {m : Str → Option Value} {t' : Nat} (S : CScope X scope) (M : CNames X scope N k sel) (I : Inv X pins σ H s) (hf : ∀ b ∈ fp, FpOk X pins H b) (hlt : ∀ b ∈ fp, b < s.heap.objs.size)
    (hn : h₁.Ns s.heap.objs.size m) (hk : ∀ b o, s.heap.get? b = some o → h₁.get? b = some o) : Inv (ccx X scope N s.heap.objs.size s H fp) [] (cst σ k sel) H { s with heap := h₁, toks := t' } := by
  refine ⟨ccx_ok S I hf hlt, rfl, I.bare, Un.kept hk, ⟨m, hn, fun i x v e1 e2 e3 => ?_⟩, fun x c e => ?_, I.hok.fresh (Nat.le_refl _), fun x c e => I.freeC x c (cl_sub S I.ok e), fun p hp => absurd (show p ∈ ([] : List (Addr × Obj)) from hp) (by simp), I.hok.kept hk, ?_⟩
  · have hi : k ≤ i := by
      by_cases hi : k ≤ i
      · exact hi
      · unfold cst at e2
        rw [List.getElem?_append_left (by simp; omega), List.getElem?_replicate] at e2
        split at e2 <;> cases e2
    obtain ⟨d, rfl⟩ : ∃ d, i = k + d := ⟨i - k, by omega⟩
    unfold cst at e2
    rw [List.getElem?_append_right (by simp), List.length_replicate, Nat.add_sub_cancel_left, List.getElem?_map] at e2
    cases ej : sel[d]? with
    | none => rw [ej] at e2; cases e2
    | some j =>
      rw [ej] at e2
      have e2' : (σ[j]?).join = some v := Option.some.inj e2
      have e4 : σ[j]? = some (some v) := by
        cases q : σ[j]? with
        | none => rw [q] at e2'; cases e2'
        | some o => rw [q] at e2'; cases o with
          | none => cases e2'
          | some w => cases e2'; rfl
      obtain ⟨hN, hfr⟩ := M.fr d j x ej e1
      obtain ⟨mo, hno, hlo⟩ := I.loc
      have hkind := S.free _ (PySem.mem_of_lookup hfr) rfl
      obtain ⟨u, ru, lu⟩ := hlo j x v hN e4 (by rcases hkind with q | q; exact .inr (.inl q); exact .inr (.inr q))
      obtain ⟨c, hc, hc'⟩ := cl_free S I.ok hfr
      refine ⟨u, ru, .inr ⟨?_, c, hc, ?_⟩⟩
      · exact relabel_free hfr
      · rcases lu with ⟨kl, _⟩ | ⟨_, c', e5, z⟩
        · rcases hkind with q | q
          · rw [kl] at q; cases q
          · rw [kl] at q; cases q
        · rw [hc'] at e5; cases e5
          obtain ⟨o, ho, hd⟩ := z
          exact ⟨o, hk _ _ ho, hd⟩
  · obtain ⟨v, o, ho, hd⟩ := I.cell x c (cl_sub S I.ok e)
    exact ⟨v, o, hk _ _ ho, hd⟩
  · rw [cst_len]; exact M.len.symm
end
end L2

set_option maxHeartbeats 4000000
namespace L2
open PySem PySem.Spec PyProof.Rows

/-- the tests of a comprehension -/
def PTs (X : Cx) (ifs : List Expr) (t : TT) : Prop :=
  ∀ (pins : List (Addr × Obj)) (s : Shared) (σ : St) (H : Hp) (Q : Bool → Hp → Prop), Inv X pins σ H s → t σ H Q →
    wpAny (model X.prog X.w) X.A (forIn ifs true fun c r => if r = true then do let ok ← isTrue c X.env (eval c X.env); pure (ForInStep.yield ok) else pure (ForInStep.yield r)) (TP X pins σ Q) X.xe s
def tTrue : TT := fun _ H Q => Q true H
theorem pts_nil {X : Cx} : PTs X [] tTrue := fun pins s σ H Q I h => wpAny_tests_nil ⟨H, I, h⟩
/-- [elt for tg in iter if ..]: the list stands at p from the start; W: by the turn, a measure, the block's values, the heap -/
def tComp (wi : TI) (k : Nat) (sel : List Nat) (g : TG) (tt : TT) (te : TE) : TE := fun σ H Q => wi σ H fun J H1 => ∀ p, H1 p = none →
  ∃ W : Nat → Nat → St → Hp → Prop, (∃ m, W 0 m (cst σ k sel) (upd H1 p (.lst []))) ∧ ∀ i m σ2 H2, W i m σ2 H2 →
    (J.stop i H2 ∧ Q (.ref p) H2) ∨ (J.go i H2 ∧ ∀ x H3, J.yld i H2 x H3 → g x σ2 H3 fun σ4 H4 => tt σ4 H4 fun b H5 =>
      if b = true then te σ4 H5 fun v H6 => ∃ ys, H6 p = some (.lst ys) ∧ ys.length < sizeLine ∧ ∃ m', m' < m ∧ W (i + 1) m' σ4 (upd H6 p (.lst (ys ++ [v]))) else ∃ m', m' < m ∧ W (i + 1) m' σ4 H5)

theorem comp_loop {X : Cx} {elt tg iter : Expr} {ifs : List Expr} {scope : Scope} {pos : Pos} {it D : Addr} {fp : List Addr} {tn : Nat → Heap → Prop} {J : It} {g : TG} {tt : TT} {te : TE} {W : Nat → Nat → St → Hp → Prop} {R : Result → Shared → Prop} {QQ : Hp → Prop}
    (hx : X.xe = fun _ _ => False) (hc : X.calm = true) (T : Turn X.prog X.w X.K tg J fp it tn) (hg : PG X tg g) (ht : PTs X ifs tt) (he : PE X elt te)
    (hfp : ∀ b ∈ fp, b ≠ X.env.locals ∧ b ∉ X.fs ∧ (b ∈ X.ex ∨ X.s₀.heap.objs.size ≤ b) ∧ (∀ x c, X.env.cells.lookup x = some c → c ≠ b) ∧ ∀ p ∈ X.pn ++ [], p.1 ≠ b)
    (turn : ∀ i m σ2 H2, W i m σ2 H2 →
      (J.stop i H2 ∧ QQ H2) ∨ (J.go i H2 ∧ ∀ x H3, J.yld i H2 x H3 → g x σ2 H3 fun σ4 H4 => tt σ4 H4 fun b H5 =>
        if b = true then te σ4 H5 fun v H6 => ∃ ys, H6 D = some (.lst ys) ∧ ys.length < sizeLine ∧ ∃ m', m' < m ∧ W (i + 1) m' σ4 (upd H6 D (.lst (ys ++ [v]))) else ∃ m', m' < m ∧ W (i + 1) m' σ4 H5))
    (hR : ∀ s' σ' H', Inv X [] σ' H' s' → QQ H' → R (.ok .next) s') {s : Shared} (m0 : Nat) (h : ∃ i σ' H', Inv X [] σ' H' s ∧ tn i s.heap ∧ (∀ b ∈ fp, H' b = none) ∧ W i m0 σ' H') :
    codeAny (model X.prog X.w) X.A (.compLoop (.ListComp elt [⟨tg, iter, ifs, 0⟩] scope pos) 0 (.ref it) (.ref D) X.env) R s := by
  have stat : ∀ {H' : Hp}, (∀ b ∈ fp, H' b = none) → ∀ b ∈ fp, FpOk X [] H' b := fun hn b hb => ⟨hn b hb, hfp b hb⟩
  have noE : ∀ {α : Type} {t : Sem α} {Q : α → Shared → Prop} {E : Value → Shared → Prop} {s : Shared}, wpAny (model X.prog X.w) X.A t Q X.xe s → wpAny (model X.prog X.w) X.A t Q E s := fun {α t Q E s} h => by
    rw [hx] at h
    exact wpAny_noRaise h
  refine codeAny_loop rfl (fun n s' => ∃ i σ' H', Inv X [] σ' H' s' ∧ tn i s'.heap ∧ (∀ b ∈ fp, H' b = none) ∧ W i n σ' H') (fun n s3 hI => ?_) m0 h
  obtain ⟨i, σ3, H3, I3, st3, fr3, w3⟩ := hI
  show wpAny _ X.A ((compTurn (.ListComp elt [⟨tg, iter, ifs, 0⟩] scope pos) 0 (.ref it) (.ref D) X.env).onRaise (fun x => do noteFrame x X.env; theTreesLotGoes x)) _ _ s3
  refine wpAny_noted ?_
  rw [compTurn_list]
  rcases turn i n σ3 H3 w3 with ⟨stop, qn⟩ | ⟨go, step⟩
  · refine wpAny_bind (wpAny_standAt (wpAny_bind (thn (noE (T.done X rfl rfl rfl hc i [] s3 σ3 H3 X.xe I3 (stat fr3) st3 stop)) fun r s4 ⟨hr, I4⟩ => ?_)))
    subst hr
    exact wpAny_pure (hR s4 σ3 H3 I4 qn)
  · refine wpAny_bind (wpAny_standAt (wpAny_bind (thn (noE (T.item X rfl rfl rfl hc i [] s3 σ3 H3 X.xe I3 (stat fr3) st3 go)) fun r s4 ⟨u, hr, h4⟩ => ?_)))
    subst hr
    refine wpAny_bind (thn (noE h4) fun _ s5 ⟨x, H5, I5, r5, y5, st5, fr5⟩ => ?_)
    have I5' := I5.pinned (stat fr5) (T.obj _ _ st5)
    refine wpAny_bind (thn (noE (hg _ s5 σ3 H5 x u _ I5' r5 (step x H5 y5))) fun _ s6 ⟨σ6, H6, I6, q6⟩ => ?_)
    refine wpAny_bind (thn (noE (ht _ s6 σ6 H6 _ I6 q6)) fun ok s7 ⟨H7, I7, q7⟩ => ?_)
    have again : ∀ {s8 : Shared} {H8 : Hp}, Inv X ([] ++ pinsAt fp s5.heap) σ6 H8 s8 → (∃ m', m' < n ∧ W (i + 1) m' σ6 H8) → ∃ m, m < n ∧ ∃ i σ' H', Inv X [] σ' H' s8 ∧ tn i s8.heap ∧ (∀ b ∈ fp, H' b = none) ∧ W i m σ' H' := fun {s8 H8} I8 n8 => by
      obtain ⟨m', hm, w8⟩ := n8
      refine ⟨m', hm, i + 1, σ6, H8, I8.unpinned, T.keep _ _ _ st5 fun b hb o e => (I8.pin (b, o) (List.mem_append_right _ (List.mem_append_right _ (mem_pinsAt hb e)))).1, fun b hb => ?_, w8⟩
      obtain ⟨o, e, d⟩ := T.obj _ _ st5 b hb
      exact (I8.pin (b, o) (List.mem_append_right _ (List.mem_append_right _ (mem_pinsAt hb e)))).2.1
    cases ok with
    | false => exact wpAny_pure ⟨rfl, again I7 q7⟩
    | true =>
      refine wpAny_bind (wpAny_bind (thn (noE (he _ s7 σ6 H7 _ I7 q7)) fun y s8 ⟨v, H8, I8, r8, ys, hys, hl, q8⟩ => ?_))
      refine wpAny_bind (thn (noE (mt_append _ s8 σ6 H8 (.ref D) [v] (.ref D) [y] (fun _ H9 => ∃ m', m' < n ∧ W (i + 1) m' σ6 H9) I8 rfl (.cons r8 .nil) ⟨D, ys, v, rfl, rfl, hys, hl, q8⟩)) fun _ s9 ⟨_, H9, I9, _, q9⟩ => ?_)
      exact wpAny_pure (wpAny_pure ⟨rfl, again I9 q9⟩)

/-- the block's own namespace, left behind -/
structure CFree (X : Cx) (pins : List (Addr × Obj)) (H : Hp) (C : Addr) (s : Shared) : Prop where
  none : H C = Option.none
  ne : C ≠ X.env.locals
  above : X.s₀.heap.objs.size ≤ C
  cells : ∀ x c, X.env.cells.lookup x = some c → c ≠ C
  pins : ∀ p ∈ X.pn ++ pins, p.1 ≠ C
  ns : ∃ m, s.heap.Ns C m

theorem comp_block {X : Cx} {pins : List (Addr × Obj)} {σ : St} {elt tg iter : Expr} {ifs : List Expr} {scope : Scope} {pos : Pos} {N : List Str} {k : Nat} {sel : List Nat} {g : TG} {tt : TT} {te : TE} {itv : Value} {s2 : Shared} {QQ : VK} {use : Option (Value → Sem Unit)} {Qv : Value → Shared → Prop}
    (S : CScope X scope) (M : CNames X scope N k sel) (hc : X.calm = true)
    (hg : ∀ C s H fp, PG (ccx X scope N C s H fp) tg g) (ht : ∀ C s H fp, PTs (ccx X scope N C s H fp) ifs tt) (he : ∀ C s H fp, PE (ccx X scope N C s H fp) elt te)
    (fin : ∀ D C s' H', Inv X pins σ H' s' → CFree X pins H' C s' → QQ (.ref D) H' → compPost (model X.prog X.w) X.A X.xe use Qv (.ref D) C (.ok .next) s')
    (h2 : PIE X pins σ tg (fun J H1 => ∀ p, H1 p = none → ∃ W : Nat → Nat → St → Hp → Prop, (∃ m, W 0 m (cst σ k sel) (upd H1 p (.lst []))) ∧ ∀ i m σ2 H2, W i m σ2 H2 →
      (J.stop i H2 ∧ QQ (.ref p) H2) ∨ (J.go i H2 ∧ ∀ x H3, J.yld i H2 x H3 → g x σ2 H3 fun σ4 H4 => tt σ4 H4 fun b H5 =>
        if b = true then te σ4 H5 fun v H6 => ∃ ys, H6 p = some (.lst ys) ∧ ys.length < sizeLine ∧ ∃ m', m' < m ∧ W (i + 1) m' σ4 (upd H6 p (.lst (ys ++ [v]))) else ∃ m', m' < m ∧ W (i + 1) m' σ4 H5)) itv s2) :
    wpAny (model X.prog X.w) X.A (newList []) (fun acc s₃ => wpAny (model X.prog X.w) X.A (newFunctionEnv scope X.env.globals (clOf X.env scope.names []) [] X.env.qual none .none (some X.env)) (fun cenv s₄ =>
      codeAny (model X.prog X.w) X.A (.compStart (.ListComp elt [⟨tg, iter, ifs, 0⟩] scope pos) 0 itv acc { cenv with scope := relabel scope X.env }) (compPost (model X.prog X.w) X.A X.xe use Qv acc cenv.locals) s₄) X.xe s₃) X.xe s2 := by
  obtain ⟨it, fp, tn, J, H2, rfl, I2, T, st2, f2, R2⟩ := h2
  have hD : H2 s2.heap.objs.size = none := I2.hok.fresh (Nat.le_refl _)
  obtain ⟨W, ⟨m0, w0⟩, turn⟩ := R2 _ hD
  refine wpAny_newObj_type ?_
  have I3 := I2.lnew (its := []) (ys := []) (t' := s2.toks) .nil (Nat.zero_le _)
  generalize hs3 : ({ s2 with heap := s2.heap.push { cls := .type "list", data := .seq ([] : List Value).toArray }, toks := s2.toks } : Shared) = s3 at I3
  have e3 : ({ s2 with heap := s2.heap.push { cls := .type "list", dict := none, data := .seq ([] : List Value).toArray } } : Shared) = s3 := by rw [← hs3]
  have up : ∀ b o, s2.heap.get? b = some o → s3.heap.get? b = some o := fun b o e => by rw [← hs3]; exact Heap.get?_push_of_some _ e
  have hsz : s2.heap.objs.size ≤ s3.heap.objs.size := by rw [← hs3]; show _ ≤ (s2.heap.push _).objs.size; rw [Heap.size_push]; exact Nat.le_succ _
  have hlt2 : ∀ b ∈ fp, b < s2.heap.objs.size := fun b hb => by
    obtain ⟨o, e, _⟩ := T.obj _ _ st2 b hb
    exact Heap.lt_size e
  have hlt : ∀ b ∈ fp, b < s3.heap.objs.size := fun b hb => Nat.lt_of_lt_of_le (hlt2 b hb) hsz
  have f3 : ∀ b ∈ fp, FpOk X pins (upd H2 s2.heap.objs.size (.lst [])) b := fun b hb => ⟨by rw [upd_ne (Nat.ne_of_lt (hlt2 b hb))]; exact (f2 b hb).1, (f2 b hb).2⟩
  refine wpAny_newFunctionEnv S.nocell (by intro y hy; simp at hy) (fun h₁ hns₁ hsb₁ => ?_) S.kind
  have up₁ : ∀ b o, s3.heap.get? b = some o → h₁.get? b = some o := fun b o e => hsb₁.extBut b o (Nat.ne_of_lt (Heap.lt_size e)) (Heap.get?_push_of_some _ e)
  have Ic := ccx_inv (N := N) (k := k) (sel := sel) (t' := s3.toks + ([] : List (Str × Value)).length) S M I3 f3 hlt hns₁ up₁
  have st₁ : tn 0 h₁ := T.keep _ _ _ st2 fun b hb o e => up₁ b o (up b o e)
  have fr : ∀ b ∈ fp, (upd H2 s2.heap.objs.size (.lst [])) b = none := fun b hb => (f3 b hb).1
  have loop : codeAny (model X.prog X.w) X.A (.compLoop (.ListComp elt [⟨tg, iter, ifs, 0⟩] scope pos) 0 (.ref it) (.ref s2.heap.objs.size) (compEnvC scope (clOf X.env scope.names []) s3.heap.objs.size X.env))
      (compPost (model X.prog X.w) X.A X.xe use Qv (.ref s2.heap.objs.size) s3.heap.objs.size) { s3 with heap := h₁, toks := s3.toks + ([] : List (Str × Value)).length } := by
    refine comp_loop (X := ccx X scope N s3.heap.objs.size s3 (upd H2 s2.heap.objs.size (.lst [])) fp) (QQ := fun H' => QQ (.ref s2.heap.objs.size) H') (W := W) rfl hc T (hg _ _ _ _) (ht _ _ _ _) (he _ _ _ _) (fun b hb => ?_) turn (fun s' σ' H' I' q' => ?_) m0 ⟨0, cst σ k sel, _, Ic, st₁, fr, w0⟩
    · refine ⟨Nat.ne_of_lt (hlt b hb), ?_, .inl hb, fun x c h => (f3 b hb).2.2.2.2.1 x c (cl_sub S I3.ok h), fun p hp => absurd (show p ∈ ([] : List (Addr × Obj)) from hp) (by simp)⟩
      exact (ccx_ok (N := N) S I3 f3 hlt).exfs b hb
    · have Ie : Inv X pins σ H' s' := I3.call' (ch := fp) I'.os I'.base I'.hok I'.bare fun b hb => ⟨(f3 b hb).2.2.2.1, (f3 b hb).2.1, (f3 b hb).2.2.2.2.1, (f3 b hb).2.2.2.2.2⟩
      refine fin _ _ s' H' Ie ⟨I'.free, ?_, Nat.le_trans I3.sz (Nat.le_refl _), fun x c e => ?_, fun p hp => ?_, ?_⟩ q'
      · exact Ne.symm (Nat.ne_of_lt I3.lt)
      · obtain ⟨v, o, ho, _⟩ := I3.cell x c e
        exact Nat.ne_of_lt (Heap.lt_size ho)
      · exact Nat.ne_of_lt (Heap.lt_size (I3.pin p hp).1)
      · obtain ⟨m, hn, _⟩ := I'.loc
        exact ⟨m, hn⟩
  exact codeAny_compStart_list loop (T.self X.A 0 _ _ _ st₁ loop)

section
variable {X : Cx} {elt tg iter : Expr} {ifs : List Expr} {scope : Scope} {pos : Pos} {N : List Str} {k : Nat} {sel : List Nat} {wi : TI} {g : TG} {tt : TT} {te : TE}
theorem pe_comp (S : CScope X scope) (M : CNames X scope N k sel) (hc : X.calm = true) (hi : PI X tg iter wi)
    (hg : ∀ C s H fp, PG (ccx X scope N C s H fp) tg g) (ht : ∀ C s H fp, PTs (ccx X scope N C s H fp) ifs tt) (he : ∀ C s H fp, PE (ccx X scope N C s H fp) elt te)
    (hs : ∀ x, foldedSetIterable iter X.env x = pure x := by intro _; rfl) : PE X (.ListComp elt [⟨tg, iter, ifs, 0⟩] scope pos) (tComp wi k sel g tt te) := by
  intro pins s σ H Q I h
  rw [eval_ListComp]
  refine wpAny_comprehension_free (use := none) rfl hs (closure_of (S.has I.ok)) S.kind S.names (thn (hi pins s σ H _ I h) fun v s1 h1 => thn h1 fun itv s2 h2 => ?_)
  refine comp_block (QQ := Q) S M hc hg ht he (fun D C s' H' I' F q => ?_) h2
  obtain ⟨m, hn⟩ := F.ns
  exact ⟨m, hn, fun h' hsb => ⟨.ref D, H', I'.turned (t' := s'.toks) (fun b o hb e => hsb.extBut b o hb e) F.none F.ne (.inr F.above) F.cells F.pins, rfl, q⟩⟩
/-- name = [..], where the name is stored ahead of the block's end -/
theorem ps_setC {i : Nat} {y : Str} {py spos : Pos} (S : CScope X scope) (M : CNames X scope N k sel) (hc : X.calm = true) (hi : PI X tg iter wi)
    (hg : ∀ C s H fp, PG (ccx X scope N C s H fp) tg g) (ht : ∀ C s H fp, PTs (ccx X scope N C s H fp) ifs tt) (he : ∀ C s H fp, PE (ccx X scope N C s H fp) elt te)
    (hN : X.N.Nodup) (hiy : X.N[i]? = some y) (hy : Loc X.env.scope y)
    (hsw : swapsWith (.ListComp elt [⟨tg, iter, ifs, 0⟩] scope pos) (some (.Name y py)) spos.line X.env = pure true)
    (hs : ∀ x, foldedSetIterable iter X.env x = pure x := by intro _; rfl) (hf : X.fn y = true ∨ X.env.scope.names.lookup y = some .local := by first | exact .inl rfl | exact .inr rfl | assumption) :
    PS X (.Assign [.Name y py] (.ListComp elt [⟨tg, iter, ifs, 0⟩] scope pos) spos) (tAsg (tComp wi k sel g tt te) (gName i)) := by
  intro pins s σ H D I h
  rw [exec_Assign_Name_used _ _ _ _ hsw]
  refine wpAny_bind (wpAny_standAt (wpAny_bind ?_))
  show wpAny _ X.A (do let _ ← comprehension (.ListComp elt [⟨tg, iter, ifs, 0⟩] scope pos) scope X.env _ (newList []) false (eval iter X.env) (some (assign (.Name y py) X.env))) _ _ s
  refine wpAny_bind (wpAny_mono (wpAny_comprehension_free (use := some (assign (.Name y py) X.env)) (Q := fun _ s' => SP X pins D .next s') rfl hs (closure_of (S.has I.ok)) S.kind S.names
    (thn (hi pins s σ H _ I h) fun v s1 h1 => thn h1 fun itv s2 h2 => ?_)) (fun _ s' hq => wpAny_pure (wpAny_pure hq)) fun _ _ e => e)
  refine comp_block (QQ := fun v H1 => D.nx (σ.set i (some v)) H1) S M hc hg ht he (fun Da C s' H' I' F q => ?_) h2
  show wpAny _ X.A (assign (.Name y py) X.env (.ref Da)) _ _ _
  refine wpAny_assign_Name (store_ok2 I' hN hiy hy (v := .ref Da) rfl (fun s'' I'' hch => ?_) hf)
  obtain ⟨m, hn⟩ := F.ns
  obtain ⟨a, hsb, ha⟩ := hch
  have haC : C ≠ a := by
    rcases ha with ha | ha
    · rw [ha]; exact F.ne
    · exact Ne.symm (F.cells _ _ ha)
  refine ⟨m, hn.sameBut hsb haC, fun h' hsb' => ⟨σ.set i (some (.ref Da)), H', I''.turned (t' := s''.toks) (fun b o hb e => hsb'.extBut b o hb e) F.none F.ne (.inr F.above) F.cells F.pins, q⟩⟩
end
end L2

set_option maxHeartbeats 4000000
/-! readings that compute: one rule for each operation, by cases of its values -/
namespace L2
open PySem PySem.Spec PyProof.Rows

section
variable {X : Cx}
theorem PE.imp {e : Expr} {t t' : TE} (h : PE X e t) (f : ∀ σ H Q, t' σ H Q → t σ H Q) : PE X e t' := fun pins s σ H Q I q => h pins s σ H Q I (f σ H Q q)
theorem PT.imp {e : Expr} {t t' : TT} (h : PT X e t) (f : ∀ σ H Q, t' σ H Q → t σ H Q) : PT X e t' := fun pins s σ H Q I q => h pins s σ H Q I (f σ H Q q)
theorem OpR.imp {g : Value → Value → Sem Value} {r r' : R2} (h : OpR X g r) (f : ∀ x y H Q, r' x y H Q → r x y H Q) : OpR X g r' := fun pins s σ H x y v u Q I rx ry q => h pins s σ H x y v u Q I rx ry (f x y H Q q)
theorem CallR.imp {g : Value} {r r' : List V → Hp → VK → Prop} (h : CallR X g r) (f : ∀ xs H Q, r' xs H Q → r xs H Q) : CallR X g r' := fun pins s σ H xs us Q I rx q => h pins s σ H xs us Q I rx (f xs H Q q)
theorem IxR.imp {r r' : R2} (h : IxR X r) (f : ∀ x y H Q, r' x y H Q → r x y H Q) : IxR X r' := fun value slice pins s σ H x y v u Q I rx ry q => h value slice pins s σ H x y v u Q I rx ry (f x y H Q q)
theorem SlR.imp {r r' : V → Option Int → Option Int → Hp → VK → Prop} (h : SlR X r) (f : ∀ x lo hi H Q, r' x lo hi H Q → r x lo hi H Q) : SlR X r' := fun pins s σ H x v vl vu lo hi sl Q I rx hs pl pu q => h pins s σ H x v vl vu lo hi sl Q I rx hs pl pu (f x lo hi H Q q)

/-! names -/
def cVar (i : Nat) : TE := fun σ H Q => match σ[i]? with | some (some v) => Q v H | _ => False
theorem cVar_of {i : Nat} {σ : St} {H : Hp} {Q : VK} (h : cVar i σ H Q) : tVar i σ H Q := by
  unfold cVar at h
  split at h
  · exact ⟨_, by assumption, h⟩
  · exact h.elim
theorem cv (i : Nat) {x : Str} {pos : Pos} (hN : X.N[i]? = some x := by rfl) (hv : Vis X.env.scope x := by first | exact Or.inl rfl | exact Or.inr (Or.inl rfl) | exact Or.inr (Or.inr rfl)) (hd : (x == ("__debug__" : Str)) = false := by decide)
    (hcd : (x == ("__classdict__" : Str)) = false := by decide) : PE X (.Name x pos) (cVar i) := (pe_var hN hv hd hcd).imp fun _ _ _ h => cVar_of h

/-! ints -/
def cI2 (f : Int → Int → V) : R2 := fun x y H Q => match x, y with | .int i, .int j => Q (f i j) H | _, _ => False
def cI2c (C : Int → Int → Prop) (f : Int → Int → V) : R2 := fun x y H Q => match x, y with | .int i, .int j => C i j ∧ Q (f i j) H | _, _ => False
theorem cI2_of {f : Int → Int → V} {x y : V} {H : Hp} {Q : VK} (h : cI2 f x y H Q) : rI0 f x y H Q := by
  cases x <;> cases y <;> first | exact False.elim h | exact ⟨_, _, rfl, rfl, h⟩
theorem cI2c_of {C : Int → Int → Prop} {f : Int → Int → V} {x y : V} {H : Hp} {Q : VK} (h : cI2c C f x y H Q) : rI C f x y H Q := by
  cases x <;> cases y <;> first | exact False.elim h | exact ⟨_, _, rfl, rfl, h.1, h.2⟩
theorem o_sub : OpR X (binaryOp .Sub) (cI2 fun i j => .int (i - j)) := op_sub.imp fun _ _ _ _ h => cI2_of h
theorem o_fdiv : OpR X (binaryOp .FloorDiv) (cI2c CDiv fun i j => .int (i / j)) := op_fdiv.imp fun _ _ _ _ h => cI2c_of h
theorem o_mod : OpR X (binaryOp .Mod) (cI2c (fun _ j => 0 < j) fun i j => .int (i % j)) := op_mod.imp fun _ _ _ _ h => cI2c_of h
theorem o_lt : OpR X (compareOp .Lt) (cI2 fun i j => .bl (decide (i < j))) := op_lt.imp fun _ _ _ _ h => cI2_of h
theorem o_gt : OpR X (compareOp .Gt) (cI2 fun i j => .bl (decide (j < i))) := op_gt.imp fun _ _ _ _ h => cI2_of h
theorem o_ge : OpR X (compareOp .GtE) (cI2 fun i j => .bl (decide (j ≤ i))) := op_ge.imp fun _ _ _ _ h => cI2_of h
def cAdd : R2 := fun x y H Q => match x, y with
  | .int i, .int j => Q (.int (i + j)) H
  | .str i, .str j => i.length + j.length ≤ sizeLine ∧ Q (.str (i ++ j)) H
  | .ref l, .ref b => ∃ xs zs, H l = some (.lst xs) ∧ H b = some (.lst zs) ∧ xs.length + zs.length ≤ sizeLine ∧ ∀ p, H p = none → Q (.ref p) (upd H p (.lst (xs ++ zs)))
  | _, _ => False
theorem o_add : OpR X (binaryOp .Add) cAdd := by
  intro pins s σ H x y v u Q I rx ry h
  cases x <;> cases y <;> first
    | exact False.elim h
    | exact op_add pins s σ H _ _ v u Q I rx ry ⟨_, _, rfl, rfl, h⟩
    | exact op_add_str pins s σ H _ _ v u Q I rx ry ⟨_, _, rfl, rfl, h.1, h.2⟩
    | (obtain ⟨xs, zs, h1, h2, h3, h4⟩ := h; exact op_cat pins s σ H _ _ v u Q I rx ry ⟨_, _, xs, zs, rfl, rfl, h1, h2, h3, h4⟩)

/-! == and != -/
/-- two things that are alike all through -/
inductive DeepEq (K : PySem.W.Frag) (H : Hp) : Nat → V → V → Prop where
  | flat {n : Nat} {x : V} (f : flatV x = true) : DeepEq K H n x x
  | lst {n : Nat} {a b : Addr} {xs ys : List V} (h1 : SqL K H a xs) (h2 : SqL K H b ys) (hl : xs.length = ys.length) (h : ∀ (i : Nat) x y, xs[i]? = some x → ys[i]? = some y → DeepEq K H n x y) : DeepEq K H (n + 1) (.ref a) (.ref b)
  | tup {n : Nat} {a b : Addr} {xs ys : List V} (h1 : SqT K H a xs) (h2 : SqT K H b ys) (hl : xs.length = ys.length) (h : ∀ (i : Nat) x y, xs[i]? = some x → ys[i]? = some y → DeepEq K H n x y) : DeepEq K H (n + 1) (.ref a) (.ref b)
theorem isListOf {pins : List (Addr × Obj)} {σ : St} {H : Hp} {s : Shared} {a : Addr} {xs : List V} (I : Inv X pins σ H s) (h : SqL X.K H a xs) : ∃ its : List Value, Vals xs its ∧ s.heap.IsList a its.toArray := by
  obtain ⟨its, r, p, _⟩ := I.list h
  exact ⟨its, r, p.isList⟩
theorem units_in1 {A : Around} {n : Nat} (h : A.units + (n + 1) < cLine) : A.in1.units + n < cLine := by
  have e : A.in1.units = A.units + 1 := rfl
  omega
theorem deep_rc {pins : List (Addr × Obj)} {σ : St} {H : Hp} {s : Shared} (I : Inv X pins σ H s) : ∀ {n : Nat} {x y : V}, DeepEq X.K H n x y → ∀ (A : Around) {u v : Value}, A.units + n < cLine → RelV x u → RelV y v → SeqAt.EqAt A s u v true
  | _, _, _, .flat f, A, u, v, hu, rx, ry => by
    have e := eqAt_V (A := A) (s := s) rx ry f f
    rename_i n x
    have q : eqV x x = true := by cases x <;> first | rfl | (simp [eqV]; done) | exact absurd f (by simp [flatV])
    rw [q] at e
    exact e
  | _, _, _, @DeepEq.lst _ _ n a b xs ys h1 h2 hl h, A, u, v, hu, rx, ry => by
    cases rx; cases ry
    by_cases hab : a = b
    · subst hab; exact SeqAt.EqAt.same _
    · obtain ⟨its, r1, p1⟩ := isListOf I h1
      obtain ⟨its2, r2, p2⟩ := isListOf I h2
      have e1 := r1.length
      have e2 := r2.length
      have q := SeqAt.RcAt.lists (A := A) (e := fun _ => true) p1 p2 (by simp; omega) (by omega) (fun j j1 j2 => by
        have j1' : j < its.length := by simpa using j1
        have j2' : j < its2.length := by simpa using j2
        obtain ⟨w1, q1, s1⟩ := r1.get (i := j) (x := xs[j]'(by omega)) (by simp)
        obtain ⟨w2, q2, s2⟩ := r2.get (i := j) (x := ys[j]'(by omega)) (by simp)
        have z1 : its.toArray[j] = w1 := by
          have := List.getElem?_eq_some_iff.mp q1
          obtain ⟨_, z⟩ := this
          simpa using z
        have z2 : its2.toArray[j] = w2 := by
          have := List.getElem?_eq_some_iff.mp q2
          obtain ⟨_, z⟩ := this
          simpa using z
        rw [z1, z2]
        exact deep_rc I (h j _ _ (by simp) (by simp)) A.in1 (units_in1 hu) s1 s2)
      have : ((List.range its.toArray.size).all fun _ => true) = true := by simp
      rw [this] at q
      exact SeqAt.EqAt.of_refs hab q
  | _, _, _, @DeepEq.tup _ _ n a b xs ys h1 h2 hl h, A, u, v, hu, rx, ry => by
    cases rx; cases ry
    by_cases hab : a = b
    · subst hab; exact SeqAt.EqAt.same _
    · obtain ⟨its, r1, p1, _⟩ := I.tuple h1
      obtain ⟨its2, r2, p2, _⟩ := I.tuple h2
      have e1 := r1.length
      have e2 := r2.length
      have q := SeqAt.RcAt.tuples (A := A) (e := fun _ => true) p1 p2 (by omega) (fun j j1 j2 => by
        have j1' : j < its.length := by simpa using j1
        have j2' : j < its2.length := by simpa using j2
        obtain ⟨w1, q1, s1⟩ := r1.get (i := j) (x := xs[j]'(by omega)) (by simp)
        obtain ⟨w2, q2, s2⟩ := r2.get (i := j) (x := ys[j]'(by omega)) (by simp)
        have z1 : its.toArray[j] = w1 := by
          have := List.getElem?_eq_some_iff.mp q1
          obtain ⟨_, z⟩ := this
          simpa using z
        have z2 : its2.toArray[j] = w2 := by
          have := List.getElem?_eq_some_iff.mp q2
          obtain ⟨_, z⟩ := this
          simpa using z
        rw [z1, z2]
        exact deep_rc I (h j _ _ (by simp) (by simp)) A.in1 (units_in1 hu) s1 s2)
      have : (((List.range (min its.toArray.size its2.toArray.size)).all fun _ => true) && its.toArray.size == its2.toArray.size) = true := by simp; omega
      rw [this] at q
      exact SeqAt.EqAt.of_refs hab q
end
end L2

set_option maxHeartbeats 4000000
namespace L2
open PySem PySem.Spec PyProof.Rows

section
variable {X : Cx} {a b c : Expr} {ta tb tc : TE} {pos : Pos}
/-- == of two lists of flat things -/
def eqVs (xs ys : List V) : Bool := xs.length == ys.length && (List.range xs.length).all fun i => eqV (xs.getD i .non) (ys.getD i .non)
theorem eqVs_range {xs ys : List V} {us ws : List Value} (r1 : Vals xs us) (r2 : Vals ys ws) (f1 : xs.all flatV = true) (f2 : ys.all flatV = true) (A : Around) (s : Shared) :
    ∀ j (h1 : j < us.toArray.size) (h2 : j < ws.toArray.size), SeqAt.EqAt A s us.toArray[j] ws.toArray[j] (eqV (xs.getD j .non) (ys.getD j .non)) := fun j j1 j2 => by
  have e1 := r1.length
  have e2 := r2.length
  have j1' : j < us.length := by simpa using j1
  have j2' : j < ws.length := by simpa using j2
  have x1 : j < xs.length := by omega
  have y1 : j < ys.length := by omega
  obtain ⟨w1, q1, s1⟩ := r1.get (i := j) (x := xs[j]) (by simp)
  obtain ⟨w2, q2, s2⟩ := r2.get (i := j) (x := ys[j]) (by simp)
  have z1 : us.toArray[j] = w1 := by
    obtain ⟨_, z⟩ := List.getElem?_eq_some_iff.mp q1
    simpa using z
  have z2 : ws.toArray[j] = w2 := by
    obtain ⟨_, z⟩ := List.getElem?_eq_some_iff.mp q2
    simpa using z
  rw [z1, z2]
  have g1 : xs.getD j .non = xs[j] := by simp [List.getD, x1]
  have g2 : ys.getD j .non = ys[j] := by simp [List.getD, y1]
  rw [g1, g2]
  exact eqAt_V s1 s2 (List.all_eq_true.mp f1 _ (List.getElem_mem _)) (List.all_eq_true.mp f2 _ (List.getElem_mem _))
/-- the answer of == for two objects -/
def EqRef (K : PySem.W.Frag) (H : Hp) (p q : Addr) (k : Bool) : Prop :=
  (k = true ∧ DeepEq K H 4 (.ref p) (.ref q)) ∨
  (∃ xs ys, SqL K H p xs ∧ SqL K H q ys ∧ xs.all flatV = true ∧ ys.all flatV = true ∧ k = eqVs xs ys) ∨
  (k = false ∧ ∃ xs ys, SqL K H p xs ∧ SqL K H q ys ∧ xs.length ≠ ys.length) ∨
  (∃ xs ys, SqT K H p xs ∧ SqT K H q ys ∧ xs.all flatV = true ∧ ys.all flatV = true ∧ k = eqVs xs ys)
theorem eqRef_rc {pins : List (Addr × Obj)} {σ : St} {H : Hp} {s : Shared} {p q : Addr} {k : Bool} (I : Inv X pins σ H s) (hu : X.A.units + 8 < cLine) (h : EqRef X.K H p q k) :
    SeqAt.RcAt X.A s (.ref p) (.ref q) k ∧ SeqAt.RcNeAt X.A s (.ref p) (.ref q) (!k) := by
  have deep : ∀ {xs ys : List V} {n : Nat}, n ≤ 4 → (SqL X.K H p xs ∧ SqL X.K H q ys ∨ SqT X.K H p xs ∧ SqT X.K H q ys) → xs.length = ys.length → (∀ (i : Nat) x y, xs[i]? = some x → ys[i]? = some y → DeepEq X.K H n x y) →
      SeqAt.RcAt X.A s (.ref p) (.ref q) true ∧ SeqAt.RcNeAt X.A s (.ref p) (.ref q) (!true) := fun {xs ys n} hn hq hl hd => by
    have items : ∀ {us ws : List Value}, Vals xs us → Vals ys ws → ∀ j (h1 : j < us.toArray.size) (h2 : j < ws.toArray.size), SeqAt.EqAt X.A.in1 s us.toArray[j] ws.toArray[j] true := fun {us ws} r1 r2 j j1 j2 => by
      have e1 := r1.length
      have e2 := r2.length
      have j1' : j < us.length := by simpa using j1
      have j2' : j < ws.length := by simpa using j2
      obtain ⟨w1, q1, s1⟩ := r1.get (i := j) (x := xs[j]'(by omega)) (by simp)
      obtain ⟨w2, q2, s2⟩ := r2.get (i := j) (x := ys[j]'(by omega)) (by simp)
      have z1 : us.toArray[j] = w1 := by
        obtain ⟨_, z⟩ := List.getElem?_eq_some_iff.mp q1
        simpa using z
      have z2 : ws.toArray[j] = w2 := by
        obtain ⟨_, z⟩ := List.getElem?_eq_some_iff.mp q2
        simpa using z
      rw [z1, z2]
      exact deep_rc I (hd j _ _ (by simp) (by simp)) X.A.in1 (by have e : X.A.in1.units = X.A.units + 1 := rfl; omega) s1 s2
    rcases hq with ⟨h1, h2⟩ | ⟨h1, h2⟩
    · obtain ⟨its, r1, p1⟩ := isListOf I h1
      obtain ⟨its2, r2, p2⟩ := isListOf I h2
      have e1 := r1.length
      have e2 := r2.length
      have z : ((List.range its.toArray.size).all fun _ => true) = true := by simp
      have a1 := SeqAt.RcAt.lists (A := X.A) (e := fun _ => true) p1 p2 (by simp; omega) (by omega) (items r1 r2)
      have a2 := SeqAt.RcNeAt.lists (A := X.A) (e := fun _ => true) p1 p2 (by simp; omega) (by omega) (items r1 r2)
      rw [z] at a1 a2
      exact ⟨a1, a2⟩
    · obtain ⟨its, r1, p1, _⟩ := I.tuple h1
      obtain ⟨its2, r2, p2, _⟩ := I.tuple h2
      have e1 := r1.length
      have e2 := r2.length
      have z : (((List.range (min its.toArray.size its2.toArray.size)).all fun _ => true) && its.toArray.size == its2.toArray.size) = true := by simp; omega
      have a1 := SeqAt.RcAt.tuples (A := X.A) (e := fun _ => true) p1 p2 (by omega) (items r1 r2)
      have a2 := SeqAt.RcNeAt.tuples (A := X.A) (e := fun _ => true) p1 p2 (by omega) (items r1 r2)
      rw [z] at a1 a2
      exact ⟨a1, a2⟩
  have flatL : ∀ {xs ys : List V}, SqL X.K H p xs → SqL X.K H q ys → xs.length ≠ ys.length → SeqAt.RcAt X.A s (.ref p) (.ref q) false ∧ SeqAt.RcNeAt X.A s (.ref p) (.ref q) (!false) := fun {xs ys} h1 h2 hl => by
    obtain ⟨its, r1, p1⟩ := isListOf I h1
    obtain ⟨its2, r2, p2⟩ := isListOf I h2
    have e1 := r1.length
    have e2 := r2.length
    have z : (its.toArray.size != its2.toArray.size) = true := by simp; omega
    exact ⟨SeqAt.RcAt.lists_lengths p1 p2 z (by omega), SeqAt.RcNeAt.lists_lengths p1 p2 z (by omega)⟩
  rcases h with ⟨rfl, h⟩ | ⟨xs, ys, h1, h2, f1, f2, rfl⟩ | ⟨rfl, xs, ys, h1, h2, hl⟩ | ⟨xs, ys, h1, h2, f1, f2, rfl⟩
  · cases h with
    | flat f => simp [flatV] at f
    | lst h1 h2 hl hd => exact deep (by decide) (.inl ⟨h1, h2⟩) hl hd
    | tup h1 h2 hl hd => exact deep (by decide) (.inr ⟨h1, h2⟩) hl hd
  · by_cases hl : xs.length = ys.length
    · obtain ⟨its, r1, p1⟩ := isListOf I h1
      obtain ⟨its2, r2, p2⟩ := isListOf I h2
      have e1 := r1.length
      have e2 := r2.length
      have z : eqVs xs ys = (List.range its.toArray.size).all fun i => eqV (xs.getD i .non) (ys.getD i .non) := by
        unfold eqVs
        rw [List.size_toArray, ← e1, hl]
        simp
      rw [z]
      exact ⟨SeqAt.RcAt.lists p1 p2 (by simp; omega) (by omega) (eqVs_range r1 r2 f1 f2 _ _), SeqAt.RcNeAt.lists p1 p2 (by simp; omega) (by omega) (eqVs_range r1 r2 f1 f2 _ _)⟩
    · have z : eqVs xs ys = false := by unfold eqVs; simp [hl]
      rw [z]
      exact flatL h1 h2 hl
  · exact flatL h1 h2 hl
  · obtain ⟨its, r1, p1, _⟩ := I.tuple h1
    obtain ⟨its2, r2, p2, _⟩ := I.tuple h2
    have e1 := r1.length
    have e2 := r2.length
    by_cases hl : xs.length = ys.length
    · have z : eqVs xs ys = ((List.range (min its.toArray.size its2.toArray.size)).all (fun i => eqV (xs.getD i .non) (ys.getD i .non)) && its.toArray.size == its2.toArray.size) := by
        unfold eqVs
        rw [List.size_toArray, List.size_toArray, ← e1, ← e2, hl]
        simp
      rw [z]
      exact ⟨SeqAt.RcAt.tuples p1 p2 (by omega) (eqVs_range r1 r2 f1 f2 _ _), SeqAt.RcNeAt.tuples p1 p2 (by omega) (eqVs_range r1 r2 f1 f2 _ _)⟩
    · have z : eqVs xs ys = ((List.range (min its.toArray.size its2.toArray.size)).all (fun i => eqV (xs.getD i .non) (ys.getD i .non)) && its.toArray.size == its2.toArray.size) := by
        have z1 : eqVs xs ys = false := by unfold eqVs; simp [hl]
        have z2 : (its.toArray.size == its2.toArray.size) = false := by simp; omega
        rw [z1, z2, Bool.and_false]
      rw [z]
      exact ⟨SeqAt.RcAt.tuples p1 p2 (by omega) (eqVs_range r1 r2 f1 f2 _ _), SeqAt.RcNeAt.tuples p1 p2 (by omega) (eqVs_range r1 r2 f1 f2 _ _)⟩

def cEq (K : PySem.W.Frag) : R2 := fun x y H Q => match x, y with
  | .int i, .int j => Q (.bl (decide (i = j))) H
  | .bl i, .bl j => Q (.bl (decide (i = j))) H
  | .str i, .str j => Q (.bl (decide (i = j))) H
  | .non, .non => Q (.bl true) H
  | .non, .int _ => Q (.bl false) H
  | .int _, .non => Q (.bl false) H
  | .non, .str _ => Q (.bl false) H
  | .str _, .non => Q (.bl false) H
  | .non, .bl _ => Q (.bl false) H
  | .bl _, .non => Q (.bl false) H
  | .ref p, .ref q => ∃ k, EqRef K H p q k ∧ Q (.bl k) H
  | _, _ => False
def cNe (K : PySem.W.Frag) : R2 := fun x y H Q => match x, y with
  | .int i, .int j => Q (.bl (!decide (i = j))) H
  | .bl i, .bl j => Q (.bl (!decide (i = j))) H
  | .str i, .str j => Q (.bl (!decide (i = j))) H
  | .non, .non => Q (.bl false) H
  | .non, .int _ => Q (.bl true) H
  | .int _, .non => Q (.bl true) H
  | .non, .str _ => Q (.bl true) H
  | .str _, .non => Q (.bl true) H
  | .non, .bl _ => Q (.bl true) H
  | .bl _, .non => Q (.bl true) H
  | .ref p, .ref q => ∃ k, EqRef K H p q k ∧ Q (.bl (!k)) H
  | _, _ => False
theorem dcI {i j : Int} : decide (V.int i = V.int j) = decide (i = j) := by rw [decide_eq_decide]; exact ⟨V.int.inj, congrArg _⟩
theorem dcB {i j : Bool} : decide (V.bl i = V.bl j) = decide (i = j) := by rw [decide_eq_decide]; exact ⟨V.bl.inj, congrArg _⟩
theorem dcS {i j : Str} : decide (V.str i = V.str j) = decide (i = j) := by rw [decide_eq_decide]; exact ⟨V.str.inj, congrArg _⟩
theorem o_eq (hu : X.A.units + 8 < cLine) : OpR X (compareOp .Eq) (cEq X.K) := by
  intro pins s σ H x y v u Q I rx ry h
  have go : rEq x y H Q → wpAny (model X.prog X.w) X.A (compareOp .Eq v u) (EP X pins σ Q) X.xe s := fun q => op_eq pins s σ H _ _ v u Q I rx ry q
  cases x <;> cases y <;> first
    | exact False.elim h
    | exact go ⟨rfl, h⟩
    | exact go ⟨rfl, by rw [dcI]; exact h⟩
    | exact go ⟨rfl, by rw [dcB]; exact h⟩
    | exact go ⟨rfl, by rw [dcS]; exact h⟩
    | (obtain ⟨k, e, q⟩ := h
       cases rx; cases ry
       exact (eqRef_rc I hu e).1 _ _ _ _ ⟨.bl k, H, I, rfl, q⟩)
theorem o_ne (hu : X.A.units + 8 < cLine) : OpR X (compareOp .NotEq) (cNe X.K) := by
  intro pins s σ H x y v u Q I rx ry h
  have go : rNe x y H Q → wpAny (model X.prog X.w) X.A (compareOp .NotEq v u) (EP X pins σ Q) X.xe s := fun q => op_ne pins s σ H _ _ v u Q I rx ry q
  cases x <;> cases y <;> first
    | exact False.elim h
    | exact go ⟨rfl, h⟩
    | exact go ⟨rfl, by rw [dcI]; exact h⟩
    | exact go ⟨rfl, by rw [dcB]; exact h⟩
    | exact go ⟨rfl, by rw [dcS]; exact h⟩
    | (obtain ⟨k, e, q⟩ := h
       cases rx; cases ry
       exact (eqRef_rc I hu e).2 _ _ _ _ ⟨.bl (!k), H, I, rfl, q⟩)
/-! is, is not -/
def cIs : R2 := fun x y H Q => match x, y with
  | .bl i, .bl j => Q (.bl (decide (i = j))) H
  | x, .non => Q (.bl (decide (x = .non))) H
  | .non, .bl _ => Q (.bl false) H
  | .int _, .bl _ => Q (.bl false) H
  | .str _, .bl _ => Q (.bl false) H
  | .ref _, .bl _ => Q (.bl false) H
  | _, _ => False
def cIsNot : R2 := fun x y H Q => match x, y with
  | .bl i, .bl j => Q (.bl (!decide (i = j))) H
  | x, .non => Q (.bl (!decide (x = .non))) H
  | _, _ => False
/-! in, not in -/
def strIn (i j : Str) : Bool := !(Builtin.Str.occurrences j i 0 j.length 1).isEmpty
def cIn (K : PySem.W.Frag) (neg : Bool) : R2 := fun x y H Q => match y with
  | .ref p => ∃ xs, (SqL K H p xs ∨ SqT K H p xs) ∧ flatV x = true ∧ xs.all flatV = true ∧ Q (.bl (if neg then !inV x xs else inV x xs)) H
  | .str j => match x with | .str i => Q (.bl (if neg then !strIn i j else strIn i j)) H | _ => False
  | _ => False
theorem o_in : OpR X (compareOp .In) (cIn X.K false) := by
  intro pins s σ H x y v u Q I rx ry h
  cases y with
  | ref p =>
    obtain ⟨xs, h1, h2, h3, q⟩ := h
    exact op_in_seq pins s σ H _ _ v u Q I rx ry ⟨p, xs, rfl, h1, h2, h3, q⟩
  | str j =>
    cases x with
    | str i => exact op_in_str pins s σ H _ _ v u Q I rx ry ⟨i, j, rfl, rfl, h⟩
    | _ => exact False.elim h
  | _ => exact False.elim h
/-! truth, tests -/
def cBool (x : V) (k : Bool → Prop) : Prop := match x with | .bl b => k b | _ => False
theorem cBool_of {x : V} {k : Bool → Prop} (h : cBool x k) : ∃ b, x = .bl b ∧ k b := by
  cases x <;> first | exact False.elim h | exact ⟨_, rfl, h⟩
def cTst (t : TE) : TT := fun σ H Q => t σ H fun x H' => cBool x fun k => Q k H'
def cTru (K : PySem.W.Frag) (t : TE) : TT := fun σ H Q => t σ H fun x H' => match x with
  | .non => Q false H'
  | .bl b => Q b H'
  | .int i => Q (decide (i ≠ 0)) H'
  | .str y => y.length ≤ sizeLine ∧ Q (decide (y.length ≠ 0)) H'
  | .ref p => ∃ k, TruV K (.ref p) H' k ∧ Q k H'
  | .byt p => ∃ k, TruV K (.byt p) H' k ∧ Q k H'
  | _ => False
theorem pt_tru {t : TE} (ha : PE X a t) (he : ∀ whole, isTrue a X.env whole = (do let v ← whole; standAt a.pos; holding [v] (truthy v)) := by intro _; rfl) : PT X a (cTru X.K t) := by
  have h := pt_truth ha he
  have e : cTru X.K t = (fun σ H Q => t σ H fun x H' => ∃ k, TruV X.K x H' k ∧ Q k H') := by
    funext σ H Q
    unfold cTru
    congr 1
    funext x H'
    apply propext
    cases x with
    | non => exact ⟨fun q => ⟨false, rfl, q⟩, fun ⟨k, h1, h2⟩ => by have h1 : k = false := h1; subst h1; exact h2⟩
    | bl b => exact ⟨fun q => ⟨b, rfl, q⟩, fun ⟨k, h1, h2⟩ => by have h1 : k = b := h1; subst h1; exact h2⟩
    | int i =>
      have z : decide (i ≠ 0) = (i != 0) := by by_cases e : i = 0 <;> simp [e]
      exact ⟨fun q => ⟨decide (i ≠ 0), z, q⟩, fun ⟨k, h1, h2⟩ => by have h1 : k = (i != 0) := h1; rw [← z] at h1; subst h1; exact h2⟩
    | str y =>
      have z : decide (y.length ≠ 0) = ((y.length : Int) != 0) := by
        by_cases e : y.length = 0
        · simp [e]
        · have : (y.length : Int) ≠ 0 := by omega
          simp [e, this]
      exact ⟨fun q => ⟨decide (y.length ≠ 0), ⟨q.1, z⟩, q.2⟩, fun ⟨k, h1, h2⟩ => by
        have h1 : y.length ≤ sizeLine ∧ k = ((y.length : Int) != 0) := h1
        obtain ⟨h0, h1⟩ := h1
        rw [← z] at h1; subst h1; exact ⟨h0, h2⟩⟩
    | ref p => exact Iff.rfl
    | byt y => exact Iff.rfl
    | flt y => exact ⟨fun q => q.elim, fun ⟨k, h1, h2⟩ => h1.elim⟩
    | ty y => exact ⟨fun q => q.elim, fun ⟨k, h1, h2⟩ => h1.elim⟩
  rw [e]
  exact h

theorem cBool_eq {x : V} {k : Bool → Prop} : cBool x k = ∃ b, x = .bl b ∧ k b := propext ⟨cBool_of, fun ⟨b, e, q⟩ => by subst e; exact q⟩
theorem cTst_eq (t : TE) : cTst t = tTest t := by
  funext σ H Q
  unfold cTst tTest
  congr 1
  funext x H'
  exact cBool_eq
theorem t_cmp {op : CmpOp} {r : R2} (ho : OpR X (compareOp op) r) (ha : PE X a ta) (hb : PE X b tb) (hm : behindInMarks op b = false) : PT X (.Compare a [op] [b] pos) (cTst (tOp r ta tb)) := by
  rw [cTst_eq]
  exact pt_cmpR ho ha hb hm
def cChain (r r' : R2) (ta tb tc : TE) : TE := fun σ H Q => ta σ H fun x H1 => tb σ H1 fun y H2 => r x y H2 fun z H3 => cBool z fun k =>
  (if k = true then tc σ H3 fun w' H4 => r' y w' H4 Q else Q (.bl false) H3)
def cAndV (ta tb : TE) : TE := fun σ H Q => ta σ H fun x H1 => cBool x fun c => if c = true then tb σ H1 Q else Q (.bl false) H1
def cOrV (ta tb : TE) : TE := fun σ H Q => ta σ H fun x H1 => cBool x fun c => if c = true then Q (.bl true) H1 else tb σ H1 Q
def cNotV (ta : TE) : TE := fun σ H Q => ta σ H fun x H1 => cBool x fun c => Q (.bl (!c)) H1
variable {rest : List Expr}
/-! indexes -/
def cIx (K : PySem.W.Frag) : R2 := fun x y H Q => match x, y with
  | .ref p, .int i => ∃ xs v, (SqL K H p xs ∨ SqT K H p xs) ∧ atI xs i = some v ∧ Q v H
  | .str z, .int i => z.length ≤ sizeLine ∧ ∃ c, atI z.cps.toList i = some c ∧ Q (.str ⟨#[c]⟩) H
  | _, _ => False
theorem i_seq : IxR X (cIx X.K) := ix_seq.imp fun x y H Q h => by
  cases x <;> cases y <;> first
    | exact False.elim h
    | (obtain ⟨xs, v, h1 | h1, h2, h3⟩ := h
       · exact .inl ⟨_, xs, _, v, rfl, rfl, h1, h2, h3⟩
       · exact .inr (.inl ⟨_, xs, _, v, rfl, rfl, h1, h2, h3⟩))
    | (obtain ⟨h1, c, h2, h3⟩ := h
       exact .inr (.inr ⟨_, _, c, rfl, rfl, h1, h2, h3⟩))
/-! slices of lists -/
def cSlL (K : PySem.W.Frag) : V → Option Int → Option Int → Hp → VK → Prop := fun x lo hi H Q => match x with
  | .ref p => ∃ xs, SqL K H p xs ∧ ∀ q, H q = none → Q (.ref q) (upd H q (.lst (cutV xs lo hi)))
  | _ => False
theorem s_list : SlR X (cSlL X.K) := sl_list.imp fun x lo hi H Q h => by
  cases x <;> first | exact False.elim h | (obtain ⟨xs, h1, h2⟩ := h; exact ⟨_, xs, rfl, h1, h2⟩)
/-! calls -/
def cLen (K : PySem.W.Frag) : List V → Hp → VK → Prop := fun vs H Q => match vs with
  | [.str z] => z.length ≤ sizeLine ∧ Q (.int z.length) H
  | [.ref p] => (∃ ys, (SqL K H p ys ∨ SqT K H p ys) ∧ Q (.int ys.length) H) ∨ ∃ kvs, H p = some (.dK kvs) ∧ Q (.int kvs.length) H
  | _ => False
theorem c_len : CallR X (.builtin "len") (cLen X.K) := by
  intro pins s σ H xs us Q I r h
  match xs, h with
  | [.str z], h => exact call_len_str pins s σ H _ us Q I r ⟨z, rfl, h.1, h.2⟩
  | [.ref p], h =>
    rcases h with ⟨ys, h1, h2⟩ | ⟨kvs, h1, h2⟩
    · exact call_len_seq pins s σ H _ us Q I r ⟨p, ys, rfl, h1, h2⟩
    · exact call_lenD pins s σ H _ us Q I r ⟨p, kvs, rfl, h1, h2⟩
def cInt : List V → Hp → VK → Prop := fun vs H Q => match vs with
  | [.int i] => Q (.int i) H
  | [.bl k] => Q (.int (if k then 1 else 0)) H
  | _ => False
def cList (K : PySem.W.Frag) : List V → Hp → VK → Prop := fun vs H Q => match vs with
  | [.ref p] => ∃ ys, (SqL K H p ys ∨ SqT K H p ys) ∧ ∀ l, H l = none → Q (.ref l) (upd H l (.lst ys))
  | _ => False
theorem c_list : CallR X (.type "list") (cList X.K) := by
  intro pins s σ H xs us Q I r h
  match xs, h with
  | [.ref p], h =>
    obtain ⟨ys, h1, h2⟩ := h
    exact call_list_of pins s σ H _ us Q I r ⟨p, ys, rfl, h1, h2⟩
def cTuple (K : PySem.W.Frag) : List V → Hp → VK → Prop := fun vs H Q => match vs with
  | [.ref p] => ∃ ys, ((SqL K H p ys ∧ ∀ l, H l = none → Q (.ref l) (upd H l (.tup ys))) ∨ (SqT K H p ys ∧ Q (.ref p) H))
  | _ => False
theorem c_tuple : CallR X (.type "tuple") (cTuple X.K) := by
  intro pins s σ H xs us Q I r h
  match xs, h with
  | [.ref p], h =>
    obtain ⟨ys, h1⟩ := h
    exact call_tuple_of pins s σ H _ us Q I r ⟨p, ys, rfl, h1⟩
def cMin : List V → Hp → VK → Prop := fun vs H Q => match vs with
  | [.int i, .int j] => Q (.int (if j < i then j else i)) H
  | _ => False
theorem c_min (hc : X.calm = true) : CallR X (.builtin "min") cMin := by
  intro pins s σ H xs us Q I r h
  match xs, h with
  | [.int i, .int j], h => exact call_min2 hc pins s σ H _ us Q I r ⟨i, j, rfl, h⟩
def cMax : List V → Hp → VK → Prop := fun vs H Q => match vs with
  | [.int i, .int j] => Q (.int (if j > i then j else i)) H
  | _ => False
def cIsinst (K : PySem.W.Frag) : List V → Hp → VK → Prop := fun vs H Q => match vs with
  | [x, .ty T] => ∃ t b, TyOf K H x t ∧ PySem.W.kitOne K t (.type T) = some b ∧ Q (.bl b) H
  | [x, .ref C] => ∃ t b, TyOf K H x t ∧ PySem.W.kitOne K t (.ref C) = some b ∧ Q (.bl b) H
  | _ => False
theorem c_isinst : CallR X (.builtin "isinstance") (cIsinst X.K) := by
  intro pins s σ H xs us Q I r h
  match xs, h with
  | [x, .ty T], h =>
    obtain ⟨t, k, h1, h2, h3⟩ := h
    obtain ⟨u, w', rfl, r1, r2⟩ := vals2 r
    cases r2
    exact isinst_ok I r1 h1 h2 fun tk => ⟨.bl k, H, I.tok tk, rfl, h3⟩
  | [x, .ref C], h =>
    obtain ⟨t, k, h1, h2, h3⟩ := h
    obtain ⟨u, w', rfl, r1, r2⟩ := vals2 r
    cases r2
    exact isinst_ok I r1 h1 h2 fun tk => ⟨.bl k, H, I.tok tk, rfl, h3⟩
/-! scopes of comprehensions, by a look -/
def csChk (onames : List (Str × NameKind)) (scope : Scope) : Bool := scope.names.all fun y => decide (y.2 ≠ .cell) && (decide (y.2 ≠ .local) || decide (scope.names.lookup y.1 = some .local)) && (decide (y.2 ≠ .free) || decide (onames.lookup y.1 = some .cell) || decide (onames.lookup y.1 = some .free))
theorem CScope.of {scope : Scope} (onames : List (Str × NameKind)) (h : csChk onames scope = true) (k : scope.kind = .function := by rfl) (e : X.env.scope.names = onames := by rfl) : CScope X scope := by
  have q := List.all_eq_true.mp h
  refine ⟨k, fun y hy => ?_, fun y hy hl => ?_, fun y hy hf => ?_⟩
  · have z := q y hy
    simp only [Bool.and_eq_true, decide_eq_true_eq] at z
    exact z.1.1
  · have z := q y hy
    simp only [Bool.and_eq_true, Bool.or_eq_true, decide_eq_true_eq] at z
    exact z.1.2.resolve_left fun w => w hl
  · have z := q y hy
    simp only [Bool.and_eq_true, Bool.or_eq_true, decide_eq_true_eq] at z
    show X.env.scope.names.lookup y.1 = _ ∨ X.env.scope.names.lookup y.1 = _
    rw [e]
    rcases z.2 with (w | w) | w
    · exact absurd hf w
    · exact .inl w
    · exact .inr w
def cnChk (XN : List Str) (scope : Scope) (N : List Str) (k : Nat) (sel : List Nat) : Bool := decide (N.length = k + sel.length) && (List.range sel.length).all fun i => match sel[i]?, N[k + i]? with
  | some j, some x => decide (XN[j]? = some x) && decide (scope.names.lookup x = some .free)
  | _, _ => false
theorem CNames.of {scope : Scope} {N : List Str} {k : Nat} {sel : List Nat} (XN : List Str) (h : cnChk XN scope N k sel = true) (e : X.N = XN := by rfl) : CNames X scope N k sel := by
  unfold cnChk at h
  simp only [Bool.and_eq_true, decide_eq_true_eq] at h
  refine ⟨h.1, fun i j x h1 h2 => ?_⟩
  have hi : i < sel.length := (List.getElem?_eq_some_iff.mp h1).1
  have q := List.all_eq_true.mp h.2 i (List.mem_range.mpr hi)
  rw [h1, h2] at q
  simp only [Bool.and_eq_true, decide_eq_true_eq] at q
  rw [e]
  exact q
end
end L2

set_option maxHeartbeats 4000000
namespace L2
open PySem PySem.Spec PyProof.Rows
theorem hr8 {A : Around} {k : Nat} (hr : Room k A) : A.units + 8 < cLine := by have := hr.units; omega
section
variable {X : Cx} {a b : Expr} {te : TE}
def cPart (t : TE) : TO := fun σ H Q => t σ H fun x H1 => match x with | .int i => Q (some i) H1 | _ => False
theorem cPart_eq (t : TE) : cPart t = tPart t := by
  funext σ H Q
  unfold cPart tPart
  congr 1
  funext x H'
  apply propext
  cases x <;> first
    | exact ⟨fun q => ⟨_, rfl, q⟩, fun ⟨i, e, q⟩ => by cases e; exact q⟩
    | exact ⟨fun q => False.elim q, fun ⟨i, e, q⟩ => by cases e⟩
theorem e_part (h : PE X a te) : PO X (some a) (cPart te) := by
  rw [cPart_eq]
  exact po_some h
def cNeg : V → Hp → VK → Prop := fun x H Q => match x with | .int i => Q (.int (-i)) H | _ => False
end

/-! comprehensions in the forms one uses: one name as target -/
section
variable {K : PySem.W.Frag} {σ : St} {sel : List Nat} {rest : St} {H : Hp} {p : Addr} {tt : TT} {te : TE} {Q : VK}
abbrev CompGoal (J : It) (σ : St) (k : Nat) (sel : List Nat) (g : TG) (tt : TT) (te : TE) (Q : VK) (H1 : Hp) (p : Addr) : Prop :=
  ∃ W : Nat → Nat → St → Hp → Prop, (∃ m, W 0 m (cst σ k sel) (upd H1 p (.lst []))) ∧ ∀ i m σ2 H2, W i m σ2 H2 →
    (J.stop i H2 ∧ Q (.ref p) H2) ∨ (J.go i H2 ∧ ∀ x H3, J.yld i H2 x H3 → g x σ2 H3 fun σ4 H4 => tt σ4 H4 fun b H5 =>
      if b = true then te σ4 H5 fun v H6 => ∃ ys, H6 p = some (.lst ys) ∧ ys.length < sizeLine ∧ ∃ m', m' < m ∧ W (i + 1) m' σ4 (upd H6 p (.lst (ys ++ [v]))) else ∃ m', m' < m ∧ W (i + 1) m' σ4 H5)
theorem src_list {a : Addr} {xs : List V} {Pv : Nat → Hp → Prop} (hl : ∀ i H2, i ≤ xs.length → Pv i H2 → SqL K H2 a xs) : ∀ i H2, i < xs.length → Pv i H2 → (Itl K a).go i H2 ∧ ∀ x H3, (Itl K a).yld i H2 x H3 → H3 = H2 ∧ x = xs.getD i .non := fun i H2 hi hP => by
  have q := hl i H2 (Nat.le_of_lt hi) hP
  have e : xs[i]? = some (xs.getD i .non) := by simp [List.getD, hi]
  refine ⟨⟨xs, _, q, e⟩, fun x H3 ⟨h1, h2⟩ => ⟨h1, ?_⟩⟩
  have := h2 xs q
  rw [e] at this
  exact (Option.some.inj this).symm
theorem same_upd {H : Hp} {p : Addr} {o : HO} (hp : H p = none) : Same H (upd H p o) := fun b u e => by rw [upd_ne (ne_of_none e hp)]; exact e
end
end L2

set_option maxHeartbeats 4000000
namespace L2
open PySem PySem.Spec PyProof.Rows
def cRef (x : V) (k : Addr → Prop) : Prop := match x with | .ref p => k p | _ => False
theorem cRef_eq {x : V} {k : Addr → Prop} : (∃ p, x = .ref p ∧ k p) = cRef x k := by
  apply propext
  cases x <;> first
    | exact ⟨fun ⟨p, e, q⟩ => by cases e; exact q, fun q => ⟨_, rfl, q⟩⟩
    | exact ⟨fun ⟨p, e, q⟩ => (by cases e), fun q => False.elim q⟩
def cInt1 (vs : List V) (k : Int → Prop) : Prop := match vs with | [.int j] => k j | _ => False
theorem cInt1_eq {vs : List V} {k : Int → Prop} : (∃ j, vs = [.int j] ∧ k j) = cInt1 vs k := by
  apply propext
  constructor
  · rintro ⟨j, rfl, q⟩; exact q
  · intro h
    unfold cInt1 at h
    split at h
    · exact ⟨_, rfl, h⟩
    · exact h.elim
def cInt2 (vs : List V) (k : Int → Int → Prop) : Prop := match vs with | [.int i, .int j] => k i j | _ => False
theorem cInt2_eq {vs : List V} {k : Int → Int → Prop} : (∃ i j, vs = [.int i, .int j] ∧ k i j) = cInt2 vs k := by
  apply propext
  constructor
  · rintro ⟨i, j, rfl, q⟩; exact q
  · intro h
    unfold cInt2 at h
    split at h
    · exact ⟨_, _, rfl, h⟩
    · exact h.elim
/-- what a loop wants, the iterator being there -/
def ForGoal (J : It) (g : TG) (tb : TS) (D : Ends) (σ : St) (H : Hp) : Prop := ∃ W : Nat → Nat → St → Hp → Prop, (∃ m, W 0 m σ H) ∧ ∀ i m σ H, W i m σ H →
  (J.stop i H ∧ D.nx σ H) ∨ (J.go i H ∧ ∃ N : St → Hp → Prop, (∀ σ' H', N σ' H' → ∃ m', m' < m ∧ W (i + 1) m' σ' H') ∧ ∀ x H', J.yld i H x H' → g x σ H' fun σ2 H2 => tb { D with nx := N, ct := N, bk := D.nx } σ2 H2)
def CompG (J : It) (σ : St) (k : Nat) (sel : List Nat) (g : TG) (tt : TT) (te : TE) (Q : VK) (H1 : Hp) : Prop := ∀ p, H1 p = none → CompGoal J σ k sel g tt te Q H1 p
section
variable {K : PySem.W.Frag} {te : TE} {ta : TA} {g : TG} {tb : TS} {D : Ends} {σ : St} {H : Hp} {p : Addr} {xs : List V} {k : Nat} {sel : List Nat} {tt : TT} {el : TE} {Q : VK}
theorem tFor_list : tFor (iList K te) g tb D σ H = te σ H (fun x H1 => cRef x fun p => (∃ xs, SqL K H1 p xs) ∧ ForGoal (Itl K p) g tb D σ H1) := by
  unfold tFor iList
  congr 1
  funext x H1
  exact cRef_eq
theorem tFor_tup : tFor (iTup K te) g tb D σ H = te σ H (fun x H1 => cRef x fun p => (∃ xs, SqT K H1 p xs) ∧ ForGoal (Itt K p) g tb D σ H1) := by
  unfold tFor iTup
  congr 1
  funext x H1
  exact cRef_eq
theorem tFor_rng1 : tFor (iRng1 ta) g tb D σ H = ta σ H (fun vs H1 => cInt1 vs fun j => -(2 ^ 62) ≤ j ∧ j < 2 ^ 62 ∧ ForGoal (Itr 0 j.toNat) g tb D σ H1) := by
  unfold tFor iRng1
  congr 1
  funext x H1
  exact cInt1_eq
theorem tFor_rng2 : tFor (iRng2 ta) g tb D σ H = ta σ H (fun vs H1 => cInt2 vs fun i j => (-(2 ^ 62) ≤ i ∧ i < 2 ^ 62 ∧ -(2 ^ 62) ≤ j ∧ j < 2 ^ 62) ∧ ForGoal (Itr i (j - i).toNat) g tb D σ H1) := by
  unfold tFor iRng2
  congr 1
  funext x H1
  exact cInt2_eq
theorem tComp_list : tComp (iList K te) k sel g tt el σ H Q = te σ H (fun x H1 => cRef x fun p => (∃ xs, SqL K H1 p xs) ∧ CompG (Itl K p) σ k sel g tt el Q H1) := by
  unfold tComp iList
  congr 1
  funext x H1
  exact cRef_eq
theorem tComp_tup : tComp (iTup K te) k sel g tt el σ H Q = te σ H (fun x H1 => cRef x fun p => (∃ xs, SqT K H1 p xs) ∧ CompG (Itt K p) σ k sel g tt el Q H1) := by
  unfold tComp iTup
  congr 1
  funext x H1
  exact cRef_eq
theorem tComp_rng1 : tComp (iRng1 ta) k sel g tt el σ H Q = ta σ H (fun vs H1 => cInt1 vs fun j => -(2 ^ 62) ≤ j ∧ j < 2 ^ 62 ∧ CompG (Itr 0 j.toNat) σ k sel g tt el Q H1) := by
  unfold tComp iRng1
  congr 1
  funext x H1
  exact cInt1_eq
/-- a loop over a list that stays as it is -/
theorem for_listG (Pv : Nat → St → Hp → Prop) (h0 : Pv 0 σ H) (hk : ∀ i σ H, i ≤ xs.length → Pv i σ H → SqL K H p xs)
    (hs : ∀ i x σ H, xs[i]? = some x → Pv i σ H → g x σ H fun σ2 H2 => tb { D with nx := Pv (i + 1), ct := Pv (i + 1), bk := D.nx } σ2 H2) (hd : ∀ σ H, Pv xs.length σ H → D.nx σ H) : ForGoal (Itl K p) g tb D σ H := for_list Pv h0 hk hs hd
theorem for_tupG (Pv : Nat → St → Hp → Prop) (h0 : Pv 0 σ H) (hk : ∀ i σ H, i ≤ xs.length → Pv i σ H → SqT K H p xs)
    (hs : ∀ i x σ H, xs[i]? = some x → Pv i σ H → g x σ H fun σ2 H2 => tb { D with nx := Pv (i + 1), ct := Pv (i + 1), bk := D.nx } σ2 H2) (hd : ∀ σ H, Pv xs.length σ H → D.nx σ H) : ForGoal (Itt K p) g tb D σ H := for_tup Pv h0 hk hs hd
theorem for_rngG {lo : Int} {n : Nat} (Pv : Nat → St → Hp → Prop) (h0 : Pv 0 σ H)
    (hs : ∀ (i : Nat) σ H, i < n → Pv i σ H → g (.int (lo + i)) σ H fun σ2 H2 => tb { D with nx := Pv (i + 1), ct := Pv (i + 1), bk := D.nx } σ2 H2) (hd : ∀ σ H, Pv n σ H → D.nx σ H) : ForGoal (Itr lo n) g tb D σ H := for_range Pv h0 hs hd
end
theorem atI_ok {α : Type} {xs : List α} {i : Int} (d : α) (h0 : 0 ≤ i) (h1 : i < xs.length) : atI xs i = some (xs.getD i.toNat d) := by
  obtain ⟨n, rfl⟩ := Int.eq_ofNat_of_zero_le h0
  have hn : n < xs.length := by omega
  have e : xs[n]? = some (xs.getD n d) := by simp [List.getD, hn]
  exact atI_nat e
theorem getD_map {α β : Type} (f : α → β) (xs : List α) (n : Nat) (d : α) : (xs.map f).getD n (f d) = f (xs.getD n d) := by
  simp [List.getD]
theorem atI_map {α β : Type} {f : α → β} {xs : List α} {i : Int} (d : α) (h0 : 0 ≤ i) (h1 : i < xs.length) : atI (xs.map f) i = some (f (xs.getD i.toNat d)) := by
  rw [atI_ok (f d) h0 (by rw [List.length_map]; exact h1), getD_map]
theorem get_map_of {α β : Type} {f : α → β} {xs : List α} {i : Nat} {y : β} (h : (xs.map f)[i]? = some y) : ∃ x, xs[i]? = some x ∧ y = f x := by
  rw [List.getElem?_map] at h
  cases e : xs[i]? with
  | none => rw [e] at h; cases h
  | some x => rw [e] at h; exact ⟨x, rfl, (Option.some.inj h).symm⟩
end L2
namespace L2
open PySem PySem.Spec PyProof.Rows
/-! displays of constants: one lemma, the context a letter -/
def constV : Expr → Option V
  | .Constant (.int i) _ _ => some (.int i)
  | .Constant (.bool b) _ _ => some (.bl b)
  | .Constant .none _ _ => some .non
  | .Constant (.str x) _ _ => some (.str x)
  | _ => none
def constVs : List Expr → Option (List V)
  | [] => some []
  | e :: r => match constV e, constVs r with | some v, some vs => some (v :: vs) | _, _ => none
def tVals (vs : List V) : TA := fun _ H Q => Q vs H
theorem pe_constV {X : Cx} {e : Expr} {v : V} (h : constV e = some v) : PE X e (tC v) := by
  unfold constV at h
  split at h <;> first
    | (cases h; exact pe_int)
    | (cases h; exact pe_bl)
    | (cases h; exact pe_non)
    | (cases h; exact pe_str)
    | cases h
theorem star_const {e : Expr} {es : List Expr} {env : Env} {v : V} (h : constV e = some v) : starEach (e :: es) env = (false, eval e env) :: starEach es env := by
  unfold constV at h
  split at h <;> first | rfl | cases h
theorem pa_consts {X : Cx} : ∀ {es : List Expr} {vs : List V}, constVs es = some vs → PA X es (tVals vs)
  | [], vs, h => by
    have e : vs = [] := (Option.some.inj h).symm
    subst e
    exact fun pos pins s σ H Q I q => pa_nil pos pins s σ H Q I q
  | e :: r, vs, h => by
    unfold constVs at h
    cases h1 : constV e with
    | none => rw [h1] at h; cases h
    | some v =>
      cases h2 : constVs r with
      | none => rw [h1, h2] at h; cases h
      | some ws =>
        rw [h1, h2] at h
        have e' : v :: ws = vs := Option.some.inj h
        subst e'
        exact fun pos pins s σ H Q I q => pa_cons (pe_constV h1) (pa_consts h2) (star_const h1) pos pins s σ H Q I q
/-- {k: v, ..} of constants -/
def constKs : List (Option Expr) → List Expr → Option (List (Key × V))
  | [], [] => some []
  | some k :: ks, v :: vs => match constV k, constV v, constKs ks vs with
    | some (.int i), some y, some r => some ((.inl i, y) :: r)
    | some (.str x), some y, some r => some ((.inr x, y) :: r)
    | _, _, _ => none
  | _, _ => none
theorem constKs_all : ∀ {ks : List (Option Expr)} {vs : List Expr} {kvs : List (Key × V)}, constKs ks vs = some kvs → ks.all (·.isSome) = true ∧ ks.length = vs.length ∧ kvs.length = ks.length
  | [], [], kvs, h => by
    have e : kvs = [] := (Option.some.inj h).symm
    subst e
    exact ⟨rfl, rfl, rfl⟩
  | [], _ :: _, _, h => by cases h
  | none :: _, _, _, h => by simp [constKs] at h
  | some k :: ks, [], _, h => by cases h
  | some k :: ks, v :: vs, kvs, h => by
    unfold constKs at h
    cases h3 : constKs ks vs with
    | none =>
      rw [h3] at h
      split at h <;> first | (rename_i e; cases e; done) | (cases h; done)
    | some r =>
      obtain ⟨q1, q2, q3⟩ := constKs_all h3
      rw [h3] at h
      split at h
      · rename_i e; cases e; cases h; exact ⟨by simpa using q1, by simp [q2], by simp [q3]⟩
      · rename_i e; cases e; cases h; exact ⟨by simpa using q1, by simp [q2], by simp [q3]⟩
      · cases h
def constPs : List (Key × V) → List (TE × TE) := fun kvs => kvs.map fun kv => (tC (kV kv.1), tC kv.2)
theorem pps_consts {X : Cx} {pos : Pos} : ∀ {ks : List (Option Expr)} {vs : List Expr} {kvs : List (Key × V)}, constKs ks vs = some kvs → PPs X pos ks vs (constPs kvs)
  | [], [], kvs, h => by
    have e : kvs = [] := (Option.some.inj h).symm
    subst e
    exact pps_nil
  | [], _ :: _, _, h => by cases h
  | none :: _, _, _, h => by simp [constKs] at h
  | some k :: ks, [], _, h => by cases h
  | some k :: ks, v :: vs, kvs, h => by
    unfold constKs at h
    cases h3 : constKs ks vs with
    | none =>
      rw [h3] at h
      split at h <;> first | (rename_i e; cases e; done) | (cases h; done)
    | some r =>
      have ih := pps_consts (X := X) (pos := pos) h3
      rw [h3] at h
      split at h
      · rename_i e1 e2 e; cases e; cases h; exact pps_cons (pe_constV e1) (pe_constV e2) ih
      · rename_i e1 e2 e; cases e; cases h; exact pps_cons (pe_constV e1) (pe_constV e2) ih
      · cases h
theorem tPairs_consts {σ : St} {H : Hp} : ∀ (kvs : List (Key × V)) (Q : List (V × V) → Hp → Prop), Q (kvs.map fun kv => (kV kv.1, kv.2)) H → tPairs (constPs kvs) σ H Q
  | [], Q, h => h
  | kv :: r, Q, h => tPairs_consts r (fun ps H3 => Q ((kV kv.1, kv.2) :: ps) H3) h
def tDispC (kvs : List (Key × V)) : TE := fun _ H Q => ∀ p, H p = none → Q (.ref p) (upd H p (.dK kvs))
theorem e_dispC {X : Cx} {pos : Pos} {keys : List (Option Expr)} {values : List Expr} (kvs : List (Key × V)) (h : constKs keys values = some kvs) (hm : mergeK [] kvs = kvs) (hk : keys ≠ []) (hl : kvs.length ≤ 15) : PE X (.Dict keys values pos) (tDispC kvs) := by
  obtain ⟨q1, q2, q3⟩ := constKs_all h
  refine (pe_disp (pps_consts h) q1 q2 hk (by omega)).imp fun σ H Q q p hp => tPairs_consts kvs _ ⟨upd_same, kvs, rfl, hl, ?_⟩
  rw [hm, upd_upd]
  exact q p hp
end L2

set_option maxHeartbeats 4000000
/-! texts -/
namespace L2
open PySem PySem.Spec PyProof.Rows
section
variable {X : Cx} {tg : Expr}
/-! t[lo:hi] -/
def cSlS : V → Option Int → Option Int → Hp → VK → Prop := fun x lo hi H Q => match x with
  | .str z => z.length ≤ sizeLine ∧ Q (.str (Txt.slice z lo hi)) H
  | _ => False
theorem s_str : SlR X cSlS := by
  intro pins s σ H x v vl vu lo hi sl Q I rx hs pl pu h
  cases x with
  | str z =>
    obtain ⟨t, rfl⟩ := rx
    obtain ⟨hz, q⟩ := h
    refine ⟨"str", _, F.slot_str_getitem.lookup, typeIs_str _ _ _, ?_⟩
    have fin : ∀ t' k, EP X pins σ Q (.str (Txt.slice z lo hi) t') { s with toks := k } := fun t' k => ⟨.str (Txt.slice z lo hi), H, I.tok k, ⟨t', rfl⟩, q⟩
    cases pl with
    | none => cases pu with
      | none => exact wpAny_getItem_str_slice (l := none) (u := none) (st := none) hs rfl (post_val_or_str ⟨Nat.le_trans (Txt.slice_le z _ _) hz, fin⟩)
      | int j uj => exact wpAny_getItem_str_slice (l := none) (u := some (j, uj)) (st := none) hs rfl (post_val_or_str ⟨Nat.le_trans (Txt.slice_le z _ _) hz, fin⟩)
    | int i ui => cases pu with
      | none => exact wpAny_getItem_str_slice (l := some (i, ui)) (u := none) (st := none) hs rfl (post_val_or_str ⟨Nat.le_trans (Txt.slice_le z _ _) hz, fin⟩)
      | int j uj => exact wpAny_getItem_str_slice (l := some (i, ui)) (u := some (j, uj)) (st := none) hs rfl (post_val_or_str ⟨Nat.le_trans (Txt.slice_le z _ _) hz, fin⟩)
  | _ => exact False.elim h
/-! for sign in text -/
def Its (z : Str) : It := ⟨fun i _ => i < z.cps.size, fun i H x H' => H' = H ∧ ∃ c, z.cps[i]? = some c ∧ x = .str ⟨#[c]⟩, fun i _ => z.cps.size ≤ i⟩
def iStr (tl : TE) : TI := fun σ H R => tl σ H fun x H1 => match x with | .str z => R (Its z) H1 | _ => False
variable {te : TE} {g : TG} {tb : TS} {D : Ends} {σ : St} {H : Hp} {k : Nat} {sel : List Nat} {tt : TT} {el : TE} {Q : VK}
theorem tFor_str : tFor (iStr te) g tb D σ H = te σ H (fun x H1 => match x with | .str z => ForGoal (Its z) g tb D σ H1 | _ => False) := rfl
theorem tComp_str : tComp (iStr te) k sel g tt el σ H Q = te σ H (fun x H1 => match x with | .str z => CompG (Its z) σ k sel g tt el Q H1 | _ => False) := by
  unfold tComp iStr CompG
  congr 1
/-! all([..]) -/
def cAll (K : PySem.W.Frag) : List V → Hp → VK → Prop := fun vs H Q => match vs with
  | [.ref p] => ∃ bs : List Bool, SqL K H p (bs.map V.bl) ∧ Q (.bl (bs.all id)) H
  | _ => False
/-! t * n -/
def cMul : R2 := fun x y H Q => match x, y with
  | .int i, .int j => CMul i j ∧ Q (.int (i * j)) H
  | .str z, .int n => MulOk z n ∧ Q (.str (Txt.mul z n)) H
  | _, _ => False
theorem o_mul : OpR X (binaryOp .Mult) cMul := by
  intro pins s σ H x y v u Q I rx ry h
  cases x <;> cases y <;> first
    | exact False.elim h
    | exact op_mul pins s σ H _ _ v u Q I rx ry ⟨_, _, rfl, rfl, h.1, h.2⟩
    | (obtain ⟨t, rfl⟩ := rx
       obtain ⟨t', rfl⟩ := ry
       exact SB.mul h.1 fun t'' k => ⟨.str _, H, I.tok k, ⟨t'', rfl⟩, h.2⟩)
end
end L2

set_option maxHeartbeats 4000000
/-! new objects by name: the heap behind is a letter -/
namespace L2
open PySem PySem.Spec PyProof.Rows
structure New (H : Hp) (p : Addr) (o : HO) (H' : Hp) : Prop where
  was : H p = none
  eq : H' = upd H p o
section
variable {H H' : Hp} {p : Addr} {o : HO}
theorem New.same (n : New H p o H') : Same H H' := by rw [n.eq]; exact same_upd n.was
theorem New.at_ (n : New H p o H') : H' p = some o := by rw [n.eq]; exact upd_same
theorem New.ne (n : New H p o H') {b : Addr} (h : b ≠ p) : H' b = H b := by rw [n.eq]; exact upd_ne h
theorem New.sq {K : PySem.W.Frag} {xs : List V} (n : New H p (.lst xs) H') : SqL K H' p xs := .of n.at_
theorem New.sqT {K : PySem.W.Frag} {xs : List V} (n : New H p (.tup xs) H') : SqT K H' p xs := .of n.at_
theorem new_eq {F : Addr → Hp → Prop} {o : HO} : (∀ p, H p = none → F p (upd H p o)) = ∀ p H', New H p o H' → F p H' :=
  propext ⟨fun h p H' n => by rw [n.eq]; exact h p n.was, fun h p hp => h p _ ⟨hp, rfl⟩⟩
end
section
variable {K : PySem.W.Frag} {t : TA} {σ : St} {H : Hp} {Q : VK} {x : V} {lo hi : Option Int} {vs : List V} {kvs : List (Key × V)}
theorem tLst_n : tLst t σ H Q = t σ H fun xs H1 => xs.length ≤ sizeLine ∧ ∀ p H', New H1 p (.lst xs) H' → Q (.ref p) H' := by
  unfold tLst; congr 1; funext xs H1; rw [new_eq (F := fun p H' => Q (.ref p) H')]
theorem tTup_n : tTup t σ H Q = t σ H fun xs H1 => xs.length ≤ sizeLine ∧ ∀ p H', New H1 p (.tup xs) H' → Q (.ref p) H' := by
  unfold tTup; congr 1; funext xs H1; rw [new_eq (F := fun p H' => Q (.ref p) H')]
theorem tDispC_n : tDispC kvs σ H Q = ∀ p H', New H p (.dK kvs) H' → Q (.ref p) H' := by
  unfold tDispC; rw [new_eq (F := fun p H' => Q (.ref p) H')]
theorem tDNewK_n : tDNewK σ H Q = ∀ p H', New H p (.dK []) H' → Q (.ref p) H' := by
  unfold tDNewK; rw [new_eq (F := fun p H' => Q (.ref p) H')]
theorem cSlL_n {p : Addr} : cSlL K (.ref p) lo hi H Q = ∃ xs, SqL K H p xs ∧ ∀ q H', New H q (.lst (cutV xs lo hi)) H' → Q (.ref q) H' := by
  unfold cSlL
  dsimp only
  congr 1; funext xs; rw [new_eq (F := fun p H' => Q (.ref p) H')]
theorem cList_n {p : Addr} : cList K [.ref p] H Q = ∃ ys, (SqL K H p ys ∨ SqT K H p ys) ∧ ∀ l H', New H l (.lst ys) H' → Q (.ref l) H' := by
  unfold cList
  dsimp only
  congr 1; funext xs; rw [new_eq (F := fun p H' => Q (.ref p) H')]
theorem cTuple_n {p : Addr} : cTuple K [.ref p] H Q = ∃ ys, ((SqL K H p ys ∧ ∀ l H', New H l (.tup ys) H' → Q (.ref l) H') ∨ (SqT K H p ys ∧ Q (.ref p) H)) := by
  unfold cTuple
  dsimp only
  congr 1; funext xs; rw [new_eq (F := fun p H' => Q (.ref p) H')]
end
/-! comprehensions: the list behind is a letter's -/
section
variable {K : PySem.W.Frag} {σ : St} {sel : List Nat} {rest : St} {H : Hp} {tt : TT} {te : TE} {Q : VK}
end
end L2
namespace L2
open PySem PySem.Spec PyProof.Rows
/-- a slice of a list or of a text -/
def cSlU (K : PySem.W.Frag) : V → Option Int → Option Int → Hp → VK → Prop := fun x lo hi H Q => match x with
  | .ref p => ∃ xs, SqL K H p xs ∧ ∀ q H', New H q (.lst (cutV xs lo hi)) H' → Q (.ref q) H'
  | .str z => z.length ≤ sizeLine ∧ Q (.str (Txt.slice z lo hi)) H
  | _ => False
theorem s_u {X : Cx} : SlR X (cSlU X.K) := by
  intro pins s σ H x v vl vu lo hi sl Q I rx hs pl pu h
  cases x with
  | ref p => exact s_list pins s σ H (.ref p) v vl vu lo hi sl Q I rx hs pl pu (by rw [cSlL_n]; exact h)
  | str z => exact s_str pins s σ H (.str z) v vl vu lo hi sl Q I rx hs pl pu h
  | _ => exact False.elim h
end L2


set_option maxHeartbeats 4000000
/-! dict(zip(t, l)): t a tuple, l a list -/
namespace DZ
open PySem
section
variable {prog : Program} {w : World} {A : Around} {E : Value → Shared → Prop} {s : Shared}
end
section
variable {M : Model} {A : Around} {E : Value → Shared → Prop} {s : Shared}
end
/-! zip(t, l) -/
/-- the zip's state ahead of turn i -/
structure ZSt (z TI TO i1 i2 t l : Addr) (xs ys : Array Value) (i : Nat) (h : Heap) : Prop where
  zo : ∃ f0 f1, h.get? z = some { cls := .type "zip", dict := none, data := .fields #[f0, .bool f1, .bool false, .ref TI, .ref TO], slots := #[] } ∧
    (f0 = .none ∨ ∃ (T : Addr) (o : Obj), f0 = rawInt T ∧ h.get? T = some o ∧ T ≠ z ∧ T ≠ TO ∧ T ≠ i1 ∧ T ≠ i2)
  ti : IsPair h TI (.ref i1) (.ref i2)
  to : ∃ a b, IsPair h TO a b
  a1 : h.IsTupleIter i1 t i
  a2 : h.IsListIter i2 l i
  l1 : h.IsTuple t xs
  l2 : h.IsList l ys
section
variable {prog : Program} {w : World} {A : Around} {E : Value → Shared → Prop} {s : Shared}
/-! pyNext -/
end
end DZ

set_option maxHeartbeats 4000000
namespace DZ
open PySem
section
variable {prog : Program} {w : World} {A : Around} {E : Value → Shared → Prop} {h : Heap} {g : Array GenState} {d : Drawn} {t : Nat} {os : OsState} {z : Addr} {vs : Array Value}
end
/-! dict(..) -/
section
variable {prog : Program} {w : World} {A : Around} {E : Value → Shared → Prop} {s : Shared}
end
end DZ

set_option maxHeartbeats 4000000
namespace DZ
open PySem
section
variable {prog : Program} {w : World} {A : Around} {E : Value → Shared → Prop} {s : Shared}
theorem ZSt.write {z TI TO i1 i2 t l d : Addr} {xs ys : Array Value} {i : Nat} {h h' : Heap} (S : ZSt z TI TO i1 i2 t l xs ys i h) (k : ∀ c o, c ≠ d → h.get? c = some o → h'.get? c = some o) (hd : ∃ o, h'.get? d = some o)
    (n1 : z ≠ d) (n2 : TI ≠ d) (n3 : TO ≠ d) (n4 : i1 ≠ d) (n5 : i2 ≠ d) (n6 : t ≠ d) (n7 : l ≠ d) : ZSt z TI TO i1 i2 t l xs ys i h' := by
  obtain ⟨⟨f0, f1, hz, hf⟩, hTI, ⟨a, b, hTO⟩, h1, h2, hl1, hl2⟩ := S
  refine ⟨⟨f0, f1, k _ _ n1 hz, ?_⟩, k _ _ n2 hTI, ⟨a, b, k _ _ n3 hTO⟩, h1.at fun o e => k _ o n4 e, h2.at fun o e => k _ o n5 e, hl1.at fun o e => k _ o n6 e, hl2.at fun o e => k _ o n7 e⟩
  rcases hf with rfl | ⟨T, o, rfl, hT, m⟩
  · exact .inl rfl
  · by_cases e : T = d
    · subst e
      obtain ⟨o', ho'⟩ := hd
      exact .inr ⟨T, o', rfl, ho', m⟩
    · exact .inr ⟨T, o, rfl, k _ _ e hT, m⟩
variable {κ : Type} [DecidableEq κ] {knd : KeyKind prog w κ}
end
end DZ

set_option maxHeartbeats 4000000
/-! dict(zip(t, l)) over the layer -/
namespace L2
open PySem PySem.Spec PyProof.Rows
section
variable {X : Cx} {pins : List (Addr × Obj)} {σ : St} {H : Hp} {s : Shared} {h' : Heap}
end
def cDictZip (K : PySem.W.Frag) (t : TA) : TE := fun σ H Q => t σ H fun vs H1 => match vs with
  | [.ref a, .ref b] => ∃ (ns : List Str) (ys : List V), SqT K H1 a (ns.map V.str) ∧ SqL K H1 b ys ∧ ns.length = ys.length ∧ ns.length ≤ 1000 ∧ ∀ p H', New H1 p (.dK (mergeK [] ((ns.map Sum.inr).zip ys))) H' → Q (.ref p) H'
  | _ => False
end L2

/-! the mathematics of the law's names: texts of small letters in a ring -/
namespace NM
def okc (c : Nat) : Prop := 97 ≤ c ∧ c ≤ 122
/-- one to eight small letters -/
structure Nm (w : List Nat) : Prop where
  pos : 1 ≤ w.length
  le : w.length ≤ 8
  ok : ∀ c ∈ w, okc c
def rank : List Nat → Nat := fun w => w.foldl (fun a c => a * 26 + (c - 96)) 0
def R : Nat → Nat | 0 => 0 | n + 1 => 26 * R n + 1
def M : Nat := 26 * R 8
theorem fold_app : ∀ (s : List Nat) (a : Nat), s.foldl (fun a c => a * 26 + (c - 96)) a = a * 26 ^ s.length + rank s
  | [], a => by simp [rank]
  | c :: s, a => by
    have h1 := fold_app s (a * 26 + (c - 96))
    have h2 := fold_app s (0 * 26 + (c - 96))
    unfold rank
    rw [List.foldl_cons, List.foldl_cons, h1, h2, List.length_cons, Nat.pow_succ]
    rw [Nat.add_mul, Nat.add_mul, Nat.zero_mul, Nat.zero_add, Nat.mul_assoc, Nat.mul_comm 26 (26 ^ s.length), Nat.add_assoc]
theorem rank_app (p s : List Nat) : rank (p ++ s) = rank p * 26 ^ s.length + rank s := by
  show (p ++ s).foldl _ 0 = _
  rw [List.foldl_append]
  exact fold_app s _
theorem rank_rep (c d : Nat) (hc : c = 96 + d) : ∀ k, rank (List.replicate k c) = d * R k
  | 0 => by simp [rank, R]
  | k + 1 => by
    rw [List.replicate_succ', rank_app, rank_rep c d hc k]
    show d * R k * 26 ^ 1 + (0 * 26 + (c - 96)) = d * R (k + 1)
    have : c - 96 = d := by omega
    rw [this, Nat.zero_mul, Nat.zero_add, Nat.pow_one]
    show _ = d * (26 * R k + 1)
    rw [Nat.mul_add, Nat.mul_one, Nat.mul_assoc, Nat.mul_comm (R k) 26]
theorem R_pow : ∀ k, 26 * R k + 1 = R k + 26 ^ k
  | 0 => by simp [R]
  | k + 1 => by
    have h := R_pow k
    show 26 * (26 * R k + 1) + 1 = (26 * R k + 1) + 26 ^ (k + 1)
    rw [Nat.pow_succ]
    omega
/-- the last letter that is no z moves on -/
def nx (p : List Nat) (c k : Nat) : List Nat := p ++ (c + 1) :: List.replicate k 97
theorem rank_nx (p : List Nat) (c k : Nat) (h : 96 ≤ c) : rank (nx p c k) = rank (p ++ c :: List.replicate k 122) + 1 := by
  unfold nx
  have e1 : (p ++ (c + 1) :: List.replicate k 97) = (p ++ [c + 1]) ++ List.replicate k 97 := by simp
  have e2 : (p ++ c :: List.replicate k 122) = (p ++ [c]) ++ List.replicate k 122 := by simp
  rw [e1, e2, rank_app, rank_app (p ++ [c]), rank_app p, rank_app p, rank_rep 97 1 rfl, rank_rep 122 26 rfl, List.length_replicate, List.length_replicate]
  have r1 : rank [c + 1] = rank [c] + 1 := by
    show 0 * 26 + (c + 1 - 96) = 0 * 26 + (c - 96) + 1
    omega
  rw [r1]
  have hk := R_pow k
  show (rank p * 26 ^ 1 + (rank [c] + 1)) * 26 ^ k + 1 * R k = (rank p * 26 ^ 1 + rank [c]) * 26 ^ k + 26 * R k + 1
  rw [← Nat.add_assoc, Nat.add_mul (rank p * 26 ^ 1 + rank [c]) 1]
  omega
theorem R_mono : ∀ {a b : Nat}, a ≤ b → R a ≤ R b := by
  intro a b h
  induction h with
  | refl => exact Nat.le_refl _
  | @step m _ ih => show R a ≤ 26 * R m + 1; omega
theorem rank_le : ∀ (w : List Nat), (∀ c ∈ w, okc c) → rank w ≤ 26 * R w.length ∧ R w.length ≤ rank w := by
  intro w
  induction w with
  | nil => intro _; simp [rank, R]
  | cons c w ih =>
    intro h
    obtain ⟨i1, i2⟩ := ih fun d hd => h d (List.mem_cons_of_mem _ hd)
    have hc := h c List.mem_cons_self
    have e : rank (c :: w) = (c - 96) * 26 ^ w.length + rank w := by
      have := rank_app [c] w
      rw [List.singleton_append] at this
      rw [this]
      show (0 * 26 + (c - 96)) * _ + _ = _
      rw [Nat.zero_mul, Nat.zero_add]
    have hk := R_pow w.length
    have b1 : (c - 96) * 26 ^ w.length ≤ 26 * 26 ^ w.length := Nat.mul_le_mul_right _ (by have := hc.2; omega)
    have b2 : 1 * 26 ^ w.length ≤ (c - 96) * 26 ^ w.length := Nat.mul_le_mul_right _ (by have := hc.1; omega)
    rw [e, List.length_cons]
    show _ ≤ 26 * (26 * R w.length + 1) ∧ 26 * R w.length + 1 ≤ _
    omega
theorem Nm.rank_le {w : List Nat} (h : Nm w) : 1 ≤ rank w ∧ rank w ≤ M := by
  obtain ⟨h1, h2⟩ := NM.rank_le w h.ok
  have h3 : R 1 ≤ R w.length := R_mono h.pos
  have h4 : R w.length ≤ R 8 := R_mono h.le
  have : R 1 = 1 := rfl
  unfold M
  omega
/-- what _law_next does -/
inductive Nx : List Nat → List Nat → Prop where
  | at (p : List Nat) (c k : Nat) : c ≠ 122 → Nx (p ++ c :: List.replicate k 122) (nx p c k)
  | all (n : Nat) : Nx (List.replicate n 122) (List.replicate (n % 8 + 1) 97)
theorem Nx.nm {v w : List Nat} (h : Nx v w) (hv : Nm v) : Nm w := by
  cases h with
  | «at» p c k hc =>
    have hl : (nx p c k).length = (p ++ c :: List.replicate k 122).length := by simp [nx]
    refine ⟨by rw [hl]; exact hv.pos, by rw [hl]; exact hv.le, fun d hd => ?_⟩
    unfold nx at hd
    rcases List.mem_append.mp hd with q | q
    · exact hv.ok d (List.mem_append_left _ q)
    · rcases List.mem_cons.mp q with q | q
      · have := hv.ok c (by simp)
        subst q
        exact ⟨Nat.le_succ_of_le this.1, by have := this.2; omega⟩
      · have := (List.mem_replicate.mp q).2
        subst this
        exact ⟨Nat.le_refl _, by decide⟩
  | all n =>
    refine ⟨by simp, by rw [List.length_replicate]; omega, fun d hd => ?_⟩
    have := (List.mem_replicate.mp hd).2
    subst this
    exact ⟨Nat.le_refl _, by decide⟩
theorem Nx.rank {v w : List Nat} (h : Nx v w) (hv : Nm v) : NM.rank w = NM.rank v % M + 1 := by
  have hM : M = 26 * R 8 := rfl
  have hw := (h.nm hv).rank_le
  cases h with
  | «at» p c k hc =>
    have h1 := rank_nx p c k (by have := (hv.ok c (by simp)).1; omega)
    rw [Nat.mod_eq_of_lt (by omega)]
    exact h1
  | all n =>
    have hn : n ≤ 8 := by have := hv.le; simpa using this
    have e1 := rank_rep 122 26 rfl n
    have e2 := rank_rep 97 1 rfl (n % 8 + 1)
    by_cases h8 : n = 8
    · subst h8
      rw [e1, e2, ← hM, Nat.mod_self]
      rfl
    · have hlt : n < 8 := by omega
      have hr : R (n + 1) ≤ R 8 := R_mono hlt
      have : R (n + 1) = 26 * R n + 1 := rfl
      rw [Nat.mod_eq_of_lt hlt, show R (n + 1) = 26 * R n + 1 from rfl] at e2
      rw [Nat.mod_eq_of_lt hlt, e1, e2, Nat.mod_eq_of_lt (by omega)]
      omega
/-- ways of k steps -/
inductive Nxs : Nat → List Nat → List Nat → Prop where
  | zero (w : List Nat) : Nxs 0 w w
  | succ {k : Nat} {u v w : List Nat} : Nx u v → Nxs k v w → Nxs (k + 1) u w
/-- the next one, as a function -/
def dropZ : List Nat → List Nat × Nat
  | [] => ([], 0)
  | c :: r => if c = 122 then let q := dropZ r; (q.1, q.2 + 1) else (c :: r, 0)
theorem dropZ_eq : ∀ r : List Nat, r = List.replicate (dropZ r).2 122 ++ (dropZ r).1 ∧ (∀ c s, (dropZ r).1 = c :: s → c ≠ 122)
  | [] => ⟨rfl, fun c s e => nomatch e⟩
  | c :: r => by
    obtain ⟨h1, h2⟩ := dropZ_eq r
    unfold dropZ
    by_cases hc : c = 122
    · rw [if_pos hc]
      refine ⟨?_, h2⟩
      show c :: r = List.replicate ((dropZ r).2 + 1) 122 ++ (dropZ r).1
      rw [List.replicate_succ, List.cons_append, ← h1, hc]
    · rw [if_neg hc]
      refine ⟨rfl, fun d s e => ?_⟩
      cases e
      exact hc
def nextL (w : List Nat) : List Nat :=
  match dropZ w.reverse with
  | ([], _) => List.replicate (w.length % 8 + 1) 97
  | (c :: p, k) => nx p.reverse c k
theorem nextL_nx (w : List Nat) : Nx w (nextL w) := by
  obtain ⟨h1, h2⟩ := dropZ_eq w.reverse
  unfold nextL
  cases e : dropZ w.reverse with
  | mk q k =>
    rw [e] at h1 h2
    cases q with
    | nil =>
      have : w = List.replicate k 122 := by
        have := congrArg List.reverse h1
        simpa using this
      subst this
      have z := Nx.all k
      simpa using z
    | cons c p =>
      have : w = p.reverse ++ c :: List.replicate k 122 := by
        have := congrArg List.reverse h1
        simpa using this
      subst this
      exact Nx.at p.reverse c k (h2 c p rfl)
theorem nextL_at (p : List Nat) (c k : Nat) (hc : c ≠ 122) : nextL (p ++ c :: List.replicate k 122) = nx p c k := by
  have hd : ∀ k, dropZ (List.replicate k 122 ++ c :: p.reverse) = (c :: p.reverse, k) := by
    intro k
    induction k with
    | zero => simp [dropZ, hc]
    | succ k ih => rw [List.replicate_succ, List.cons_append, dropZ, if_pos rfl, ih]
  unfold nextL
  have e : (p ++ c :: List.replicate k 122).reverse = List.replicate k 122 ++ c :: p.reverse := by simp
  rw [e, hd]
  simp
theorem nextL_all (n : Nat) : nextL (List.replicate n 122) = List.replicate (n % 8 + 1) 97 := by
  have hd : ∀ k, dropZ (List.replicate k 122) = ([], k) := by
    intro k
    induction k with
    | zero => rfl
    | succ k ih => rw [List.replicate_succ, dropZ, if_pos rfl, ih]
  unfold nextL
  rw [List.reverse_replicate, hd]
  simp
def iter : Nat → List Nat → List Nat | 0, w => w | k + 1, w => iter k (nextL w)
theorem iter_rank : ∀ (k : Nat) {w : List Nat}, Nm w → rank (iter k w) = (rank w - 1 + k) % M + 1
  | 0, w, h => by
    have := h.rank_le
    show rank w = (rank w - 1 + 0) % M + 1
    rw [Nat.mod_eq_of_lt (by omega)]; omega
  | k + 1, w, h => by
    have h1 := iter_rank k ((nextL_nx w).nm h)
    have h2 := (nextL_nx w).rank h
    have h3 := h.rank_le
    show rank (iter k (nextL w)) = _
    rw [h1, h2]
    congr 1
    by_cases e : rank w = M
    · rw [e, Nat.mod_self]
      have : M - 1 + (k + 1) = k + M := by omega
      rw [this, Nat.add_mod_right]
      congr 1
      omega
    · rw [Nat.mod_eq_of_lt (show rank w < M by omega)]
      congr 1
      omega
theorem nodup_le {α : Type} [DecidableEq α] : ∀ (l F : List α), l.Nodup → (∀ x ∈ l, x ∈ F) → l.length ≤ F.length
  | [], _, _, _ => Nat.zero_le _
  | a :: l, F, hn, hs => by
    have ha := hs a List.mem_cons_self
    rw [List.nodup_cons] at hn
    have ih := nodup_le l (F.erase a) hn.2 fun x hx => by
      have hne : x ≠ a := fun e => hn.1 (e ▸ hx)
      exact (List.mem_erase_of_ne hne).mpr (hs x (List.mem_cons_of_mem _ hx))
    rw [List.length_erase_of_mem ha] at ih
    have : 0 < F.length := List.length_pos_of_mem ha
    rw [List.length_cons]; omega
theorem out_of (F : List (List Nat)) {w : List Nat} (h : Nm w) (hF : F.length < M) : ∃ k, k ≤ F.length ∧ iter k w ∉ F := by
  apply Classical.byContradiction
  intro hno
  have hall : ∀ k, k ≤ F.length → iter k w ∈ F := fun k hk => Classical.byContradiction fun hn => hno ⟨k, hk, hn⟩
  have hnd : ((List.range (F.length + 1)).map fun k => iter k w).Nodup := by
    rw [List.nodup_iff_pairwise_ne, List.pairwise_map]
    refine List.Pairwise.imp_of_mem ?_ (List.pairwise_lt_range (n := F.length + 1))
    intro a b ha hb hab e
    have ha' := List.mem_range.mp ha
    have hb' := List.mem_range.mp hb
    have ea := iter_rank a h
    have eb := iter_rank b h
    rw [e, eb] at ea
    have hr := h.rank_le
    have hm : (rank w - 1 + b) % M = (rank w - 1 + a) % M := by omega
    have d1 := Nat.div_add_mod (rank w - 1 + a) M
    have d2 := Nat.div_add_mod (rank w - 1 + b) M
    rw [hm] at d2
    have hlt : M * ((rank w - 1 + b) / M) = M * ((rank w - 1 + a) / M) + (b - a) := by omega
    by_cases hq : (rank w - 1 + b) / M ≤ (rank w - 1 + a) / M
    · have := Nat.mul_le_mul_left M hq
      omega
    · have := Nat.mul_le_mul_left M (show (rank w - 1 + a) / M + 1 ≤ (rank w - 1 + b) / M by omega)
      rw [Nat.mul_add, Nat.mul_one] at this
      omega
  have := nodup_le _ F hnd (by
    intro x hx
    obtain ⟨k, hk, rfl⟩ := List.mem_map.mp hx
    exact hall k (by have := List.mem_range.mp hk; omega))
  rw [List.length_map, List.length_range] at this
  omega
theorem M_big : 1000 < M := by decide
end NM

/-! tables of pairs, gates carried over them -/
namespace ME
section
variable {κ : Type} [DecidableEq κ] {α β : Type}
def vS (e : List (κ × α)) (k : κ) : Option α := (e.find? fun p => decide (p.1 = k)).map (·.2)
def pS (e : List (κ × α)) (k : κ) (v : α) : List (κ × α) :=
  if (e.any fun p => decide (p.1 = k)) = true then e.map (fun p => if p.1 = k then (p.1, v) else p) else e ++ [(k, v)]
theorem vS_pos {p : κ × α} {r : List (κ × α)} {k : κ} (e : p.1 = k) : vS (p :: r) k = some p.2 := by simp [vS, List.find?_cons, e]
theorem vS_neg {p : κ × α} {r : List (κ × α)} {k : κ} (e : ¬ p.1 = k) : vS (p :: r) k = vS r k := by simp [vS, List.find?_cons, e]
theorem vS_any (k : κ) : ∀ e : List (κ × α), (e.any fun p => decide (p.1 = k)) = (vS e k).isSome
  | [] => rfl
  | p :: r => by
    rw [List.any_cons]
    by_cases e : p.1 = k
    · rw [vS_pos e]; simp [e]
    · rw [vS_neg e, decide_eq_false e, Bool.false_or, vS_any k r]
theorem vS_set (k j : κ) (y : α) : ∀ e : List (κ × α), vS (e.map fun p => if p.1 = k then (p.1, y) else p) j = (vS e j).map fun x => if j = k then y else x
  | [] => rfl
  | p :: r => by
    have ih := vS_set k j y r
    rw [List.map_cons]
    by_cases h : p.1 = k
    · rw [if_pos h]
      by_cases e : p.1 = j
      · rw [vS_pos (p := (p.1, y)) e, vS_pos e]; simp [e.symm.trans h]
      · rw [vS_neg (p := (p.1, y)) e, vS_neg e, ih]
    · rw [if_neg h]
      by_cases e : p.1 = j
      · rw [vS_pos e, vS_pos e]; simp [show ¬ j = k from fun z => h (e.trans z)]
      · rw [vS_neg e, vS_neg e, ih]
theorem vS_end (k j : κ) (y : α) : ∀ e : List (κ × α), vS e k = none → vS (e ++ [(k, y)]) j = if j = k then some y else vS e j
  | [], _ => by
    by_cases e : k = j
    · rw [if_pos e.symm]; exact vS_pos (p := (k, y)) e
    · rw [if_neg (fun z => e z.symm)]; exact vS_neg (p := (k, y)) e
  | p :: r, hn => by
    rw [List.cons_append]
    have hk : ¬ p.1 = k := fun z => by rw [vS_pos z] at hn; cases hn
    rw [vS_neg hk] at hn
    have ih := vS_end k j y r hn
    by_cases e : p.1 = j
    · rw [vS_pos e, vS_pos e, if_neg (fun z => hk (e.trans z))]
    · rw [vS_neg e, vS_neg e, ih]
theorem vS_pS (e : List (κ × α)) (k j : κ) (y : α) : vS (pS e k y) j = if j = k then some y else vS e j := by
  unfold pS
  cases a : (e.any fun p => decide (p.1 = k))
  · rw [if_neg (by simp)]
    refine vS_end k j y e ?_
    rw [vS_any] at a
    cases q : vS e k with
    | none => rfl
    | some x => rw [q] at a; cases a
  · rw [if_pos rfl, vS_set]
    rw [vS_any] at a
    by_cases h : j = k
    · obtain ⟨x, hx⟩ := Option.isSome_iff_exists.mp a
      rw [if_pos h, h, hx]; simp
    · rw [if_neg h]
      cases vS e j with
      | none => rfl
      | some x => simp [h]
def m2 (f : α → β) (e : List (κ × α)) : List (κ × β) := e.map fun p => (p.1, f p.2)
abbrev Gt (κ : Type) := κ × κ × List κ
def step (F : κ → List α → α) (d : α) (e : List (κ × α)) (g : Gt κ) : List (κ × α) := pS e g.1 (F g.2.1 (g.2.2.map fun p => (vS e p).getD d))
/-- parts are told ahead; A: how many parts a word may have -/
def WG (A : κ → Nat → Prop) (known : List κ) : List (Gt κ) → Prop
  | [] => True
  | g :: r => (∀ p ∈ g.2.2, p ∈ known) ∧ A g.2.1 g.2.2.length ∧ g.2.2.length ≤ 6 ∧ WG A (known ++ [g.1]) r
def Kn (e : List (κ × α)) (known : List κ) : Prop := ∀ n ∈ known, ∃ v, vS e n = some v
theorem Kn.put {e : List (κ × α)} {known : List κ} (h : Kn e known) (k : κ) (v : α) : Kn (pS e k v) (known ++ [k]) := fun n hn => by
  rw [vS_pS]
  by_cases e1 : n = k
  · rw [if_pos e1]; exact ⟨v, rfl⟩
  · rw [if_neg e1]
    rcases List.mem_append.mp hn with q | q
    · exact h n q
    · exact absurd (List.mem_singleton.mp q) e1
theorem WG_snoc {A : κ → Nat → Prop} (g : Gt κ) : ∀ (gs : List (Gt κ)) (known : List κ), WG A known gs → (∀ p ∈ g.2.2, p ∈ known ++ gs.map (·.1)) → A g.2.1 g.2.2.length → g.2.2.length ≤ 6 → WG A known (gs ++ [g])
  | [], known, _, h1, h2, h3 => ⟨by simpa using h1, h2, h3, True.intro⟩
  | x :: gs, known, ⟨a, b, c, d⟩, h1, h2, h3 => ⟨a, b, c, WG_snoc g gs _ d (by simpa using h1) h2 h3⟩
theorem WG.at {A : κ → Nat → Prop} : ∀ {gs : List (Gt κ)} {known : List κ} {i : Nat} {g : Gt κ}, WG A known gs → gs[i]? = some g →
    (∀ p ∈ g.2.2, p ∈ known ++ (gs.take i).map (·.1)) ∧ A g.2.1 g.2.2.length ∧ g.2.2.length ≤ 6
  | [], _, _, _, _, h => by simp at h
  | x :: gs, known, 0, g, ⟨a, b, c, d⟩, h => by
    simp at h; subst h
    exact ⟨by simpa using a, b, c⟩
  | x :: gs, known, i + 1, g, ⟨a, b, c, d⟩, h => by
    have := WG.at (i := i) (g := g) d (by simpa using h)
    simpa using this
end
end ME

/-! columns as numbers: bits by lightings -/
namespace MC
end MC

/-! the mathematics of gates -/
namespace GM
open PySem
/-- how many parts a word's gate has -/
def Ar (w : Str) (n : Nat) : Prop := (w = "not" → n = 1) ∧ (w = "choose" → n = 3) ∧ (w = "most" → n = 3)
end GM

set_option maxHeartbeats 4000000
namespace L2
open PySem PySem.Spec PyProof.Rows
/-! a test that falls through: what holds behind it -/
def tMid (t u : TS) : TS := tSeq t u
theorem mid {t u : TS} {D : Ends} {σ : St} {H : Hp} (M : St → Hp → Prop) (h1 : ∀ N : St → Hp → Prop, (∀ σ' H', M σ' H' → N σ' H') → t { D with nx := N } σ H) (h2 : ∀ σ' H', M σ' H' → u D σ' H') : tMid t u D σ H := h1 _ h2
theorem pss_mid {X : Cx} {st : Stmt} {rest : List Stmt} {t u : TS} (h : PS X st t) (hr : PSs X rest u) : PSs X (st :: rest) (tMid t u) := pss_cons h hr
theorem mtr {X : Cx} {id : String} {r : V → List V → Hp → VK → Prop} (h : MtM X id r) : MtR X id r := h
/-! str.find -/
def rFind : V → List V → Hp → VK → Prop := fun x vs H Q => match x, vs with
  | .str z, [.str y] => Q (.int (Txt.find z y)) H
  | _, _ => False
theorem mt_find {X : Cx} : MtR X "str.find" rFind := by
  intro pins s σ H x vs v us Q I rx rv h
  cases x with
  | str z =>
    match vs, h with
    | [.str y], h =>
      obtain ⟨t, rfl⟩ := rx
      obtain ⟨u, rfl, ru⟩ := vals1 rv
      obtain ⟨t', rfl⟩ := ru
      exact SC.find ⟨.int _, H, I.tok _, ⟨_, rfl⟩, h⟩
  | _ => exact False.elim h
/-! a comprehension by an invariant, whatever its target -/
theorem comp_gen {J : It} {σ : St} {k : Nat} {sel : List Nat} {g : TG} {tt : TT} {te : TE} {Q : VK} {H : Hp} {p : Addr} {n : Nat} {item : Nat → V} (Sv : St → Prop) (Pv : Nat → Hp → Prop)
    (hS : Sv (cst σ k sel)) (h0 : Pv 0 (upd H p (.lst [])))
    (src : ∀ i H2, i < n → Pv i H2 → J.go i H2 ∧ ∀ x H3, J.yld i H2 x H3 → H3 = H2 ∧ x = item i) (fin : ∀ H2, Pv n H2 → J.stop n H2)
    (step : ∀ i σ2 H2 (R : St → Hp → Prop), i < n → Sv σ2 → Pv i H2 → (∀ σ' H', Sv σ' → Pv (i + 1) H' → R σ' H') → g (item i) σ2 H2 fun σ4 H4 => tt σ4 H4 fun b H5 =>
      if b = true then te σ4 H5 fun v H6 => ∃ ys, H6 p = some (.lst ys) ∧ ys.length < sizeLine ∧ R σ4 (upd H6 p (.lst (ys ++ [v]))) else R σ4 H5)
    (hQ : ∀ H2, Pv n H2 → Q (.ref p) H2) : CompGoal J σ k sel g tt te Q H p := by
  refine ⟨fun i m σ2 H2 => i ≤ n ∧ m = n - i + 1 ∧ Sv σ2 ∧ Pv i H2, ⟨n + 1, Nat.zero_le _, rfl, hS, h0⟩, ?_⟩
  rintro i m σ2 H2 ⟨hi, rfl, hs, hP⟩
  by_cases hlt : i < n
  · right
    obtain ⟨hg, hy⟩ := src i H2 hlt hP
    refine ⟨hg, fun x H3 hx => ?_⟩
    obtain ⟨rfl, rfl⟩ := hy x H3 hx
    exact step i σ2 H3 (fun σ' H' => ∃ m', m' < n - i + 1 ∧ i + 1 ≤ n ∧ m' = n - (i + 1) + 1 ∧ Sv σ' ∧ Pv (i + 1) H') hlt hs hP fun σ' H' s' h' => ⟨n - (i + 1) + 1, by omega, hlt, rfl, s', h'⟩
  · left
    have e : i = n := by omega
    subst e
    exact ⟨fin H2 hP, hQ H2 hP⟩
/-! what stays -/
/-- all things but lists stay -/
def SameN (H H' : Hp) : Prop := ∀ b o, H b = some o → (∀ xs, o ≠ .lst xs) → H' b = some o
section
variable {K : PySem.W.Frag} {H H' H0 H1 : Hp} {l a : Addr} {xs ys : List V} {o : HO}
theorem Same.n (s : Same H H') : SameN H H' := fun b o e _ => s b o e
theorem SameN.trans (s : SameN H H') (t : SameN H' H1) : SameN H H1 := fun b o e n => t b o (s b o e n) n
theorem SameN.refl (H : Hp) : SameN H H := fun _ _ e _ => e
theorem SameN.clear (h : H l = some (.lst xs)) : SameN H (upd H l (.lst ys)) := fun b o e n => by rw [upd_ne (ne_of e h (n xs))]; exact e
theorem Same.put (s : Same H0 H) (h : H0 l = none) : Same H0 (upd H l o) := fun b u e => by rw [upd_ne (ne_of_none e h)]; exact s b u e
theorem Same.tup (e : Same H H') (h : SqT K H a xs) : SqT K H' a xs := by
  rcases h with (h | ⟨o, h⟩) | h
  · exact .inl (.inl (e _ _ h))
  · exact .inl (.inr ⟨o, e _ _ h⟩)
  · exact .inr h
/-- the things at which N holds stay -/
def Keep (N : Addr → Prop) (H H' : Hp) : Prop := ∀ b o, N b → H b = some o → H' b = some o
theorem Same.keep {N : Addr → Prop} (s : Same H H') : Keep N H H' := fun b o _ e => s b o e
theorem Keep.trans {N : Addr → Prop} (s : Keep N H H') (t : Keep N H' H1) : Keep N H H1 := fun b o n e => t b o n (s b o n e)
theorem Keep.put {N : Addr → Prop} (h : ¬ N l) : Keep N H (upd H l o) := fun b u n e => by
  have hne : b ≠ l := fun z => h (by rw [← z]; exact n)
  rw [upd_ne hne]; exact e
theorem Keep.seq {N : Addr → Prop} (e : Keep N H H') (n : N a) (h : SqL K H a xs) : SqL K H' a xs := by
  rcases h with (h | ⟨o, h⟩) | h
  · exact .inl (.inl (e _ _ n h))
  · exact .inl (.inr ⟨o, e _ _ n h⟩)
  · exact .inr h
theorem Keep.tup {N : Addr → Prop} (e : Keep N H H') (n : N a) (h : SqT K H a xs) : SqT K H' a xs := by
  rcases h with (h | ⟨o, h⟩) | h
  · exact .inl (.inl (e _ _ n h))
  · exact .inl (.inr ⟨o, e _ _ n h⟩)
  · exact .inr h
theorem New.free (n : New H a o H') : H a = none := n.was
end
/-! texts -/
theorem cps_app (a b : Str) : (a ++ b).cps.toList = a.cps.toList ++ b.cps.toList := by
  show (a.cps ++ b.cps).toList = _
  simp
theorem len_cps (z : Str) : z.cps.toList.length = z.length := by
  show z.cps.toList.length = z.cps.size
  simp
theorem ext_cps {y z : Str} (h : y.cps.toList = z.cps.toList) : y = z := by
  cases y; cases z
  congr 1
  exact Array.toList_inj.mp h
theorem slice_to {z : Str} {j : Int} (h0 : 0 ≤ j) (h1 : j ≤ z.length) : (Txt.slice z none (some j)).cps.toList = z.cps.toList.take j.toNat := by
  have h := slice_closes_to (x := z) (j := j) ⟨h0, by rw [len_cps]; exact h1⟩
  rw [beq_iff_eq] at h
  rw [h]
  simp
theorem slice_from {z : Str} {i : Int} (h0 : 0 ≤ i) (h1 : i ≤ z.length) : (Txt.slice z (some i) none).cps.toList = z.cps.toList.drop i.toNat := by
  rw [slice_from_eq h0 h1 rfl]
  show ((z.cps.toList.drop i.toNat).take ((z.length : Int) - i).toNat) = _
  rw [List.take_of_length_le]
  rw [List.length_drop, len_cps]
  omega
theorem fold_rep (c : Nat) : ∀ (k : Nat) (acc : Array Nat), ((List.replicate k (#[c] : Array Nat)).foldl (· ++ ·) acc).toList = acc.toList ++ List.replicate k c
  | 0, acc => by simp
  | k + 1, acc => by
    rw [List.replicate_succ, List.foldl_cons, fold_rep c k, List.replicate_succ]
    simp
theorem mul_a (n : Int) : (Txt.mul "a" n).cps.toList = List.replicate n.toNat 97 := by
  unfold Txt.mul
  by_cases h1 : n < 1
  · rw [if_pos h1]
    have : n.toNat = 0 := by omega
    rw [this]
    rfl
  · rw [if_neg h1]
    by_cases h2 : (n == 1 || Str.length "a" == 0) = true
    · rw [if_pos h2]
      have h3 : n = 1 := by
        rw [Bool.or_eq_true] at h2
        rcases h2 with q | q
        · exact beq_iff_eq.mp q
        · exact absurd q (by decide +kernel)
      subst h3
      decide +kernel
    · rw [if_neg h2]
      have e : Str.cps "a" = #[97] := by decide +kernel
      show ((List.replicate n.toNat (Str.cps "a")).foldl (· ++ ·) #[]).toList = _
      rw [e, fold_rep]
      simp
theorem mulOk_a {n : Int} (h0 : 0 ≤ n) (h1 : n ≤ 100) : MulOk "a" n := by
  have hl : Str.length "a" = 1 := by decide +kernel
  refine ⟨?_, fun h2 _ h3 => ?_, fun _ _ => ?_⟩
  · rw [decide_eq_false (by omega), decide_eq_false (by omega)]; rfl
  · rw [hl] at h3
    have h4 : (1 : Int) ≤ (2 ^ 63 - 1) / n := by
      rw [Int.le_ediv_iff_mul_le (by omega)]
      omega
    omega
  · rw [hl, Nat.one_mul]
    obtain ⟨m, rfl⟩ := Int.eq_ofNat_of_zero_le h0
    have hm : m ≤ 100 := by omega
    rw [Int.toNat_natCast]
    unfold Builtin.Str.tooLong
    have hb : (1000 : Nat) ≤ sizeLine := by decide
    simp
    omega
/-! items by their place -/
section
variable {K : PySem.W.Frag} {H : Hp} {p : Addr} {i : Int} {F : V → Prop}
theorem ixI {cs : List Int} (hS : SqL K H p (cs.map V.int)) (h0 : 0 ≤ i) (h1 : i < cs.length) (h : F (.int (cs.getD i.toNat 0))) : ∃ xs v, (SqL K H p xs ∨ SqT K H p xs) ∧ atI xs i = some v ∧ F v := ⟨_, _, .inl hS, atI_map 0 h0 h1, h⟩
theorem ixS {ss : List Str} (hS : SqL K H p (ss.map V.str)) (h0 : 0 ≤ i) (h1 : i < ss.length) (h : F (.str (ss.getD i.toNat ""))) : ∃ xs v, (SqL K H p xs ∨ SqT K H p xs) ∧ atI xs i = some v ∧ F v := ⟨_, _, .inl hS, atI_map ("" : Str) h0 h1, h⟩
end
/-! tables of texts -/
end L2

set_option maxHeartbeats 4000000
namespace L2
open PySem PySem.Spec PyProof.Rows
/-! list(range(n)) -/
def cListRange (t : TA) : TE := fun σ H Q => t σ H fun vs H1 => cInt1 vs fun j => -(2 ^ 62) ≤ j ∧ j < 2 ^ 62 ∧ j.toNat ≤ 2 ^ 24 ∧ j.toNat ≤ sizeLine ∧ ∀ p H', New H1 p (.lst ((List.range j.toNat).map fun i => V.int (i : Nat))) H' → Q (.ref p) H'
/-! shifts of any size -/
/-! bits of naturals -/
end L2

set_option maxHeartbeats 4000000
/-! columns: each bit tells what the truths tell -/
namespace GM
open PySem L2
/-- all the table's numbers are below -/
def Bd (n : Nat) (e : List (Str × Nat)) : Prop := ∀ k v, ME.vS e k = some v → v < 2 ^ n
theorem Bd.put {n : Nat} {e : List (Str × Nat)} (h : Bd n e) (k : Str) {v : Nat} (hv : v < 2 ^ n) : Bd n (ME.pS e k v) := fun j u hu => by
  rw [ME.vS_pS] at hu
  split at hu
  · cases hu; exact hv
  · exact h j u hu
theorem Bd.get {n : Nat} {e : List (Str × Nat)} (h : Bd n e) (k : Str) : (ME.vS e k).getD 0 < 2 ^ n := by
  cases hv : ME.vS e k with
  | none => exact Nat.pow_pos (by decide)
  | some v => exact h k v hv
end GM

set_option maxHeartbeats 4000000
namespace L2
open PySem PySem.Spec PyProof.Rows
/-! a row that nobody comes to -/
def tNo : TS := fun _ _ _ => False
/-! powers -/
/-! {} of tuples as keys -/
theorem tDNewT_n {σ : St} {H : Hp} {Q : VK} : tDNewT σ H Q = ∀ p H', New H p (.dT []) H' → Q (.ref p) H' := by
  unfold tDNewT; rw [new_eq (F := fun p H' => Q (.ref p) H')]
/-! texts cut into words -/
section
open Builtin Builtin.Str
end
theorem strs_vals : ∀ {ts : List Str} {us : List Value}, Vals (ts.map V.str) us → ∃ l : List (Str × Tok), us = strValues l ∧ l.map (·.1) = ts
  | [], _, .nil => ⟨[], rfl, rfl⟩
  | z :: ts, _, .cons r t => by
    obtain ⟨l, rfl, rfl⟩ := strs_vals t
    obtain ⟨tk, rfl⟩ := r
    exact ⟨(z, tk) :: l, rfl, rfl⟩
/-! str.split -/
def rSplit : V → List V → Hp → VK → Prop := fun x vs H Q => match x, vs with
  | .str z, [] => z.length + 2 ≤ sizeLine ∧ ∀ p H', New H p (.lst ((Txt.words z).map V.str)) H' → Q (.ref p) H'
  | _, _ => False
/-! str.join -/
def rJoin (K : PySem.W.Frag) : V → List V → Hp → VK → Prop := fun x vs H Q => match x, vs with
  | .str z, [.ref a] => ∃ ts : List Str, SqL K H a (ts.map V.str) ∧ (ts.map (·.length)).sum + ts.length ≤ 1048576 ∧ z.length ≤ 16 ∧ Q (.str (Str.join z ts)) H
  | _, _ => False
theorem mt_join {X : Cx} : MtR X "str.join" (rJoin X.K) := by
  intro pins s σ H x vs v us Q I rx rv h
  cases x with
  | str z =>
    match vs, h with
    | [.ref a], h =>
      obtain ⟨ts, hl, hw, hz, q⟩ := h
      obtain ⟨t, rfl⟩ := rx
      obtain ⟨u, rfl, ru⟩ := vals1 rv
      cases ru
      obtain ⟨its, r, pl, _⟩ := I.list hl
      obtain ⟨l, rfl, hlt⟩ := strs_vals r
      refine SC.join pl.isList hlt (joinOk_of_weight hw hz) fun t' k => ?_
      refine ⟨.str (Str.join z ts), H, I.tok _, ⟨t', ?_⟩, q⟩
      show Value.str (Builtin.Str.glued z ts) t' = _
      rw [StrLaws.glued_eq_join]
  | _ => exact False.elim h
/-! int.bit_length -/
def rBits : V → List V → Hp → VK → Prop := fun x vs H Q => match x, vs with
  | .int i, [] => Q (.int (Builtin.Int.intBits i)) H
  | _, _ => False
end L2
namespace L2
open PySem PySem.Spec PyProof.Rows
theorem Same.nil {H H' : Hp} {p : Addr} (s : Same H H') (h : H' p = none) : H p = none := by
  cases e : H p with
  | none => rfl
  | some o => rw [s _ _ e] at h; cases h
/-- a new object, whatever else is new -/
structure Mad (H : Hp) (p : Addr) (o : HO) (H' : Hp) : Prop where
  was : H p = none
  at_ : H' p = some o
  same : Same H H'
theorem Mad.pre {H H0 H' : Hp} {p : Addr} {o : HO} (s : Same H0 H) (n : Mad H p o H') : Mad H0 p o H' := ⟨s.nil n.was, n.at_, s.trans n.same⟩
theorem Mad.sq {K : PySem.W.Frag} {H H' : Hp} {p : Addr} {xs : List V} (n : Mad H p (.lst xs) H') : SqL K H' p xs := .of n.at_
/-! one sign, several times -/
theorem mul_one (c : Nat) (n : Int) : (Txt.mul ⟨#[c]⟩ n).cps.toList = List.replicate n.toNat c := by
  unfold Txt.mul
  by_cases h1 : n < 1
  · rw [if_pos h1]
    have : n.toNat = 0 := by omega
    rw [this]
    rfl
  · rw [if_neg h1]
    by_cases h2 : (n == 1 || Str.length ⟨#[c]⟩ == 0) = true
    · rw [if_pos h2]
      have h3 : n = 1 := by
        rw [Bool.or_eq_true] at h2
        rcases h2 with q | q
        · exact beq_iff_eq.mp q
        · exact absurd (beq_iff_eq.mp q) (by show ¬ (1 : Nat) = 0; decide)
      subst h3
      rfl
    · rw [if_neg h2]
      show ((List.replicate n.toNat (#[c] : Array Nat)).foldl (· ++ ·) #[]).toList = _
      rw [fold_rep]
      simp
/-! a sign among the letters -/
def lettersS : Str := "abcdefghijklmnopqrstuvwxyz"
end L2

set_option maxHeartbeats 4000000
namespace K06
open PySem PySem.Spec PyProof.Rows L2 GM
def top (i : Nat) : Stmt := PySem.Challenge.pw_gatefold_k06_net_written.main.body.getD i (.Pass ⟨0, 0, 0, 0⟩)
abbrev s_wall : Stmt := top 0
abbrev s_Net___init__ : Stmt := inClass (top 2) 0
abbrev N_Net___init__ : List Str := ["self", "inputs", "gates", "outputs"]
theorem sc_Net___init__ : FnScope N_Net___init__ ["self", "inputs", "gates", "outputs"] (defScope s_Net___init__) := ⟨rfl, rfl, rfl, by decide +kernel, rfl, by decide +kernel, by decide +kernel⟩
abbrev s_Net_told : Stmt := inClass (top 2) 1
abbrev s_Net_columns : Stmt := inClass (top 2) 2
abbrev s_Net_carried : Stmt := inClass (top 2) 3
abbrev s_written : Stmt := top 4
abbrev N_written : List Str := ["net", "lines", "name", "word", "parts"]
theorem sc_written : FnScope N_written ["net"] (defScope s_written) := ⟨rfl, rfl, rfl, by decide +kernel, rfl, by decide +kernel, by decide +kernel⟩
abbrev s_law_cell_at : Stmt := top 6
abbrev N_law_cell_at : List Str := ["_law_script", "_law_k"]
theorem sc_law_cell_at : FnScope N_law_cell_at ["_law_script", "_law_k"] (defScope s_law_cell_at) := ⟨rfl, rfl, rfl, by decide +kernel, rfl, by decide +kernel, by decide +kernel⟩
abbrev s_law_letters : Stmt := top 7
abbrev N_law_letters : List Str := ["_law_seed", "_law_size", "_law_some", "_law_name", "_law_state", "_law_k"]
theorem sc_law_letters : FnScope N_law_letters ["_law_seed", "_law_size"] (defScope s_law_letters) := ⟨rfl, rfl, rfl, by decide +kernel, rfl, by decide +kernel, by decide +kernel⟩
abbrev s_law_next : Stmt := top 8
abbrev N_law_next : List Str := ["_law_name", "_law_some", "_law_at", "_law_sign"]
theorem sc_law_next : FnScope N_law_next ["_law_name"] (defScope s_law_next) := ⟨rfl, rfl, rfl, by decide +kernel, rfl, by decide +kernel, by decide +kernel⟩
abbrev s_law_one_name : Stmt := top 9
abbrev N_law_one_name : List Str := ["_law_k", "_law_cell", "_law_some", "_law_size", "_law_word", "_law_code", "_law_place", "_law_middle", "_law_near"]
theorem sc_law_one_name : FnScope N_law_one_name ["_law_k", "_law_cell"] (defScope s_law_one_name) := ⟨rfl, rfl, rfl, by decide +kernel, rfl, by decide +kernel, by decide +kernel⟩
abbrev s_law_all_names : Stmt := top 10
abbrev N_law_all_names : List Str := ["_law_count", "_law_cell", "_law_near", "_law_names", "_law_k", "_law_name"]
theorem sc_law_all_names : FnScope N_law_all_names ["_law_count", "_law_cell"] (defScope s_law_all_names) := ⟨rfl, rfl, rfl, by decide +kernel, rfl, by decide +kernel, by decide +kernel⟩
abbrev s_law_drawn_gate : Stmt := top 11
abbrev N_law_drawn_gate : List Str := ["_law_name", "_law_known", "_law_cell", "_law_word", "_law_more", "_law_count", "_law_span", "_law_parts", "_law_j", "_law_at"]
theorem sc_law_drawn_gate : FnScope N_law_drawn_gate ["_law_name", "_law_known", "_law_cell"] (defScope s_law_drawn_gate) := ⟨rfl, rfl, rfl, by decide +kernel, rfl, by decide +kernel, by decide +kernel⟩
abbrev s_law_drawn : Stmt := top 12
abbrev N_law_drawn : List Str := ["_law_many", "_law_cells", "_law_cell", "_law_outs", "_law_names", "_law_gates", "_law_k", "_law_outputs", "_law_j", "_law_back"]
theorem sc_law_drawn : FnScope N_law_drawn ["_law_many", "_law_cells", "_law_cell", "_law_outs"] (defScope s_law_drawn) := ⟨rfl, rfl, rfl, by decide +kernel, rfl, by decide +kernel, by decide +kernel⟩
abbrev s_law_due_lines : Stmt := top 13
abbrev N_law_due_lines : List Str := ["_law_net", "_law_lines", "_law_name", "_law_word", "_law_parts", "_law_line", "_law_part", "_law_last"]
theorem sc_law_due_lines : FnScope N_law_due_lines ["_law_net"] (defScope s_law_due_lines) := ⟨rfl, rfl, rfl, by decide +kernel, rfl, by decide +kernel, by decide +kernel⟩
abbrev s_law_same : Stmt := top 14
abbrev N_law_same : List Str := ["_law_found", "_law_due", "_law_k"]
theorem sc_law_same : FnScope N_law_same ["_law_found", "_law_due"] (defScope s_law_same) := ⟨rfl, rfl, rfl, by decide +kernel, rfl, by decide +kernel, by decide +kernel⟩
abbrev s_law : Stmt := top 15
abbrev N_law : List Str := ["_law_script", "_law_many", "_law_net", "_law_gates", "_law_handed", "_law_made", "_law_name", "_law_word", "_law_parts", "_law_row", "_law_due", "_law_found"]
theorem sc_law : FnScope N_law ["_law_script"] (defScope s_law) := ⟨rfl, rfl, rfl, by decide +kernel, rfl, by decide +kernel, by decide +kernel⟩
structure Adr where
  f_wall : Addr
  d_wall : FuncData
  f_Net___init__ : Addr
  d_Net___init__ : FuncData
  f_Net_told : Addr
  d_Net_told : FuncData
  f_Net_columns : Addr
  d_Net_columns : FuncData
  f_Net_carried : Addr
  d_Net_carried : FuncData
  f_written : Addr
  d_written : FuncData
  f_law_cell_at : Addr
  d_law_cell_at : FuncData
  f_law_letters : Addr
  d_law_letters : FuncData
  f_law_next : Addr
  d_law_next : FuncData
  f_law_one_name : Addr
  d_law_one_name : FuncData
  f_law_all_names : Addr
  d_law_all_names : FuncData
  f_law_drawn_gate : Addr
  d_law_drawn_gate : FuncData
  f_law_drawn : Addr
  d_law_drawn : FuncData
  f_law_due_lines : Addr
  d_law_due_lines : FuncData
  f_law_same : Addr
  d_law_same : FuncData
  f_law : Addr
  d_law : FuncData
  c_Net : Addr
structure Txt (K : PySem.W.Frag) (mg : Str → Option Value) (a : Adr) : Prop where
  mg_wall : mg "_wall" = some (.ref a.f_wall)
  fn_wall : Fun K "_wall" "_wall" s_wall a.f_wall a.d_wall
  bi_wall : Binds K a.d_wall ["k"] []
  fn_Net___init__ : Fun K "__init__" "Net.__init__" s_Net___init__ a.f_Net___init__ a.d_Net___init__
  bi_Net___init__ : Binds K a.d_Net___init__ ["self", "inputs", "gates", "outputs"] []
  fn_Net_told : Fun K "told" "Net.told" s_Net_told a.f_Net_told a.d_Net_told
  bi_Net_told : Binds K a.d_Net_told ["self", "truths"] []
  me_Net_told : Meth K a.c_Net "told" a.f_Net_told
  fn_Net_columns : Fun K "columns" "Net.columns" s_Net_columns a.f_Net_columns a.d_Net_columns
  bi_Net_columns : Binds K a.d_Net_columns ["self"] []
  me_Net_columns : Meth K a.c_Net "columns" a.f_Net_columns
  fn_Net_carried : Fun K "carried" "Net.carried" s_Net_carried a.f_Net_carried a.d_Net_carried
  bi_Net_carried : Binds K a.d_Net_carried ["self", "columns", "every"] []
  me_Net_carried : Meth K a.c_Net "carried" a.f_Net_carried
  mg_written : mg "written" = some (.ref a.f_written)
  fn_written : Fun K "written" "written" s_written a.f_written a.d_written
  bi_written : Binds K a.d_written ["net"] []
  mg_law_cell_at : mg "_law_cell_at" = some (.ref a.f_law_cell_at)
  fn_law_cell_at : Fun K "_law_cell_at" "_law_cell_at" s_law_cell_at a.f_law_cell_at a.d_law_cell_at
  bi_law_cell_at : Binds K a.d_law_cell_at ["_law_script", "_law_k"] []
  mg_law_letters : mg "_law_letters" = some (.ref a.f_law_letters)
  fn_law_letters : Fun K "_law_letters" "_law_letters" s_law_letters a.f_law_letters a.d_law_letters
  bi_law_letters : Binds K a.d_law_letters ["_law_seed", "_law_size"] []
  mg_law_next : mg "_law_next" = some (.ref a.f_law_next)
  fn_law_next : Fun K "_law_next" "_law_next" s_law_next a.f_law_next a.d_law_next
  bi_law_next : Binds K a.d_law_next ["_law_name"] []
  mg_law_one_name : mg "_law_one_name" = some (.ref a.f_law_one_name)
  fn_law_one_name : Fun K "_law_one_name" "_law_one_name" s_law_one_name a.f_law_one_name a.d_law_one_name
  bi_law_one_name : Binds K a.d_law_one_name ["_law_k", "_law_cell"] []
  mg_law_all_names : mg "_law_all_names" = some (.ref a.f_law_all_names)
  fn_law_all_names : Fun K "_law_all_names" "_law_all_names" s_law_all_names a.f_law_all_names a.d_law_all_names
  bi_law_all_names : Binds K a.d_law_all_names ["_law_count", "_law_cell"] []
  mg_law_drawn_gate : mg "_law_drawn_gate" = some (.ref a.f_law_drawn_gate)
  fn_law_drawn_gate : Fun K "_law_drawn_gate" "_law_drawn_gate" s_law_drawn_gate a.f_law_drawn_gate a.d_law_drawn_gate
  bi_law_drawn_gate : Binds K a.d_law_drawn_gate ["_law_name", "_law_known", "_law_cell"] []
  mg_law_drawn : mg "_law_drawn" = some (.ref a.f_law_drawn)
  fn_law_drawn : Fun K "_law_drawn" "_law_drawn" s_law_drawn a.f_law_drawn a.d_law_drawn
  bi_law_drawn : Binds K a.d_law_drawn ["_law_many", "_law_cells", "_law_cell", "_law_outs"] []
  mg_law_due_lines : mg "_law_due_lines" = some (.ref a.f_law_due_lines)
  fn_law_due_lines : Fun K "_law_due_lines" "_law_due_lines" s_law_due_lines a.f_law_due_lines a.d_law_due_lines
  bi_law_due_lines : Binds K a.d_law_due_lines ["_law_net"] []
  mg_law_same : mg "_law_same" = some (.ref a.f_law_same)
  fn_law_same : Fun K "_law_same" "_law_same" s_law_same a.f_law_same a.d_law_same
  bi_law_same : Binds K a.d_law_same ["_law_found", "_law_due"] []
  mg_law : mg "law" = some (.ref a.f_law)
  fn_law : Fun K "law" "law" s_law a.f_law a.d_law
  bi_law : Binds K a.d_law ["_law_script"] []
  mg_Net : mg "Net" = some (.ref a.c_Net)
  cl_Net : Cls K a.c_Net
  mk_Net : Mk K a.c_Net a.f_Net___init__
  na_Net_inputs : NoAttr K a.c_Net "inputs"
  na_Net_gates : NoAttr K a.c_Net "gates"
  na_Net_outputs : NoAttr K a.c_Net "outputs"
  no_isinstance : mg "isinstance" = none
  no_len : mg "len" = none
  no_list : mg "list" = none
  no_min : mg "min" = none
  no_range : mg "range" = none
  no_str : mg "str" = none
  no_tuple : mg "tuple" = none
seal PE PT PS PSs PA PG PGs PI PO PW PTs PPs PK PC PSet PIp OpR UnR CallR IxR SlR MtR MtM tMid
local macro_rules | `(tactic| walk_at "go") => `(tactic| try simp only [tSeq, tAsg, gName, gTup, gCons, gNil, gSub, tOp, tC, cVar, cI2, cI2c, cAdd, cMul, cEq, cNe, cIs, cIsNot, cIn, cBool, cTst, cTru, cChain, tRet, tRetN, tDrop, tIfS, tIf, tCall, tCons, tNil, tNext, tCB, cLen, cInt, cIsinst, cMin, cMax, cAll, tNot, tOr, tAnd, cAndV, cOrV, cNotV, tUn, cNeg, tFor_list, tFor_tup, tFor_rng1, tFor_rng2, tFor_str, tComp_list, tComp_tup, tComp_rng1, tComp_str, cRef, cInt1, cInt2, cIx, tSl, cSlU, cPart, tNoPart, tVals, tLst_n, tTup_n, tDispC_n, tDNewK_n, cList_n, cTuple_n, tDGet2, tDGet, tDIn, tDNotIn, sDPut, tBM, tBM0, tMake, tMeth, tFld, sFld, cDictZip, rFind, tyV, cListRange, tNo, tDNewT_n, rSplit, rJoin, rBits, List.append_nil, List.cons_append, List.nil_append, List.getElem?_cons_zero, List.getElem?_cons_succ, List.set_cons_zero, List.set_cons_succ, decide_eq_true_eq, if_true, if_false, Bool.false_eq_true, eq_self, decide_true, decide_false, Bool.not_true, Bool.not_false, Bool.not_eq_true', decide_eq_false_iff_not, Bool.and_true, Bool.true_and])
local macro_rules | `(tactic| walk_at "sd") => `(tactic| first | exact And.intro (by decide) (by decide) | decide | omega | exact Or.inl (And.intro (by omega) (by omega)) | exact Or.inr (And.intro (by omega) (by omega)) | exact And.intro (by omega) (And.intro (by omega) (by decide)) | exact And.intro (by omega) (by omega))
local macro_rules | `(tactic| walk_at "gs") => `(tactic| (walk_at "go"; repeat (refine And.intro (by walk_at "sd") ?_; walk_at "go")))
/-! the law: names -/
def lettersS : Str := "abcdefghijklmnopqrstuvwxyz"
def nearV : List V := [.str "in", .str "out", .str "is", .str "and", .str "or", .str "either", .str "not", .str "choose", .str "most", .str "yes", .str "no"]
def nearStr : List Str := ["in", "out", "is", "and", "or", "either", "not", "choose", "most", "yes", "no"]
theorem letters_cps : lettersS.cps.toList = (List.range 26).map (97 + ·) := by decide +kernel
theorem letters_at {i : Int} (h0 : 0 ≤ i) (h1 : i < 26) : atI lettersS.cps.toList i = some (97 + i.toNat) := by
  rw [letters_cps, atI_map 0 h0 (by rw [List.length_range]; exact h1)]
  congr 2
  have : i.toNat < 26 := by omega
  simp [List.getD, this]
theorem find_letter {c : Nat} (h : NM.okc c) : Txt.find lettersS ⟨#[c]⟩ = ((c - 97 : Nat) : Int) := by
  have k : ∀ k, k < 26 → Txt.find lettersS ⟨#[97 + k]⟩ = (k : Int) := by decide +kernel
  have := k (c - 97) (by have := h.2; omega)
  rw [show 97 + (c - 97) = c by have := h.1; omega] at this
  exact this
theorem size_big : (1000 : Nat) ≤ sizeLine := by decide
def sp_law_cell_at (K : PySem.W.Frag) : Sp := fun vs H Q _ => ∃ (p : Addr) (ns : List Int) (k : Int), vs = [.ref p, .int k] ∧ SqL K H p (ns.map V.int) ∧ 0 ≤ k ∧ ∀ c : Int, Q (.int c) H
def sp_law_letters (_ : PySem.W.Frag) : Sp := fun vs H Q _ => ∃ (c : Int) (n : Nat), vs = [.int c, .int n] ∧ n ≤ 100 ∧ ∀ z : Str, z.length = n → (∀ d ∈ z.cps.toList, NM.okc d) → Q (.str z) H
def sp_law_next (_ : PySem.W.Frag) : Sp := fun vs H Q _ => ∃ z : Str, vs = [.str z] ∧ NM.Nm z.cps.toList ∧ ∀ y : Str, y.cps.toList = NM.nextL z.cps.toList → Q (.str y) H
def sp_law_one_name (_ : PySem.W.Frag) : Sp := fun vs H Q _ => ∃ (k c : Int), vs = [.int k, .int c] ∧ 0 ≤ k ∧ k ≤ 1000 ∧ ∀ (z : Str) H', NM.Nm z.cps.toList → Same H H' → Q (.str z) H'
def sp_law_all_names (_ : PySem.W.Frag) : Sp := fun vs H Q _ => ∃ (n : Nat) (c : Int), vs = [.int n, .int c] ∧ n ≤ 200 ∧ ∀ (ns : List Str) p H', ns.length = n → ns.Nodup → (∀ z ∈ ns, NM.Nm z.cps.toList ∧ inV (.str z) nearV = false) → Same H H' → H p = none → H' p = some (.lst (ns.map V.str)) → Q (.ref p) H'
def rd_law_cell_at (K : PySem.W.Frag) : TS := (tSeq (tIfS (cTst (tOp (cI2 fun i j => .bl (decide (i < j))) (cVar 1) (tCB (cLen K) (tCons (cVar 0) tNil)))) (tRet (tOp (cIx K) (cVar 0) (cVar 1))) tNext)
    (tRet (tC (.int 0))))
theorem tm_law_cell_at {P : Program} {w : World} {K : PySem.W.Frag} {mg : Str → Option Value} {base : Heap} {a : Adr} (T : Txt K mg a) {cdv : Value} {A : Around} {outer : List Env} {s : Shared} {H : Hp} {E : XK} (hr : Room 0 (A.deeper (envOfC "_law_cell_at" (defScope s_law_cell_at) s.heap.objs.size a.f_law_cell_at cdv))) :
    PSs (cxOf CX0 P w K mg base N_law_cell_at "_law_cell_at" (defScope s_law_cell_at) a.f_law_cell_at cdv A outer s H E).nox (defBody s_law_cell_at) (rd_law_cell_at K) :=
  (pss_cons (ps_if (t_cmp o_lt (cv 1) (pe_callB c_len (by rfl) T.no_len PySem.boot_len (pa_cons (cv 0) pa_nil)) (nomark _)) (pss_one (ps_ret (pe_ix i_seq (cv 0) (cv 1) (fun _ _ => rfl)))) pss_nil)
      (pss_one (ps_ret pe_int)))
theorem ok_law_cell_at {P : Program} {w : World} {K : PySem.W.Frag} {mg : Str → Option Value} {base : Heap} {a : Adr} (T : Txt K mg a) : FnOk P w K mg base CX0 1 a.f_law_cell_at a.d_law_cell_at ["_law_script", "_law_k"] (sp_law_cell_at K) := by
  refine T.fn_law_cell_at.ok sc_law_cell_at (fun vs H Q E h => ?_) (fun cdv A outer s H vs Q E hr h => ⟨_, tm_law_cell_at T hr, ?_⟩)
  · obtain ⟨p, ns, k, rfl, _⟩ := h; rfl
  · obtain ⟨p, ns, k, rfl, hS, hk, q⟩ := h
    show rd_law_cell_at K _ [some (.ref p), some (.int k)] H
    unfold rd_law_cell_at
    walk_at "go"
    refine .inl ⟨_, .inl hS, ?_⟩
    rw [List.length_map]
    by_cases hlt : k < ns.length
    · rw [if_pos hlt]
      exact ixI hS hk hlt (q _)
    · rw [if_neg hlt]
      exact q 0
def rd_law_letters (K : PySem.W.Frag) : TS := (tSeq (tAsg (tC (.str "abcdefghijklmnopqrstuvwxyz")) (gName 2))
    (tSeq (tAsg (tC (.str "")) (gName 3))
    (tSeq (tAsg (tOp (cI2c (fun _ j => 0 < j) fun i j => .int (i % j)) (cVar 0) (tC (.int 2147483647))) (gName 4))
    (tSeq (tFor (iRng1 (tCons (cVar 1) tNil)) (gName 5) (tSeq (tAsg (tOp (cI2c (fun _ j => 0 < j) fun i j => .int (i % j)) (tOp cAdd (tOp cMul (cVar 4) (tC (.int 48271))) (tC (.int 7919))) (tC (.int 2147483647))) (gName 4))
    (tAsg (tOp cAdd (cVar 3) (tOp (cIx K) (cVar 2) (tOp (cI2c (fun _ j => 0 < j) fun i j => .int (i % j)) (tOp (cI2c CDiv fun i j => .int (i / j)) (cVar 4) (tC (.int 64))) (tC (.int 26))))) (gName 3))))
    (tRet (cVar 3))))))
theorem tm_law_letters {P : Program} {w : World} {K : PySem.W.Frag} {mg : Str → Option Value} {base : Heap} {a : Adr} (T : Txt K mg a) {cdv : Value} {A : Around} {outer : List Env} {s : Shared} {H : Hp} {E : XK} (hr : Room 0 (A.deeper (envOfC "_law_letters" (defScope s_law_letters) s.heap.objs.size a.f_law_letters cdv))) :
    PSs (cxOf CX0 P w K mg base N_law_letters "_law_letters" (defScope s_law_letters) a.f_law_letters cdv A outer s H E).nox (defBody s_law_letters) (rd_law_letters K) :=
  (pss_cons (ps_set (i := 2) sc_law_letters.nd rfl (by first | exact Or.inl rfl | exact Or.inr rfl) pe_str)
      (pss_cons (ps_set (i := 3) sc_law_letters.nd rfl (by first | exact Or.inl rfl | exact Or.inr rfl) pe_str)
      (pss_cons (ps_set (i := 4) sc_law_letters.nd rfl (by first | exact Or.inl rfl | exact Or.inr rfl) (pe_op o_mod (cv 0) pe_int))
      (pss_cons (ps_for PassesOwn.never rfl (pi_range1 rfl T.no_range (pa_cons (cv 1) pa_nil)) (pg_name (i := 5) sc_law_letters.nd rfl (by first | exact Or.inl rfl | exact Or.inr rfl)) (pss_cons (ps_set (i := 4) sc_law_letters.nd rfl (by first | exact Or.inl rfl | exact Or.inr rfl) (pe_op o_mod (pe_op o_add (pe_op o_mul (cv 4) pe_int) pe_int) pe_int))
      (pss_one (ps_set (i := 3) sc_law_letters.nd rfl (by first | exact Or.inl rfl | exact Or.inr rfl) (pe_op o_add (cv 3) (pe_ix i_seq (cv 2) (pe_op o_mod (pe_op o_fdiv (cv 4) pe_int) pe_int) (fun _ _ => rfl)))))))
      (pss_one (ps_ret (cv 3)))))))
theorem ok_law_letters {P : Program} {w : World} {K : PySem.W.Frag} {mg : Str → Option Value} {base : Heap} {a : Adr} (T : Txt K mg a) : FnOk P w K mg base CX0 1 a.f_law_letters a.d_law_letters ["_law_seed", "_law_size"] (sp_law_letters K) := by
  refine T.fn_law_letters.ok sc_law_letters (fun vs H Q E h => ?_) (fun cdv A outer s H vs Q E hr h => ⟨_, tm_law_letters T hr, ?_⟩)
  · obtain ⟨c, n, rfl, _⟩ := h; rfl
  · obtain ⟨c, n, rfl, hn, q⟩ := h
    show rd_law_letters K _ [some (.int c), some (.int n), none, none, none, none] H
    unfold rd_law_letters
    walk_at "go"
    refine ⟨by decide, by omega, by omega, ?_⟩
    rw [Int.toNat_natCast]
    refine for_rngG (fun i σ H2 => H2 = H ∧ ∃ (z : Str) (st : Int) (v : Option V), z.length = i ∧ (∀ d ∈ z.cps.toList, NM.okc d) ∧ σ = [some (.int c), some (.int n), some (.str lettersS), some (.str z), some (.int st), v]) ⟨rfl, "", _, none, rfl, by intro d hd; exact absurd hd (by decide +kernel +revert), rfl⟩ ?_ ?_
    · rintro i σ H2 hi ⟨rfl, z, st, v, hz, hok, rfl⟩
      walk_at "go"
      have hd := letters_at (i := (st * 48271 + 7919) % 2147483647 / 64 % 26) (by omega) (by omega)
      refine ⟨.inr ⟨by decide, by decide⟩, by decide, ⟨by decide, by decide⟩, by decide, by decide, _, hd, ?_, trivial, z ++ ⟨#[_]⟩, _, _, ?_, ?_, rfl⟩
      · show z.length + 1 ≤ sizeLine
        have := size_big
        omega
      · rw [PySem.Str.length_append, hz]; rfl
      · intro d hd'
        rw [cps_app] at hd'
        rcases List.mem_append.mp hd' with e | e
        · exact hok d e
        · have e' : d = 97 + ((st * 48271 + 7919) % 2147483647 / 64 % 26).toNat := by simpa using e
          subst e'
          exact ⟨by omega, by omega⟩
    · rintro σ H2 ⟨rfl, z, st, v, hz, hok, rfl⟩
      walk_at "go"
      exact q z hz hok
theorem one_z (c : Nat) : ((⟨#[c]⟩ : Str) = "z") ↔ c = 122 := by
  constructor
  · intro e
    have : (⟨#[c]⟩ : Str).cps.toList = (Str.ofString "z").cps.toList := by rw [e]
    have h2 : (Str.ofString "z").cps.toList = [122] := by decide +kernel
    rw [h2] at this
    simpa using this
  · intro e
    subst e
    decide +kernel
def rd_law_next (K : PySem.W.Frag) : TS := (tSeq (tAsg (tC (.str "abcdefghijklmnopqrstuvwxyz")) (gName 1))
    (tSeq (tAsg (tOp (cI2 fun i j => .int (i - j)) (tCB (cLen K) (tCons (cVar 0) tNil)) (tC (.int 1))) (gName 2))
    (tSeq (tWhile (tAnd (cTst (tOp (cI2 fun i j => .bl (decide (j ≤ i))) (cVar 2) (tC (.int 0)))) (cTst (tOp (cEq K) (tOp (cIx K) (cVar 0) (cVar 2)) (tC (.str "z"))))) (tAsg (tOp (cI2 fun i j => .int (i - j)) (cVar 2) (tC (.int 1))) (gName 2)))
    (tSeq (tIfS (cTst (tOp (cI2 fun i j => .bl (decide (i < j))) (cVar 2) (tC (.int 0)))) (tRet (tOp cMul (tC (.str "a")) (tOp cAdd (tOp (cI2c (fun _ j => 0 < j) fun i j => .int (i % j)) (tCB (cLen K) (tCons (cVar 0) tNil)) (tC (.int 8))) (tC (.int 1))))) tNext)
    (tSeq (tAsg (tOp (cIx K) (cVar 1) (tOp cAdd (tBM K "str" rFind (cVar 1) (tCons (tOp (cIx K) (cVar 0) (cVar 2)) tNil)) (tC (.int 1)))) (gName 3))
    (tRet (tOp cAdd (tOp cAdd (tSl (cSlU K) (cVar 0) tNoPart (cPart (cVar 2))) (cVar 3)) (tOp cMul (tC (.str "a")) (tOp (cI2 fun i j => .int (i - j)) (tOp (cI2 fun i j => .int (i - j)) (tCB (cLen K) (tCons (cVar 0) tNil)) (tC (.int 1))) (cVar 2))))))))))
theorem tm_law_next {P : Program} {w : World} {K : PySem.W.Frag} {mg : Str → Option Value} {base : Heap} {a : Adr} (T : Txt K mg a) {cdv : Value} {A : Around} {outer : List Env} {s : Shared} {H : Hp} {E : XK} (hr : Room 0 (A.deeper (envOfC "_law_next" (defScope s_law_next) s.heap.objs.size a.f_law_next cdv))) :
    PSs (cxOf CX0 P w K mg base N_law_next "_law_next" (defScope s_law_next) a.f_law_next cdv A outer s H E).nox (defBody s_law_next) (rd_law_next K) :=
  (pss_cons (ps_set (i := 1) sc_law_next.nd rfl (by first | exact Or.inl rfl | exact Or.inr rfl) pe_str)
      (pss_cons (ps_set (i := 2) sc_law_next.nd rfl (by first | exact Or.inl rfl | exact Or.inr rfl) (pe_op o_sub (pe_callB c_len (by rfl) T.no_len PySem.boot_len (pa_cons (cv 0) pa_nil)) pe_int))
      (pss_cons (ps_while PassesOwn.never (PW.pt (pw_and (t_cmp o_ge (cv 2) pe_int (nomark _)) (pw_and1 (t_cmp (o_eq (hr8 hr)) (pe_ix i_seq (cv 0) (cv 2) (fun _ _ => rfl)) pe_str (nomark _))))) (pss_one (ps_set (i := 2) sc_law_next.nd rfl (by first | exact Or.inl rfl | exact Or.inr rfl) (pe_op o_sub (cv 2) pe_int))))
      (pss_cons (ps_if (t_cmp o_lt (cv 2) pe_int (nomark _)) (pss_one (ps_ret (pe_op o_mul pe_str (pe_op o_add (pe_op o_mod (pe_callB c_len (by rfl) T.no_len PySem.boot_len (pa_cons (cv 0) pa_nil)) pe_int) pe_int)))) pss_nil)
      (pss_cons (ps_set (i := 3) sc_law_next.nd rfl (by first | exact Or.inl rfl | exact Or.inr rfl) (pe_ix i_seq (cv 1) (pe_op o_add (pe_bm PySem.F.plainAttrs_str PySem.F.slot_str_find PySem.F.type_str_find mt_find (cv 1) (pa_cons (pe_ix i_seq (cv 0) (cv 2) (fun _ _ => rfl)) pa_nil)) pe_int) (fun _ _ => rfl)))
      (pss_one (ps_ret (pe_op o_add (pe_op o_add (pe_slice s_u (cv 0) po_none (e_part (cv 2))) (cv 3)) (pe_op o_mul pe_str (pe_op o_sub (pe_op o_sub (pe_callB c_len (by rfl) T.no_len PySem.boot_len (pa_cons (cv 0) pa_nil)) pe_int) (cv 2)))))))))))
theorem ok_law_next {P : Program} {w : World} {K : PySem.W.Frag} {mg : Str → Option Value} {base : Heap} {a : Adr} (T : Txt K mg a) : FnOk P w K mg base CX0 1 a.f_law_next a.d_law_next ["_law_name"] (sp_law_next K) := by
  refine T.fn_law_next.ok sc_law_next (fun vs H Q E h => ?_) (fun cdv A outer s H vs Q E hr h => ⟨_, tm_law_next T hr, ?_⟩)
  · obtain ⟨z, rfl, _⟩ := h; rfl
  · obtain ⟨z, rfl, hz, q⟩ := h
    show rd_law_next K _ [some (.str z), none, none, none] H
    unfold rd_law_next
    have hlen := len_cps z
    have hle := hz.le
    have hpos := hz.pos
    have hsz : z.length ≤ sizeLine := Nat.le_trans (by omega) size_big
    walk_at "go"
    refine ⟨hsz, ?_⟩
    refine ⟨fun m σ H2 => H2 = H ∧ ∃ p : List Nat, m = p.length ∧ z.cps.toList = p ++ List.replicate (z.length - p.length) 122 ∧ p.length ≤ z.length ∧ σ = [some (.str z), some (.str lettersS), some (.int ((p.length : Int) - 1)), none], ⟨z.length, rfl, z.cps.toList, by rw [hlen], by rw [hlen]; simp, by omega, by rw [hlen]; rfl⟩, ?_⟩
    rintro m σ H2 ⟨rfl, p, rfl, hp, hpl, rfl⟩
    walk_at "go"
    by_cases h0 : (0 : Int) ≤ (p.length : Int) - 1
    · rw [if_pos h0]
      obtain ⟨p', c, rfl⟩ : ∃ p' c, p = p' ++ [c] := ⟨p.dropLast, p.getLast (by intro e; subst e; simp at h0), (List.dropLast_concat_getLast _).symm⟩
      have hpl' : p'.length + 1 ≤ z.length := by simpa using hpl
      have hi : ((p' ++ [c]).length : Int) - 1 = (p'.length : Int) := by simp
      have hcz : z.cps.toList = p' ++ c :: List.replicate (z.length - (p'.length + 1)) 122 := by rw [hp]; simp
      have hat : atI z.cps.toList (p'.length : Int) = some c := by
        refine atI_nat ?_
        rw [hcz]
        simp
      have hokc : NM.okc c := hz.ok c (by rw [hcz]; simp)
      rw [hi]
      refine ⟨hsz, c, hat, ?_⟩
      by_cases hc : c = 122
      · have hc' : ((⟨#[c]⟩ : Str) = "z") := (one_z c).mpr hc
        rw [if_pos hc']
        refine ⟨fun σ' H' => H' = H2 ∧ σ' = [some (.str z), some (.str lettersS), some (.int ((p'.length : Int) - 1)), none], ?_, ?_⟩
        · rintro σ' H' ⟨rfl, rfl⟩
          refine ⟨p'.length, by simp, rfl, p', rfl, ?_, by omega, rfl⟩
          rw [hcz, hc]
          have e : z.length - p'.length = (z.length - (p'.length + 1)) + 1 := by omega
          rw [e, List.replicate_succ]
        · walk_at "go"
          exact ⟨trivial, trivial⟩
      · have hc' : ¬ ((⟨#[c]⟩ : Str) = "z") := fun e => hc ((one_z c).mp e)
        rw [if_neg hc']
        walk_at "go"
        rw [if_neg (by omega)]
        have hf := find_letter hokc
        refine ⟨trivial, hsz, c, hat, ?_⟩
        rw [hf]
        have h1 := hokc.1
        have h2 := hokc.2
        refine ⟨by decide, _, letters_at (i := ((c - 97 : Nat) : Int) + 1) (by omega) (by omega), ?_⟩
        have l1 := Txt.slice_le z none (some (p'.length : Int))
        have lm : (Txt.mul "a" ((z.length : Int) - 1 - (p'.length : Int))).length = z.length - 1 - p'.length := by
          rw [← len_cps, mul_a, List.length_replicate]; omega
        have big := size_big
        refine ⟨hsz, by show _ + 1 ≤ sizeLine; omega, hsz, mulOk_a (by omega) (by omega), ?_, ?_⟩
        · rw [PySem.Str.length_append]
          show _ + 1 + (Txt.mul "a" _).length ≤ sizeLine
          rw [lm]; omega
        · refine q _ ?_
          rw [hcz, NM.nextL_at p' c _ hc, cps_app, cps_app, slice_to (by omega) (by omega), mul_a]
          have et : (((c - 97 : Nat) : Int) + 1).toNat = c - 97 + 1 := by omega
          have e2 : 97 + (c - 97 + 1) = c + 1 := by omega
          have e3 : ((z.length : Int) - 1 - (p'.length : Int)).toNat = z.length - (p'.length + 1) := by omega
          rw [hcz, et, e2, e3, Int.toNat_natCast]
          unfold NM.nx
          simp
    · rw [if_neg h0]
      have hp0 : p = [] := by
        cases p with
        | nil => rfl
        | cons a r => simp at h0
      subst hp0
      walk_at "go"
      rw [if_pos (by decide)]
      refine ⟨hsz, by decide, mulOk_a (by omega) (by omega), q _ ?_⟩
      rw [mul_a]
      have e : z.cps.toList = List.replicate z.length 122 := by simpa using hp
      rw [e, NM.nextL_all]
      congr 1
def rd_law_one_name (K : PySem.W.Frag) : TS := (tSeq (tAsg (tC (.str "abcdefghijklmnopqrstuvwxyz")) (gName 2))
    (tSeq (tAsg (tOp cAdd (tC (.int 1)) (tOp (cI2c (fun _ j => 0 < j) fun i j => .int (i % j)) (tOp (cI2c CDiv fun i j => .int (i / j)) (cVar 1) (tC (.int 4))) (tC (.int 8)))) (gName 3))
    (tSeq (tAsg (tCall (sp_law_letters K) [] E0 (tCons (cVar 1) (tCons (tC (.int 8)) tNil))) (gName 4))
    (tSeq (tIfS (cTst (tOp (cEq K) (tOp (cI2c (fun _ j => 0 < j) fun i j => .int (i % j)) (cVar 1) (tC (.int 4))) (tC (.int 0)))) (tSeq (tAsg (tOp (cI2c (fun _ j => 0 < j) fun i j => .int (i % j)) (tOp cAdd (tOp (cI2c CDiv fun i j => .int (i / j)) (cVar 1) (tC (.int 32))) (tOp cMul (cVar 0) (tOp cAdd (tC (.int 1)) (tOp cMul (tC (.int 2)) (tOp (cI2c (fun _ j => 0 < j) fun i j => .int (i % j)) (tOp (cI2c CDiv fun i j => .int (i / j)) (cVar 1) (tC (.int 64))) (tC (.int 6))))))) (tC (.int 676))) (gName 5))
    (tSeq (tAsg (tOp (cI2c (fun _ j => 0 < j) fun i j => .int (i % j)) (tOp (cI2c CDiv fun i j => .int (i / j)) (cVar 1) (tC (.int 4))) (tC (.int 7))) (gName 6))
    (tSeq (tAsg (tOp cAdd (tOp (cIx K) (cVar 2) (tOp (cI2c CDiv fun i j => .int (i / j)) (cVar 5) (tC (.int 26)))) (tOp (cIx K) (cVar 2) (tOp (cI2c (fun _ j => 0 < j) fun i j => .int (i % j)) (cVar 5) (tC (.int 26))))) (gName 7))
    (tRet (tOp cAdd (tOp cAdd (tSl (cSlU K) (cVar 4) tNoPart (cPart (cVar 6))) (cVar 7)) (tSl (cSlU K) (cVar 4) (cPart (tOp cAdd (cVar 6) (tC (.int 2)))) tNoPart)))))) tNext)
    (tSeq (tIfS (cTst (tOp (cEq K) (tOp (cI2c (fun _ j => 0 < j) fun i j => .int (i % j)) (cVar 1) (tC (.int 4))) (tC (.int 1)))) (tRet (tCall (sp_law_letters K) [] E0 (tCons (tOp cAdd (cVar 1) (tOp cMul (tC (.int 7919)) (cVar 0))) (tCons (tOp cAdd (tC (.int 1)) (tOp (cI2c (fun _ j => 0 < j) fun i j => .int (i % j)) (tOp cAdd (cVar 3) (tOp cMul (tC (.int 3)) (cVar 0))) (tC (.int 8)))) tNil)))) tNext)
    (tSeq (tIfS (cTst (tOp (cEq K) (tOp (cI2c (fun _ j => 0 < j) fun i j => .int (i % j)) (cVar 1) (tC (.int 4))) (tC (.int 2)))) (tRet (tSl (cSlU K) (cVar 4) tNoPart (cPart (tOp cAdd (tC (.int 1)) (tOp (cI2c (fun _ j => 0 < j) fun i j => .int (i % j)) (tOp cAdd (cVar 3) (cVar 0)) (tC (.int 8))))))) tNext)
    (tSeq (tAsg (tLst (tVals [(.str "in"), (.str "out"), (.str "is"), (.str "and"), (.str "or"), (.str "either"), (.str "not"), (.str "choose"), (.str "most"), (.str "yes"), (.str "no")])) (gName 8))
    (tRet (tOp cAdd (tOp (cIx K) (cVar 8) (tOp (cI2c (fun _ j => 0 < j) fun i j => .int (i % j)) (tOp cAdd (cVar 3) (cVar 0)) (tC (.int 11)))) (tOp (cIx K) (cVar 4) (tOp (cI2c (fun _ j => 0 < j) fun i j => .int (i % j)) (cVar 0) (tC (.int 8)))))))))))))
theorem tm_law_one_name {P : Program} {w : World} {K : PySem.W.Frag} {mg : Str → Option Value} {base : Heap} {a : Adr} (T : Txt K mg a) {cdv : Value} {A : Around} {outer : List Env} {s : Shared} {H : Hp} {E : XK} (hr : Room 1 (A.deeper (envOfC "_law_one_name" (defScope s_law_one_name) s.heap.objs.size a.f_law_one_name cdv))) :
    PSs (cxOf CX0 P w K mg base N_law_one_name "_law_one_name" (defScope s_law_one_name) a.f_law_one_name cdv A outer s H E).nox (defBody s_law_one_name) (rd_law_one_name K) :=
  (pss_cons (ps_set (i := 2) sc_law_one_name.nd rfl (by first | exact Or.inl rfl | exact Or.inr rfl) pe_str)
      (pss_cons (ps_set (i := 3) sc_law_one_name.nd rfl (by first | exact Or.inl rfl | exact Or.inr rfl) (pe_op o_add pe_int (pe_op o_mod (pe_op o_fdiv (cv 1) pe_int) pe_int)))
      (pss_cons (ps_set (i := 4) sc_law_one_name.nd rfl (by first | exact Or.inl rfl | exact Or.inr rfl) (pe_call (ok_law_letters T) (hr.mono (by decide)) rfl T.mg_law_letters T.fn_law_letters.kp T.bi_law_letters .nil pass0 (pa_cons (cv 1) (pa_cons pe_int pa_nil))))
      (pss_cons (ps_if (t_cmp (o_eq (hr8 hr)) (pe_op o_mod (cv 1) pe_int) pe_int (nomark _)) (pss_cons (ps_set (i := 5) sc_law_one_name.nd rfl (by first | exact Or.inl rfl | exact Or.inr rfl) (pe_op o_mod (pe_op o_add (pe_op o_fdiv (cv 1) pe_int) (pe_op o_mul (cv 0) (pe_op o_add pe_int (pe_op o_mul pe_int (pe_op o_mod (pe_op o_fdiv (cv 1) pe_int) pe_int))))) pe_int))
      (pss_cons (ps_set (i := 6) sc_law_one_name.nd rfl (by first | exact Or.inl rfl | exact Or.inr rfl) (pe_op o_mod (pe_op o_fdiv (cv 1) pe_int) pe_int))
      (pss_cons (ps_set (i := 7) sc_law_one_name.nd rfl (by first | exact Or.inl rfl | exact Or.inr rfl) (pe_op o_add (pe_ix i_seq (cv 2) (pe_op o_fdiv (cv 5) pe_int) (fun _ _ => rfl)) (pe_ix i_seq (cv 2) (pe_op o_mod (cv 5) pe_int) (fun _ _ => rfl))))
      (pss_one (ps_ret (pe_op o_add (pe_op o_add (pe_slice s_u (cv 4) po_none (e_part (cv 6))) (cv 7)) (pe_slice s_u (cv 4) (e_part (pe_op o_add (cv 6) pe_int)) po_none))))))) pss_nil)
      (pss_cons (ps_if (t_cmp (o_eq (hr8 hr)) (pe_op o_mod (cv 1) pe_int) pe_int (nomark _)) (pss_one (ps_ret (pe_call (ok_law_letters T) (hr.mono (by decide)) rfl T.mg_law_letters T.fn_law_letters.kp T.bi_law_letters .nil pass0 (pa_cons (pe_op o_add (cv 1) (pe_op o_mul pe_int (cv 0))) (pa_cons (pe_op o_add pe_int (pe_op o_mod (pe_op o_add (cv 3) (pe_op o_mul pe_int (cv 0))) pe_int)) pa_nil))))) pss_nil)
      (pss_cons (ps_if (t_cmp (o_eq (hr8 hr)) (pe_op o_mod (cv 1) pe_int) pe_int (nomark _)) (pss_one (ps_ret (pe_slice s_u (cv 4) po_none (e_part (pe_op o_add pe_int (pe_op o_mod (pe_op o_add (cv 3) (cv 0)) pe_int)))))) pss_nil)
      (pss_cons (ps_set (i := 8) sc_law_one_name.nd rfl (by first | exact Or.inl rfl | exact Or.inr rfl) (pe_lst (pa_consts (vs := [(.str "in"), (.str "out"), (.str "is"), (.str "and"), (.str "or"), (.str "either"), (.str "not"), (.str "choose"), (.str "most"), (.str "yes"), (.str "no")]) rfl)))
      (pss_one (ps_ret (pe_op o_add (pe_ix i_seq (cv 8) (pe_op o_mod (pe_op o_add (cv 3) (cv 0)) pe_int) (fun _ _ => rfl)) (pe_ix i_seq (cv 4) (pe_op o_mod (cv 0) pe_int) (fun _ _ => rfl))))))))))))
theorem ok_law_one_name {P : Program} {w : World} {K : PySem.W.Frag} {mg : Str → Option Value} {base : Heap} {a : Adr} (T : Txt K mg a) : FnOk P w K mg base CX0 2 a.f_law_one_name a.d_law_one_name ["_law_k", "_law_cell"] (sp_law_one_name K) := by
  refine T.fn_law_one_name.ok sc_law_one_name (fun vs H Q E h => ?_) (fun cdv A outer s H vs Q E hr h => ⟨_, tm_law_one_name T hr, ?_⟩)
  · obtain ⟨k, c, rfl, _⟩ := h; rfl
  · obtain ⟨k, c, rfl, hk0, hk1, q⟩ := h
    show rd_law_one_name K _ [some (.int k), some (.int c), none, none, none, none, none, none, none] H
    unfold rd_law_one_name
    walk_at "gs"
    refine ⟨c, 8, rfl, by decide, fun w8 hw8 hok8 => ?_⟩
    walk_at "gs"
    have hl8 := len_cps w8
    have hbig := size_big
    have hsz : w8.length ≤ sizeLine := by omega
    have mk : ∀ {z : Str}, 1 ≤ z.length → z.length ≤ 8 → (∀ d ∈ z.cps.toList, NM.okc d) → NM.Nm z.cps.toList := fun h1 h2 h3 => ⟨by rw [len_cps]; exact h1, by rw [len_cps]; exact h2, h3⟩
    have okl : ∀ (i : Int), 0 ≤ i → i < 26 → NM.okc (97 + i.toNat) := fun i h0 h1 => ⟨by omega, by omega⟩
    have one : ∀ d : Nat, (⟨#[d]⟩ : Str).length = 1 := fun d => rfl
    have onec : ∀ d : Nat, (⟨#[d]⟩ : Str).cps.toList = [d] := fun d => rfl
    by_cases h0 : c % 4 = 0
    · rw [if_pos h0]
      walk_at "gs"
      have k0 := Int.emod_nonneg (c / 32 + k * (1 + 2 * (c / 64 % 6))) (show (676 : Int) ≠ 0 by decide)
      have k1 := Int.emod_lt_of_pos (c / 32 + k * (1 + 2 * (c / 64 % 6))) (show (0 : Int) < 676 by decide)
      generalize (c / 32 + k * (1 + 2 * (c / 64 % 6))) % 676 = code at k0 k1
      refine ⟨_, letters_at (i := code / 26) (by omega) (by omega), ?_⟩
      walk_at "gs"
      refine ⟨_, letters_at (i := code % 26) (by omega) (by omega), ?_⟩
      have l1 := slice_to (z := w8) (j := c / 4 % 7) (by omega) (by omega)
      have l2 := slice_from (z := w8) (i := c / 4 % 7 + 2) (by omega) (by omega)
      have m1 : (Txt.slice w8 none (some (c / 4 % 7))).length = (c / 4 % 7).toNat := by
        rw [← len_cps, l1, List.length_take, hl8, hw8]; omega
      have m2 : (Txt.slice w8 (some (c / 4 % 7 + 2)) none).length = 8 - (c / 4 % 7 + 2).toNat := by
        rw [← len_cps, l2, List.length_drop, hl8, hw8]
      refine ⟨by rw [one, one]; omega, hsz, ?_, hsz, ?_, q _ _ (mk ?_ ?_ ?_) (Same.refl _)⟩
      · rw [PySem.Str.length_append, one, one, m1]; omega
      · rw [PySem.Str.length_append, PySem.Str.length_append, one, one, m1, m2]; omega
      · rw [PySem.Str.length_append, PySem.Str.length_append, PySem.Str.length_append, one, one, m1, m2]; omega
      · rw [PySem.Str.length_append, PySem.Str.length_append, PySem.Str.length_append, one, one, m1, m2]; omega
      · intro d hd
        rw [cps_app, cps_app, cps_app, l1, l2, onec, onec] at hd
        rcases List.mem_append.mp hd with e | e
        · rcases List.mem_append.mp e with e | e
          · exact hok8 d (List.mem_of_mem_take e)
          · rcases List.mem_append.mp e with e | e
            · rw [List.mem_singleton.mp e]; exact okl _ (by omega) (by omega)
            · rw [List.mem_singleton.mp e]; exact okl _ (by omega) (by omega)
        · exact hok8 d (List.mem_of_mem_drop e)
    rw [if_neg h0]
    walk_at "gs"
    by_cases h1 : c % 4 = 1
    · rw [if_pos h1]
      walk_at "gs"
      obtain ⟨n, hn⟩ := Int.eq_ofNat_of_zero_le (by omega : 0 ≤ 1 + (1 + c / 4 % 8 + 3 * k) % 8)
      rw [hn]
      refine ⟨_, n, rfl, by omega, fun z hz hok => q z H (mk (by omega) (by omega) hok) (Same.refl _)⟩
    rw [if_neg h1]
    walk_at "gs"
    by_cases h2 : c % 4 = 2
    · rw [if_pos h2]
      walk_at "gs"
      have l1 := slice_to (z := w8) (j := 1 + (1 + c / 4 % 8 + k) % 8) (by omega) (by omega)
      have m1 : (Txt.slice w8 none (some (1 + (1 + c / 4 % 8 + k) % 8))).length = (1 + (1 + c / 4 % 8 + k) % 8).toNat := by
        rw [← len_cps, l1, List.length_take, hl8, hw8]; omega
      refine q _ _ (mk (by omega) (by omega) ?_) (Same.refl _)
      intro d hd
      rw [l1] at hd
      exact hok8 d (List.mem_of_mem_take hd)
    rw [if_neg h2]
    walk_at "gs"
    intro r H1 n1
    walk_at "gs"
    obtain ⟨wd, hwd, hwl, hwok⟩ : ∃ wd : Str, atI nearV ((1 + c / 4 % 8 + k) % 11) = some (.str wd) ∧ (1 ≤ wd.length ∧ wd.length ≤ 6) ∧ ∀ d ∈ wd.cps.toList, NM.okc d := by
      have hc := Int.emod_nonneg (1 + c / 4 % 8 + k) (show (11 : Int) ≠ 0 by decide)
      have hc2 := Int.emod_lt_of_pos (1 + c / 4 % 8 + k) (show (0 : Int) < 11 by decide)
      generalize (1 + c / 4 % 8 + k) % 11 = i at hc hc2
      have hi : i = 0 ∨ i = 1 ∨ i = 2 ∨ i = 3 ∨ i = 4 ∨ i = 5 ∨ i = 6 ∨ i = 7 ∨ i = 8 ∨ i = 9 ∨ i = 10 := by omega
      unfold NM.okc
      rcases hi with e | e | e | e | e | e | e | e | e | e | e <;> rw [e] <;> exact ⟨_, rfl, by decide +kernel, by decide +kernel⟩
    refine ⟨_, _, .inl n1.sq, hwd, ?_⟩
    walk_at "gs"
    obtain ⟨d, hd⟩ : ∃ d, atI w8.cps.toList (k % 8) = some d := ⟨_, atI_ok 0 (by omega) (by omega)⟩
    have hdm : d ∈ w8.cps.toList := by
      have := atI_ok (xs := w8.cps.toList) (i := k % 8) 0 (by omega) (by omega)
      rw [hd] at this
      rw [Option.some.inj this]
      have hlt : (k % 8).toNat < w8.cps.toList.length := by omega
      have e5 : w8.cps.toList.getD (k % 8).toNat 0 = w8.cps.toList[(k % 8).toNat] := by simp only [List.getD, List.getElem?_eq_getElem hlt, Option.getD_some]
      rw [e5]
      exact List.getElem_mem _
    refine ⟨d, hd, by rw [one]; omega, q _ _ (mk ?_ ?_ ?_) n1.same⟩
    · rw [PySem.Str.length_append, one]; omega
    · rw [PySem.Str.length_append, one]; omega
    · intro e he
      rw [cps_app, onec] at he
      rcases List.mem_append.mp he with z | z
      · exact hwok e z
      · rw [List.mem_singleton.mp z]; exact hok8 d hdm
def rd_law_all_names (K : PySem.W.Frag) : TS := (tSeq (tAsg (tLst (tVals [(.str "in"), (.str "out"), (.str "is"), (.str "and"), (.str "or"), (.str "either"), (.str "not"), (.str "choose"), (.str "most"), (.str "yes"), (.str "no")])) (gName 2))
    (tSeq (tAsg (tLst tNil) (gName 3))
    (tSeq (tFor (iRng1 (tCons (cVar 0) tNil)) (gName 4) (tSeq (tAsg (tCall (sp_law_one_name K) [] E0 (tCons (cVar 4) (tCons (cVar 1) tNil))) (gName 5))
    (tSeq (tWhile (tOr (cTst (tOp (cIn K false) (cVar 5) (cVar 2))) (cTst (tOp (cIn K false) (cVar 5) (cVar 3)))) (tAsg (tCall (sp_law_next K) [] E0 (tCons (cVar 5) tNil)) (gName 5)))
    (tDrop (tBM K "list" rAppend (cVar 3) (tCons (cVar 5) tNil))))))
    (tRet (cVar 3)))))
theorem tm_law_all_names {P : Program} {w : World} {K : PySem.W.Frag} {mg : Str → Option Value} {base : Heap} {a : Adr} (T : Txt K mg a) {cdv : Value} {A : Around} {outer : List Env} {s : Shared} {H : Hp} {E : XK} (hr : Room 2 (A.deeper (envOfC "_law_all_names" (defScope s_law_all_names) s.heap.objs.size a.f_law_all_names cdv))) :
    PSs (cxOf CX0 P w K mg base N_law_all_names "_law_all_names" (defScope s_law_all_names) a.f_law_all_names cdv A outer s H E).nox (defBody s_law_all_names) (rd_law_all_names K) :=
  (pss_cons (ps_set (i := 2) sc_law_all_names.nd rfl (by first | exact Or.inl rfl | exact Or.inr rfl) (pe_lst (pa_consts (vs := [(.str "in"), (.str "out"), (.str "is"), (.str "and"), (.str "or"), (.str "either"), (.str "not"), (.str "choose"), (.str "most"), (.str "yes"), (.str "no")]) rfl)))
      (pss_cons (ps_set (i := 3) sc_law_all_names.nd rfl (by first | exact Or.inl rfl | exact Or.inr rfl) (pe_lst pa_nil))
      (pss_cons (ps_for PassesOwn.never rfl (pi_range1 rfl T.no_range (pa_cons (cv 0) pa_nil)) (pg_name (i := 4) sc_law_all_names.nd rfl (by first | exact Or.inl rfl | exact Or.inr rfl)) (pss_cons (ps_set (i := 5) sc_law_all_names.nd rfl (by first | exact Or.inl rfl | exact Or.inr rfl) (pe_call (ok_law_one_name T) (hr.mono (by decide)) rfl T.mg_law_one_name T.fn_law_one_name.kp T.bi_law_one_name .nil pass0 (pa_cons (cv 4) (pa_cons (cv 1) pa_nil))))
      (pss_cons (ps_while PassesOwn.never (PW.pt (pw_or (t_cmp o_in (cv 5) (cv 2) (by with_unfolding_all rfl)) (pw_or1 (t_cmp o_in (cv 5) (cv 3) (by with_unfolding_all rfl))))) (pss_one (ps_set (i := 5) sc_law_all_names.nd rfl (by first | exact Or.inl rfl | exact Or.inr rfl) (pe_call (ok_law_next T) (hr.mono (by decide)) rfl T.mg_law_next T.fn_law_next.kp T.bi_law_next .nil pass0 (pa_cons (cv 5) pa_nil)))))
      (pss_one (ps_expr (pe_bm PySem.F.plainAttrs_list PySem.F.slot_list_append PySem.F.type_list_append (mtr mt_append) (cv 3) (pa_cons (cv 5) pa_nil)))))))
      (pss_one (ps_ret (cv 3))))))
theorem ok_law_all_names {P : Program} {w : World} {K : PySem.W.Frag} {mg : Str → Option Value} {base : Heap} {a : Adr} (T : Txt K mg a) : FnOk P w K mg base CX0 3 a.f_law_all_names a.d_law_all_names ["_law_count", "_law_cell"] (sp_law_all_names K) := by
  refine T.fn_law_all_names.ok sc_law_all_names (fun vs H Q E h => ?_) (fun cdv A outer s H vs Q E hr h => ⟨_, tm_law_all_names T hr, ?_⟩)
  · obtain ⟨n, c, rfl, _⟩ := h; rfl
  · obtain ⟨n, c, rfl, hn, q⟩ := h
    show rd_law_all_names K _ [some (.int n), some (.int c), none, none, none, none] H
    unfold rd_law_all_names
    have hbig := size_big
    walk_at "gs"
    intro r1 H1 n1
    walk_at "gs"
    intro r2 H2 n2
    walk_at "gs"
    rw [Int.toNat_natCast]
    have flatS : ∀ ss : List Str, (ss.map V.str).all flatV = true := fun ss => by
      rw [List.all_eq_true]
      intro x hx
      obtain ⟨y, _, rfl⟩ := List.mem_map.mp hx
      rfl
    have inS : ∀ (z : Str) (ss : List Str), inV (.str z) (ss.map V.str) = decide (z ∈ ss) := fun z ss => by
      unfold inV
      rw [List.any_map]
      rw [Bool.eq_iff_iff]
      simp only [List.any_eq_true, Function.comp, decide_eq_true_eq]
      constructor
      · rintro ⟨y, hy, e⟩
        have : y = z := by simpa [eqV] using e
        exact this ▸ hy
      · intro hz
        exact ⟨z, hz, by simp [eqV]⟩
    have nearS : nearV = nearStr.map V.str := rfl
    refine for_rngG (fun i σ H3 => ∃ ns : List Str, ns.length = i ∧ ns.Nodup ∧ (∀ z ∈ ns, NM.Nm z.cps.toList ∧ inV (.str z) nearV = false) ∧ Same H1 H3 ∧ H3 r2 = some (.lst (ns.map V.str)) ∧ ∃ v1 v2, σ = [some (.int n), some (.int c), some (.ref r1), some (.ref r2), v1, v2])
      ⟨[], rfl, List.nodup_nil, by simp, n2.same, n2.at_, _, _, rfl⟩ ?_ ?_
    · rintro i σ H3 hi ⟨ns, hnl, hnd, hnm, s3, at3, v1, v2, rfl⟩
      walk_at "gs"
      refine ⟨_, _, rfl, by omega, by omega, fun z0 H4 hz0 s4 => ?_⟩
      walk_at "gs"
      have at4 := s4 _ _ at3
      have near4 : SqL K H4 r1 nearV := (s3.trans s4).seq n1.sq
      obtain ⟨m0, _, hm0⟩ := NM.out_of ((nearStr ++ ns).map fun z : Str => z.cps.toList) hz0 (by
        rw [List.length_map, List.length_append]
        exact Nat.lt_trans (show _ < 1000 by rw [hnl]; show 11 + i < 1000; omega) NM.M_big)
      refine ⟨fun m σ' H' => H' = H4 ∧ ∃ z : Str, NM.Nm z.cps.toList ∧ NM.iter m z.cps.toList ∉ ((nearStr ++ ns).map fun z : Str => z.cps.toList) ∧ σ' = [some (.int n), some (.int c), some (.ref r1), some (.ref r2), some (.int (0 + (i : Int))), some (.str z)], ⟨m0, rfl, z0, hz0, hm0, rfl⟩, ?_⟩
      rintro m σ' H' ⟨rfl, z, hz, hm, rfl⟩
      walk_at "gs"
      refine ⟨nearV, .inl near4, rfl, by decide +kernel, ?_⟩
      have turn : (z ∈ nearStr ∨ z ∈ ns) → ∃ N : L2.St → Hp → Prop, (∀ σ'' H'', N σ'' H'' → ∃ m', m' < m ∧ H'' = H' ∧ ∃ z : Str, NM.Nm z.cps.toList ∧ NM.iter m' z.cps.toList ∉ ((nearStr ++ ns).map fun z : Str => z.cps.toList) ∧ σ'' = [some (.int n), some (.int c), some (.ref r1), some (.ref r2), some (.int (0 + (i : Int))), some (.str z)]) ∧ sp_law_next K [.str z] H' (fun v H'' => N [some (.int n), some (.int c), some (.ref r1), some (.ref r2), some (.int (0 + (i : Int))), some v] H'') E0 := by
        intro hin
        refine ⟨fun σ'' H'' => H'' = H' ∧ ∃ y : Str, y.cps.toList = NM.nextL z.cps.toList ∧ σ'' = [some (.int n), some (.int c), some (.ref r1), some (.ref r2), some (.int (0 + (i : Int))), some (.str y)], ?_, z, rfl, hz, fun y hy => ⟨rfl, y, hy, rfl⟩⟩
        rintro σ'' H'' ⟨rfl, y, hy, rfl⟩
        cases m with
        | zero =>
          exact absurd (List.mem_map.mpr ⟨z, List.mem_append.mpr hin, rfl⟩) hm
        | succ m =>
          refine ⟨m, Nat.lt_succ_self _, rfl, y, ?_, ?_, rfl⟩
          · rw [hy]; exact (NM.nextL_nx _).nm hz
          · rw [hy]; exact hm
      rw [nearS, inS]
      by_cases hA : z ∈ nearStr
      · rw [if_pos (decide_eq_true hA)]
        walk_at "gs"
        exact turn (.inl hA)
      · rw [if_neg (by rw [decide_eq_false hA]; simp)]
        walk_at "gs"
        refine ⟨_, .inl (.of at4), rfl, flatS _, ?_⟩
        rw [inS]
        by_cases hB : z ∈ ns
        · rw [if_pos (decide_eq_true hB)]
          walk_at "gs"
          exact turn (.inr hB)
        · rw [if_neg (by rw [decide_eq_false hB]; simp)]
          walk_at "gs"
          refine ⟨.inl ⟨by trivial, _, .of at4⟩, r2, _, _, rfl, rfl, at4, by rw [List.length_map]; omega, ns ++ [z], by rw [List.length_append, hnl]; rfl, ?_, ?_, (s3.trans s4).put n2.was, by rw [upd_same, List.map_append]; rfl, _, _, rfl⟩
          · rw [List.nodup_append]
            refine ⟨hnd, by simp, ?_⟩
            intro x hx y hy e
            rw [List.mem_singleton.mp hy] at e
            exact hB (e ▸ hx)
          · intro y hy
            rcases List.mem_append.mp hy with e | e
            · exact hnm y e
            · rw [List.mem_singleton.mp e]
              exact ⟨hz, by rw [inS]; exact decide_eq_false hA⟩
    · rintro σ H3 ⟨ns, hnl, hnd, hnm, s3, at3, v1, v2, rfl⟩
      walk_at "gs"
      exact q ns r2 H3 hnl hnd hnm (n1.same.trans s3) (n1.same.free n2.was) at3

/-! the law: nets drawn -/
abbrev Gt := ME.Gt Str
def GtsAt (N : Addr → Prop) (K : PySem.W.Frag) (H : Hp) (ts : List V) (gs : List Gt) : Prop := ts.length = gs.length ∧ ∀ (i : Nat) (g : Gt), gs[i]? = some g → ∃ t q, ts[i]? = some (.ref t) ∧ N t ∧ N q ∧ SqT K H t [.str g.1, .str g.2.1, .ref q] ∧ SqL K H q (g.2.2.map V.str)
section
variable {N N' : Addr → Prop} {K : PySem.W.Frag} {H H' : Hp} {ts : List V} {gs : List Gt}
theorem GtsAt.keep (k : Keep N H H') (h : GtsAt N K H ts gs) : GtsAt N K H' ts gs := ⟨h.1, fun i g e => let ⟨t, q, a, b, c, d, f⟩ := h.2 i g e; ⟨t, q, a, b, c, k.tup b d, k.seq c f⟩⟩
theorem GtsAt.same (k : Same H H') (h : GtsAt N K H ts gs) : GtsAt N K H' ts gs := h.keep k.keep
theorem GtsAt.weak (w : ∀ b, N b → N' b) (h : GtsAt N K H ts gs) : GtsAt N' K H ts gs := ⟨h.1, fun i g e => let ⟨t, q, a, b, c, d, f⟩ := h.2 i g e; ⟨t, q, a, w _ b, w _ c, d, f⟩⟩
theorem GtsAt.nil : GtsAt N K H [] [] := ⟨rfl, fun i g e => by simp at e⟩
theorem GtsAt.snoc (h : GtsAt N K H ts gs) {t q : Addr} {g : Gt} (nt : N t) (nq : N q) (ht : SqT K H t [.str g.1, .str g.2.1, .ref q]) (hq : SqL K H q (g.2.2.map V.str)) : GtsAt N K H (ts ++ [.ref t]) (gs ++ [g]) := by
  refine ⟨by rw [List.length_append, List.length_append, h.1]; rfl, fun i g' e => ?_⟩
  by_cases hi : i < gs.length
  · rw [List.getElem?_append_left hi] at e
    obtain ⟨t', q', a, r⟩ := h.2 i g' e
    exact ⟨t', q', by rw [List.getElem?_append_left (by rw [h.1]; exact hi)]; exact a, r⟩
  · have hi' : i = gs.length := by
      have := (List.getElem?_eq_some_iff.mp e).1
      rw [List.length_append] at this
      simp at this
      omega
    subst hi'
    have e' : g = g' := by simpa using e
    subst e'
    exact ⟨t, q, by rw [← h.1]; simp, nt, nq, ht, hq⟩
end
def wordsS : List Str := ["and", "or", "either", "not", "choose", "most", "yes", "no"]
/-- as many parts as the gate may have -/
def Ar6 (w : Str) (n : Nat) : Prop := Ar w n ∧ w ∈ wordsS ∧ n ≤ 6 ∧ ((w = "and" ∨ w = "or" ∨ w = "either") → 2 ≤ n) ∧ ((w = "yes" ∨ w = "no") → n = 0)
structure WN (ins : List Str) (gs : List Gt) (outs : List Str) : Prop where
  i0 : 1 ≤ ins.length
  i1 : ins.length ≤ 10
  gl : gs.length ≤ 60
  o0 : 1 ≤ outs.length
  o1 : outs.length ≤ 16
  wg : ME.WG Ar6 ins gs
  wo : ∀ o ∈ outs, o ∈ ins ++ gs.map (·.1)
  nd : (ins ++ gs.map (·.1)).Nodup
  nm : ∀ n ∈ ins ++ gs.map (·.1), NM.Nm n.cps.toList ∧ inV (.str n) nearV = false
def NetV (K : PySem.W.Frag) (H : Hp) (p : Addr) (ins : List Str) (gs : List Gt) (outs : List Str) : Prop := ∃ a b c ts, SqT K H p [.ref a, .ref b, .ref c] ∧ SqL K H a (ins.map V.str) ∧ SqL K H b ts ∧ GtsAt (fun _ => True) K H ts gs ∧ SqL K H c (outs.map V.str)
theorem NetV.same {K : PySem.W.Frag} {H H' : Hp} {p : Addr} {ins : List Str} {gs : List Gt} {outs : List Str} (s : Same H H') (h : NetV K H p ins gs outs) : NetV K H' p ins gs outs :=
  let ⟨a, b, c, ts, h1, h2, h3, h4, h5⟩ := h; ⟨a, b, c, ts, s.tup h1, s.seq h2, s.seq h3, h4.same s, s.seq h5⟩
def arsK : List (Key × V) := [(.inr "not", .int 1), (.inr "choose", .int 3), (.inr "most", .int 3), (.inr "yes", .int 0), (.inr "no", .int 0)]
theorem ar_of {wd : Str} (h : wd ∈ wordsS) (d : Int) (h0 : 2 ≤ d) (h1 : d ≤ 6) : ∃ n : Nat, (valV arsK (Sum.inr wd)).getD (.int d) = .int n ∧ n ≤ 6 ∧ Ar wd n := by
  obtain ⟨k, rfl⟩ := Int.eq_ofNat_of_zero_le (by omega : 0 ≤ d)
  have nn : ∀ {w1 w2 w3 : Prop} {n : Nat}, ¬ w1 → ¬ w2 → ¬ w3 → (w1 → n = 1) ∧ (w2 → n = 3) ∧ (w3 → n = 3) := fun a b c => ⟨fun z => absurd z a, fun z => absurd z b, fun z => absurd z c⟩
  unfold wordsS at h
  simp only [List.mem_cons, List.not_mem_nil, or_false] at h
  rcases h with rfl | rfl | rfl | rfl | rfl | rfl | rfl | rfl
  · exact ⟨k, (by have z : valV arsK (Sum.inr ("and" : Str)) = none := by decide +kernel
                  rw [z]; rfl), by omega, nn (by decide +kernel) (by decide +kernel) (by decide +kernel)⟩
  · exact ⟨k, (by have z : valV arsK (Sum.inr ("or" : Str)) = none := by decide +kernel
                  rw [z]; rfl), by omega, nn (by decide +kernel) (by decide +kernel) (by decide +kernel)⟩
  · exact ⟨k, (by have z : valV arsK (Sum.inr ("either" : Str)) = none := by decide +kernel
                  rw [z]; rfl), by omega, nn (by decide +kernel) (by decide +kernel) (by decide +kernel)⟩
  · exact ⟨1, (by have z : valV arsK (Sum.inr ("not" : Str)) = some (.int 1) := by decide +kernel
                  rw [z]; rfl), by omega, fun _ => rfl, fun z => absurd z (by decide +kernel), fun z => absurd z (by decide +kernel)⟩
  · exact ⟨3, (by have z : valV arsK (Sum.inr ("choose" : Str)) = some (.int 3) := by decide +kernel
                  rw [z]; rfl), by omega, fun z => absurd z (by decide +kernel), fun _ => rfl, fun z => absurd z (by decide +kernel)⟩
  · exact ⟨3, (by have z : valV arsK (Sum.inr ("most" : Str)) = some (.int 3) := by decide +kernel
                  rw [z]; rfl), by omega, fun z => absurd z (by decide +kernel), fun z => absurd z (by decide +kernel), fun _ => rfl⟩
  · exact ⟨0, (by have z : valV arsK (Sum.inr ("yes" : Str)) = some (.int 0) := by decide +kernel
                  rw [z]; rfl), by omega, nn (by decide +kernel) (by decide +kernel) (by decide +kernel)⟩
  · exact ⟨0, (by have z : valV arsK (Sum.inr ("no" : Str)) = some (.int 0) := by decide +kernel
                  rw [z]; rfl), by omega, nn (by decide +kernel) (by decide +kernel) (by decide +kernel)⟩
theorem ar6_of {wd : Str} (h : wd ∈ wordsS) (d : Int) (h0 : 2 ≤ d) (h1 : d ≤ 6) : ∃ n : Nat, (valV arsK (Sum.inr wd)).getD (.int d) = .int n ∧ n ≤ 6 ∧ Ar6 wd n := by
  obtain ⟨n, e, h6, ha⟩ := ar_of h d h0 h1
  refine ⟨n, e, h6, ha, h, h6, fun hw => ?_, fun hw => ?_⟩
  · have z : valV arsK (Sum.inr wd) = none := by rcases hw with rfl | rfl | rfl <;> decide +kernel
    rw [z] at e
    have := V.int.inj e
    omega
  · have z : valV arsK (Sum.inr wd) = some (.int 0) := by rcases hw with rfl | rfl <;> decide +kernel
    rw [z] at e
    have := V.int.inj e
    omega
theorem tab8 (ws : List Str) (hl : ws.length = 8) (hm : ∀ w ∈ ws, w ∈ wordsS) (c : Int) : ∃ wd, atI (ws.map V.str) (c % 8) = some (.str wd) ∧ wd ∈ wordsS := by
  have h0 : 0 ≤ c % 8 := by omega
  have h1 : c % 8 < ws.length := by rw [hl]; omega
  refine ⟨_, atI_map ("" : Str) h0 h1, hm _ ?_⟩
  have : (c % 8).toNat < ws.length := by omega
  simp [List.getD, this]
theorem getD_mem {α : Type} {xs : List α} {n : Nat} (d : α) (h : n < xs.length) : xs.getD n d ∈ xs := by simp [List.getD, h]
def sp_law_drawn_gate (K : PySem.W.Frag) : Sp := fun vs H Q _ => ∃ (nm : Str) (p : Addr) (known : List Str) (c : Int), vs = [.str nm, .ref p, .int c] ∧ SqL K H p (known.map V.str) ∧ 1 ≤ known.length ∧ known.length ≤ 200 ∧
  ∀ (wd : Str) (ps : List Str) t q H', (∀ x ∈ ps, x ∈ known) → Ar6 wd ps.length → ps.length ≤ 6 → wd ∈ wordsS → Same H H' → H t = none → H q = none → H' t = some (.tup [.str nm, .str wd, .ref q]) → H' q = some (.lst (ps.map V.str)) → Q (.ref t) H'
def rd_law_drawn_gate (K : PySem.W.Frag) : TS := (tSeq (tAsg (tOp (cIx K) (tLst (tVals [(.str "and"), (.str "either"), (.str "or"), (.str "not"), (.str "choose"), (.str "most"), (.str "and"), (.str "either")])) (tOp (cI2c (fun _ j => 0 < j) fun i j => .int (i % j)) (cVar 2) (tC (.int 8)))) (gName 3))
    (tMid (tIfS (cTst (tOp (cEq K) (tOp (cI2c (fun _ j => 0 < j) fun i j => .int (i % j)) (cVar 2) (tC (.int 64))) (tC (.int 62)))) (tAsg (tOp (cIx K) (tLst (tVals [(.str "yes"), (.str "no")])) (tOp (cI2c (fun _ j => 0 < j) fun i j => .int (i % j)) (tOp (cI2c CDiv fun i j => .int (i / j)) (cVar 2) (tC (.int 64))) (tC (.int 2)))) (gName 3)) tNext)
    (tSeq (tAsg (tOp (cI2c CDiv fun i j => .int (i / j)) (cVar 2) (tC (.int 8))) (gName 4))
    (tSeq (tAsg (tOp (cIx K) (tLst (tVals [(.int 2), (.int 2), (.int 3), (.int 2), (.int 4), (.int 2), (.int 5), (.int 6)])) (tOp (cI2c (fun _ j => 0 < j) fun i j => .int (i % j)) (cVar 4) (tC (.int 8)))) (gName 5))
    (tSeq (tAsg (tDGet2 (tDispC [(.inr "not", (.int 1)), (.inr "choose", (.int 3)), (.inr "most", (.int 3)), (.inr "yes", (.int 0)), (.inr "no", (.int 0))]) (cVar 3) (cVar 5)) (gName 5))
    (tSeq (tAsg (tCB (cLen K) (tCons (cVar 1) tNil)) (gName 6))
    (tMid (tIfS (cTst (tOp (cI2 fun i j => .bl (decide (j < i))) (tOp (cI2c (fun _ j => 0 < j) fun i j => .int (i % j)) (cVar 4) (tC (.int 4))) (tC (.int 0)))) (tAsg (tCB cMin (tCons (cVar 6) (tCons (tC (.int 7)) tNil))) (gName 6)) tNext)
    (tSeq (tAsg (tLst tNil) (gName 7))
    (tSeq (tFor (iRng1 (tCons (cVar 5) tNil)) (gName 8) (tSeq (tAsg (tOp (cI2c (fun _ j => 0 < j) fun i j => .int (i % j)) (tOp cAdd (tOp (cI2c CDiv fun i j => .int (i / j)) (cVar 4) (tC (.int 8))) (tOp cMul (cVar 8) (tOp cAdd (tC (.int 1)) (tOp (cI2c CDiv fun i j => .int (i / j)) (cVar 4) (tC (.int 56)))))) (cVar 6)) (gName 9))
    (tDrop (tBM K "list" rAppend (cVar 7) (tCons (tOp (cIx K) (cVar 1) (tOp (cI2 fun i j => .int (i - j)) (tOp (cI2 fun i j => .int (i - j)) (tCB (cLen K) (tCons (cVar 1) tNil)) (tC (.int 1))) (cVar 9))) tNil)))))
    (tRet (tTup (tCons (cVar 0) (tCons (cVar 3) (tCons (cVar 7) tNil))))))))))))))
theorem tm_law_drawn_gate {P : Program} {w : World} {K : PySem.W.Frag} {mg : Str → Option Value} {base : Heap} {a : Adr} (T : Txt K mg a) {cdv : Value} {A : Around} {outer : List Env} {s : Shared} {H : Hp} {E : XK} (hr : Room 0 (A.deeper (envOfC "_law_drawn_gate" (defScope s_law_drawn_gate) s.heap.objs.size a.f_law_drawn_gate cdv))) :
    PSs (cxOf CX0 P w K mg base N_law_drawn_gate "_law_drawn_gate" (defScope s_law_drawn_gate) a.f_law_drawn_gate cdv A outer s H E).nox (defBody s_law_drawn_gate) (rd_law_drawn_gate K) :=
  (pss_cons (ps_set (i := 3) sc_law_drawn_gate.nd rfl (by first | exact Or.inl rfl | exact Or.inr rfl) (pe_ix i_seq (pe_lst (pa_consts (vs := [(.str "and"), (.str "either"), (.str "or"), (.str "not"), (.str "choose"), (.str "most"), (.str "and"), (.str "either")]) rfl)) (pe_op o_mod (cv 2) pe_int) (fun _ _ => rfl)))
      (pss_mid (ps_if (t_cmp (o_eq (hr8 hr)) (pe_op o_mod (cv 2) pe_int) pe_int (nomark _)) (pss_one (ps_set (i := 3) sc_law_drawn_gate.nd rfl (by first | exact Or.inl rfl | exact Or.inr rfl) (pe_ix i_seq (pe_lst (pa_consts (vs := [(.str "yes"), (.str "no")]) rfl)) (pe_op o_mod (pe_op o_fdiv (cv 2) pe_int) pe_int) (fun _ _ => rfl)))) pss_nil)
      (pss_cons (ps_set (i := 4) sc_law_drawn_gate.nd rfl (by first | exact Or.inl rfl | exact Or.inr rfl) (pe_op o_fdiv (cv 2) pe_int))
      (pss_cons (ps_set (i := 5) sc_law_drawn_gate.nd rfl (by first | exact Or.inl rfl | exact Or.inr rfl) (pe_ix i_seq (pe_lst (pa_consts (vs := [(.int 2), (.int 2), (.int 3), (.int 2), (.int 4), (.int 2), (.int 5), (.int 6)]) rfl)) (pe_op o_mod (cv 4) pe_int) (fun _ _ => rfl)))
      (pss_cons (ps_set (i := 5) sc_law_drawn_gate.nd rfl (by first | exact Or.inl rfl | exact Or.inr rfl) (pe_dget2 (hu_of hr) (e_dispC [(.inr "not", (.int 1)), (.inr "choose", (.int 3)), (.inr "most", (.int 3)), (.inr "yes", (.int 0)), (.inr "no", (.int 0))] rfl (by decide +kernel) (by simp) (by decide)) (cv 3) (cv 5) ⟨rfl, rfl, rfl, rfl⟩))
      (pss_cons (ps_set (i := 6) sc_law_drawn_gate.nd rfl (by first | exact Or.inl rfl | exact Or.inr rfl) (pe_callB c_len (by rfl) T.no_len PySem.boot_len (pa_cons (cv 1) pa_nil)))
      (pss_mid (ps_if (t_cmp o_gt (pe_op o_mod (cv 4) pe_int) pe_int (nomark _)) (pss_one (ps_set (i := 6) sc_law_drawn_gate.nd rfl (by first | exact Or.inl rfl | exact Or.inr rfl) (pe_callB (c_min rfl) (by rfl) T.no_min PyProof.Rows.boot_min (pa_cons (cv 6) (pa_cons pe_int pa_nil))))) pss_nil)
      (pss_cons (ps_set (i := 7) sc_law_drawn_gate.nd rfl (by first | exact Or.inl rfl | exact Or.inr rfl) (pe_lst pa_nil))
      (pss_cons (ps_for PassesOwn.never rfl (pi_range1 rfl T.no_range (pa_cons (cv 5) pa_nil)) (pg_name (i := 8) sc_law_drawn_gate.nd rfl (by first | exact Or.inl rfl | exact Or.inr rfl)) (pss_cons (ps_set (i := 9) sc_law_drawn_gate.nd rfl (by first | exact Or.inl rfl | exact Or.inr rfl) (pe_op o_mod (pe_op o_add (pe_op o_fdiv (cv 4) pe_int) (pe_op o_mul (cv 8) (pe_op o_add pe_int (pe_op o_fdiv (cv 4) pe_int)))) (cv 6)))
      (pss_one (ps_expr (pe_bm PySem.F.plainAttrs_list PySem.F.slot_list_append PySem.F.type_list_append (mtr mt_append) (cv 7) (pa_cons (pe_ix i_seq (cv 1) (pe_op o_sub (pe_op o_sub (pe_callB c_len (by rfl) T.no_len PySem.boot_len (pa_cons (cv 1) pa_nil)) pe_int) (cv 9)) (fun _ _ => rfl)) pa_nil))))))
      (pss_one (ps_ret (pe_tup (pa_cons (cv 0) (pa_cons (cv 3) (pa_cons (cv 7) pa_nil)))))))))))))))
theorem ok_law_drawn_gate {P : Program} {w : World} {K : PySem.W.Frag} {mg : Str → Option Value} {base : Heap} {a : Adr} (T : Txt K mg a) : FnOk P w K mg base CX0 1 a.f_law_drawn_gate a.d_law_drawn_gate ["_law_name", "_law_known", "_law_cell"] (sp_law_drawn_gate K) := by
  refine T.fn_law_drawn_gate.ok sc_law_drawn_gate (fun vs H Q E h => ?_) (fun cdv A outer s H vs Q E hr h => ⟨_, tm_law_drawn_gate T hr, ?_⟩)
  · obtain ⟨nm, p, known, c, rfl, _⟩ := h; rfl
  · obtain ⟨nm, p, known, c, rfl, hS, hk1, hk2, q⟩ := h
    show rd_law_drawn_gate K _ [some (.str nm), some (.ref p), some (.int c), none, none, none, none, none, none, none] H
    unfold rd_law_drawn_gate
    walk_at "gs"
    intro r1 H1 n1
    walk_at "gs"
    obtain ⟨wd0, hw0, hm0⟩ := tab8 ["and", "either", "or", "not", "choose", "most", "and", "either"] rfl (by decide +kernel) c
    refine ⟨_, _, .inl n1.sq, hw0, ?_⟩
    walk_at "gs"
    refine mid (fun σ' H' => ∃ wd, wd ∈ wordsS ∧ Same H H' ∧ σ' = [some (.str nm), some (.ref p), some (.int c), some (.str wd), none, none, none, none, none, none]) (fun M hM => ?_) ?_
    · walk_at "gs"
      by_cases h62 : c % 64 = 62
      · rw [if_pos h62]
        walk_at "gs"
        intro r2 H2 n2
        walk_at "gs"
        have hc : c / 64 % 2 = 0 ∨ c / 64 % 2 = 1 := by omega
        rcases hc with e | e <;> rw [e]
        · exact ⟨_, _, .inl n2.sq, rfl, hM _ _ ⟨_, by decide +kernel, n1.same.trans n2.same, rfl⟩⟩
        · exact ⟨_, _, .inl n2.sq, rfl, hM _ _ ⟨_, by decide +kernel, n1.same.trans n2.same, rfl⟩⟩
      · rw [if_neg h62]
        exact hM _ _ ⟨_, hm0, n1.same, rfl⟩
    rintro σ2 H2 ⟨wd, hwd, s2, rfl⟩
    walk_at "gs"
    intro r3 H3 n3
    walk_at "gs"
    obtain ⟨d, hd0, hd2, hd6⟩ : ∃ d : Int, atI [V.int 2, V.int 2, V.int 3, V.int 2, V.int 4, V.int 2, V.int 5, V.int 6] (c / 8 % 8) = some (.int d) ∧ 2 ≤ d ∧ d ≤ 6 := by
      have hc : c / 8 % 8 = 0 ∨ c / 8 % 8 = 1 ∨ c / 8 % 8 = 2 ∨ c / 8 % 8 = 3 ∨ c / 8 % 8 = 4 ∨ c / 8 % 8 = 5 ∨ c / 8 % 8 = 6 ∨ c / 8 % 8 = 7 := by omega
      rcases hc with e | e | e | e | e | e | e | e <;> rw [e] <;> exact ⟨_, rfl, by decide, by decide⟩
    refine ⟨_, _, .inl n3.sq, hd0, ?_⟩
    walk_at "gs"
    intro r4 H4 n4
    obtain ⟨n, hn, hn6, har⟩ := ar6_of hwd d hd2 hd6
    refine ⟨r4, rfl, .inl ⟨_, .inl n4.at_⟩, ?_⟩
    walk_at "gs"
    refine ⟨_, DGet.k (k := .inr wd) n4.at_, ?_⟩
    unfold arsK at hn
    rw [hn]
    walk_at "gs"
    have s4 := (s2.trans n3.same).trans n4.same
    refine .inl ⟨_, .inl (s4.seq hS), ?_⟩
    rw [List.length_map]
    refine mid (fun σ' H' => ∃ sp : Int, 1 ≤ sp ∧ sp ≤ known.length ∧ H' = H4 ∧ σ' = [some (.str nm), some (.ref p), some (.int c), some (.str wd), some (.int (c / 8)), some (.int n), some (.int sp), none, none, none]) (fun M hM => ?_) ?_
    · walk_at "gs"
      by_cases h4 : 0 < c / 8 % 4
      · rw [if_pos h4]
        walk_at "gs"
        refine hM _ _ ⟨_, ?_, ?_, rfl, rfl⟩ <;> split <;> omega
      · rw [if_neg h4]
        exact hM _ _ ⟨_, by omega, by omega, rfl, rfl⟩
    rintro σ5 H5 ⟨sp, hs1, hs2, rfl, rfl⟩
    walk_at "gs"
    intro r6 H6 n6
    walk_at "gs"
    rw [Int.toNat_natCast]
    refine for_rngG (fun i σ H2 => ∃ ps : List Str, ps.length = i ∧ (∀ x ∈ ps, x ∈ known) ∧ H2 = upd H5 r6 (.lst (ps.map V.str)) ∧ ∃ v1 v2, σ = [some (.str nm), some (.ref p), some (.int c), some (.str wd), some (.int (c / 8)), some (.int n), some (.int sp), some (.ref r6), v1, v2])
      ⟨[], rfl, by simp, n6.eq, _, _, rfl⟩ ?_ ?_
    · rintro i σ H7 hi ⟨ps, hps, hmem, rfl, v1, v2, rfl⟩
      walk_at "gs"
      have s7 : Same H (upd H5 r6 (.lst (ps.map V.str))) := s4.trans (same_upd n6.was)
      have m0 : 0 ≤ (c / 8 / 8 + (0 + (i : Int)) * (1 + c / 8 / 56)) % sp := Int.emod_nonneg _ (by omega)
      have m1 : (c / 8 / 8 + (0 + (i : Int)) * (1 + c / 8 / 56)) % sp < sp := Int.emod_lt_of_pos _ (by omega)
      refine ⟨.inl ⟨by trivial, _, .of upd_same⟩, .inl ⟨_, .inl (s7.seq hS), ?_⟩⟩
      rw [List.length_map]
      refine ixS (s7.seq hS) (by omega) (by omega) ⟨r6, _, _, rfl, rfl, upd_same, ?_, ?_⟩
      · rw [List.length_map]
        exact Nat.lt_of_lt_of_le (by omega) size_big
      · refine ⟨ps ++ [known.getD _ ""], by rw [List.length_append, hps]; rfl, ?_, by rw [upd_upd, List.map_append]; rfl, _, _, rfl⟩
        intro x hx
        rcases List.mem_append.mp hx with e | e
        · exact hmem x e
        · rw [List.mem_singleton.mp e]
          exact getD_mem _ (by omega)
    · rintro σ H7 ⟨ps, hps, hmem, rfl, v1, v2, rfl⟩
      walk_at "gs"
      refine ⟨by show 3 ≤ sizeLine; decide, fun t H8 n8 => ?_⟩
      have s7 : Same H (upd H5 r6 (.lst (ps.map V.str))) := s4.trans (same_upd n6.was)
      refine q wd ps t r6 H8 hmem (by rw [hps]; exact har) (by omega) hwd (s7.trans n8.same) (s7.free n8.was) (s4.free n6.was) n8.at_ (n8.same _ _ upd_same)

theorem cut_to {xs : List Str} {i : Int} {n : Nat} (e : i = n) (hn : n ≤ xs.length) : cutV (xs.map V.str) none (some i) = (xs.take n).map V.str := by
  subst e
  unfold cutV
  have e1 : HT.sIx (xs.map V.str).length 0 none = 0 := rfl
  have e2 : HT.sIx (xs.map V.str).length (xs.map V.str).length (some (n : Int)) = n := by
    rw [HT.sIx_nat, List.length_map]
    omega
  rw [e1, e2, List.drop_zero, Nat.sub_zero, List.map_take]
def sp_law_drawn (K : PySem.W.Frag) : Sp := fun vs H Q _ => ∃ (many : Nat) (pc : Addr) (cells : List Int) (c o : Int), vs = [.int many, .ref pc, .int c, .int o] ∧ 1 ≤ many ∧ many ≤ 10 ∧ SqL K H pc (cells.map V.int) ∧ cells.length ≤ 60 ∧
  ∀ (ins : List Str) (gs : List Gt) (outs : List Str) p H', WN ins gs outs → ins.length = many → Same H H' → NetV K H' p ins gs outs → Q (.ref p) H'
def rd_law_drawn (K : PySem.W.Frag) : TS := (tSeq (tAsg (tCall (sp_law_all_names K) [] E0 (tCons (tOp cAdd (cVar 0) (tCB (cLen K) (tCons (cVar 1) tNil))) (tCons (cVar 2) tNil))) (gName 4))
    (tSeq (tAsg (tLst tNil) (gName 5))
    (tSeq (tFor (iRng1 (tCons (tCB (cLen K) (tCons (cVar 1) tNil)) tNil)) (gName 6) (tDrop (tBM K "list" rAppend (cVar 5) (tCons (tCall (sp_law_drawn_gate K) [] E0 (tCons (tOp (cIx K) (cVar 4) (tOp cAdd (cVar 0) (cVar 6))) (tCons (tSl (cSlU K) (cVar 4) tNoPart (cPart (tOp cAdd (cVar 0) (cVar 6)))) (tCons (tOp (cIx K) (cVar 1) (cVar 6)) tNil)))) tNil))))
    (tSeq (tAsg (tLst tNil) (gName 7))
    (tSeq (tFor (iRng1 (tCons (tOp cAdd (tC (.int 1)) (tOp (cI2c (fun _ j => 0 < j) fun i j => .int (i % j)) (cVar 3) (tC (.int 16)))) tNil)) (gName 8) (tSeq (tAsg (tOp (cI2c (fun _ j => 0 < j) fun i j => .int (i % j)) (tOp cAdd (tOp cMul (tOp (cI2c CDiv fun i j => .int (i / j)) (cVar 3) (tC (.int 16))) (cVar 8)) (tOp cMul (tC (.int 2)) (cVar 8))) (tCB (cLen K) (tCons (cVar 4) tNil))) (gName 9))
    (tDrop (tBM K "list" rAppend (cVar 7) (tCons (tOp (cIx K) (cVar 4) (tOp (cI2 fun i j => .int (i - j)) (tOp (cI2 fun i j => .int (i - j)) (tCB (cLen K) (tCons (cVar 4) tNil)) (tC (.int 1))) (cVar 9))) tNil)))))
    (tRet (tTup (tCons (tSl (cSlU K) (cVar 4) tNoPart (cPart (cVar 0))) (tCons (cVar 5) (tCons (cVar 7) tNil))))))))))
theorem tm_law_drawn {P : Program} {w : World} {K : PySem.W.Frag} {mg : Str → Option Value} {base : Heap} {a : Adr} (T : Txt K mg a) {cdv : Value} {A : Around} {outer : List Env} {s : Shared} {H : Hp} {E : XK} (hr : Room 3 (A.deeper (envOfC "_law_drawn" (defScope s_law_drawn) s.heap.objs.size a.f_law_drawn cdv))) :
    PSs (cxOf CX0 P w K mg base N_law_drawn "_law_drawn" (defScope s_law_drawn) a.f_law_drawn cdv A outer s H E).nox (defBody s_law_drawn) (rd_law_drawn K) :=
  (pss_cons (ps_set (i := 4) sc_law_drawn.nd rfl (by first | exact Or.inl rfl | exact Or.inr rfl) (pe_call (ok_law_all_names T) (hr.mono (by decide)) rfl T.mg_law_all_names T.fn_law_all_names.kp T.bi_law_all_names .nil pass0 (pa_cons (pe_op o_add (cv 0) (pe_callB c_len (by rfl) T.no_len PySem.boot_len (pa_cons (cv 1) pa_nil))) (pa_cons (cv 2) pa_nil))))
      (pss_cons (ps_set (i := 5) sc_law_drawn.nd rfl (by first | exact Or.inl rfl | exact Or.inr rfl) (pe_lst pa_nil))
      (pss_cons (ps_for PassesOwn.never rfl (pi_range1 rfl T.no_range (pa_cons (pe_callB c_len (by rfl) T.no_len PySem.boot_len (pa_cons (cv 1) pa_nil)) pa_nil)) (pg_name (i := 6) sc_law_drawn.nd rfl (by first | exact Or.inl rfl | exact Or.inr rfl)) (pss_one (ps_expr (pe_bm PySem.F.plainAttrs_list PySem.F.slot_list_append PySem.F.type_list_append (mtr mt_append) (cv 5) (pa_cons (pe_call (ok_law_drawn_gate T) (hr.mono (by decide)) rfl T.mg_law_drawn_gate T.fn_law_drawn_gate.kp T.bi_law_drawn_gate .nil pass0 (pa_cons (pe_ix i_seq (cv 4) (pe_op o_add (cv 0) (cv 6)) (fun _ _ => rfl)) (pa_cons (pe_slice s_u (cv 4) po_none (e_part (pe_op o_add (cv 0) (cv 6)))) (pa_cons (pe_ix i_seq (cv 1) (cv 6) (fun _ _ => rfl)) pa_nil)))) pa_nil)))))
      (pss_cons (ps_set (i := 7) sc_law_drawn.nd rfl (by first | exact Or.inl rfl | exact Or.inr rfl) (pe_lst pa_nil))
      (pss_cons (ps_for PassesOwn.never rfl (pi_range1 rfl T.no_range (pa_cons (pe_op o_add pe_int (pe_op o_mod (cv 3) pe_int)) pa_nil)) (pg_name (i := 8) sc_law_drawn.nd rfl (by first | exact Or.inl rfl | exact Or.inr rfl)) (pss_cons (ps_set (i := 9) sc_law_drawn.nd rfl (by first | exact Or.inl rfl | exact Or.inr rfl) (pe_op o_mod (pe_op o_add (pe_op o_mul (pe_op o_fdiv (cv 3) pe_int) (cv 8)) (pe_op o_mul pe_int (cv 8))) (pe_callB c_len (by rfl) T.no_len PySem.boot_len (pa_cons (cv 4) pa_nil))))
      (pss_one (ps_expr (pe_bm PySem.F.plainAttrs_list PySem.F.slot_list_append PySem.F.type_list_append (mtr mt_append) (cv 7) (pa_cons (pe_ix i_seq (cv 4) (pe_op o_sub (pe_op o_sub (pe_callB c_len (by rfl) T.no_len PySem.boot_len (pa_cons (cv 4) pa_nil)) pe_int) (cv 9)) (fun _ _ => rfl)) pa_nil))))))
      (pss_one (ps_ret (pe_tup (pa_cons (pe_slice s_u (cv 4) po_none (e_part (cv 0))) (pa_cons (cv 5) (pa_cons (cv 7) pa_nil)))))))))))
theorem ok_law_drawn {P : Program} {w : World} {K : PySem.W.Frag} {mg : Str → Option Value} {base : Heap} {a : Adr} (T : Txt K mg a) : FnOk P w K mg base CX0 4 a.f_law_drawn a.d_law_drawn ["_law_many", "_law_cells", "_law_cell", "_law_outs"] (sp_law_drawn K) := by
  refine T.fn_law_drawn.ok sc_law_drawn (fun vs H Q E h => ?_) (fun cdv A outer s H vs Q E hr h => ⟨_, tm_law_drawn T hr, ?_⟩)
  · obtain ⟨many, pc, cells, c, o, rfl, _⟩ := h; rfl
  · obtain ⟨many, pc, cells, c, o, rfl, hm1, hm2, hC, hl, q⟩ := h
    show rd_law_drawn K _ [some (.int many), some (.ref pc), some (.int c), some (.int o), none, none, none, none, none, none] H
    unfold rd_law_drawn
    walk_at "gs"
    refine .inl ⟨_, .inl hC, ?_⟩
    rw [List.length_map]
    refine ⟨many + cells.length, c, rfl, by omega, fun names pn H1 hnl hnd hnm s1 fr1 at1 => ?_⟩
    have hN : ∀ {H' : Hp}, Same H1 H' → SqL K H' pn (names.map V.str) := fun s => s.seq (.of at1)
    walk_at "gs"
    intro g H2 n2
    walk_at "gs"
    refine .inl ⟨_, .inl ((s1.trans n2.same).seq hC), ?_⟩
    rw [List.length_map]
    walk_at "gs"
    rw [Int.toNat_natCast]
    refine for_rngG (fun i σ H3 => ∃ (ts : List V) (gs : List Gt), gs.length = i ∧ H3 g = some (.lst ts) ∧ GtsAt (· ≠ g) K H3 ts gs ∧ ME.WG Ar6 (names.take many) gs ∧ gs.map (·.1) = (names.drop many).take i ∧ Same H1 H3 ∧
        ∃ v, σ = [some (.int many), some (.ref pc), some (.int c), some (.int o), some (.ref pn), some (.ref g), v, none, none, none])
      ⟨[], [], rfl, n2.at_, .nil, True.intro, by simp, n2.same, _, rfl⟩ ?_ ?_
    · rintro i σ H3 hi ⟨ts, gs, hgl, hg, hG, hW, hnames, s3, v, rfl⟩
      walk_at "gs"
      refine ⟨.inl ⟨by trivial, _, .of hg⟩, ?_⟩
      refine ixS (hN s3) (by omega) (by omega) ?_
      walk_at "gs"
      refine ⟨_, hN s3, fun r H4 n4 => ?_⟩
      rw [cut_to (n := many + i) (by omega) (by omega)] at n4
      walk_at "gs"
      have s4 := s3.trans n4.same
      refine ixI ((s1.trans s4).seq hC) (by omega) (by omega) ?_
      have ei : ((many : Int) + (0 + (i : Int))).toNat = many + i := by omega
      rw [ei]
      refine ⟨names.getD (many + i) "", r, names.take (many + i), _, rfl, n4.sq, by rw [List.length_take]; omega, by rw [List.length_take]; omega, fun wd ps t qa H5 hps har hp6 hwd s5 ft fq at5 aq5 => ?_⟩
      walk_at "gs"
      have hg4 := n4.same _ _ hg
      have hg5 := s5 _ _ hg4
      have ntg : t ≠ g := fun e => by rw [e, hg4] at ft; cases ft
      have nqg : qa ≠ g := fun e => by rw [e, hg4] at fq; cases fq
      have hlt : ts.length = i := by rw [hG.1]; exact hgl
      refine ⟨g, ts, _, rfl, rfl, hg5, Nat.lt_of_lt_of_le (by omega) size_big, ts ++ [.ref t], gs ++ [(names.getD (many + i) "", wd, ps)], by rw [List.length_append, hgl]; rfl, upd_same, ?_, ?_, ?_, (s4.trans s5).put n2.was, _, rfl⟩
      · have k5 : Keep (· ≠ g) H5 (upd H5 g (.lst (ts ++ [.ref t]))) := Keep.put (fun z => z rfl)
        exact GtsAt.snoc (((hG.same n4.same).same s5).keep k5) ntg nqg (k5.tup ntg (.of at5)) (k5.seq nqg (.of aq5))
      · refine ME.WG_snoc _ _ _ hW ?_ har hp6
        intro x hx
        have := hps x hx
        rw [List.take_add] at this
        rw [hnames]
        exact this
      · rw [List.map_append, hnames, List.take_add_one]
        congr 1
        rw [List.getElem?_drop]
        simp [List.getD, show many + i < names.length by omega]
    · rintro σ H3 ⟨ts, gs, hgl, hg, hG, hW, hnames, s3, v, rfl⟩
      walk_at "gs"
      intro r H4 n4
      walk_at "gs"
      have s4 := s3.trans n4.same
      obtain ⟨no, hno⟩ := Int.eq_ofNat_of_zero_le (by omega : 0 ≤ 1 + o % 16)
      rw [hno, Int.toNat_natCast]
      refine for_rngG (fun i σ H5 => ∃ os : List Str, os.length = i ∧ (∀ x ∈ os, x ∈ names) ∧ H5 = upd H3 r (.lst (os.map V.str)) ∧ ∃ v1 v2, σ = [some (.int many), some (.ref pc), some (.int c), some (.int o), some (.ref pn), some (.ref g), v, some (.ref r), v1, v2])
        ⟨[], rfl, by simp, n4.eq, _, _, rfl⟩ ?_ ?_
      · rintro i σ H5 hi ⟨os, hol, hom, rfl, v1, v2, rfl⟩
        have s5 : Same H1 (upd H3 r (.lst (os.map V.str))) := s3.trans (same_upd n4.was)
        walk_at "gs"
        refine .inl ⟨_, .inl (hN s5), ?_⟩
        rw [List.length_map]
        walk_at "gs"
        have m0 : 0 ≤ (o / 16 * (0 + (i : Int)) + 2 * (0 + (i : Int))) % (names.length : Int) := Int.emod_nonneg _ (by omega)
        have m1 : (o / 16 * (0 + (i : Int)) + 2 * (0 + (i : Int))) % (names.length : Int) < names.length := Int.emod_lt_of_pos _ (by omega)
        refine ⟨.inl ⟨by trivial, _, .of upd_same⟩, .inl ⟨_, .inl (hN s5), ?_⟩⟩
        rw [List.length_map]
        refine ixS (hN s5) (by omega) (by omega) ⟨r, _, _, rfl, rfl, upd_same, ?_, ?_⟩
        · rw [List.length_map]
          exact Nat.lt_of_lt_of_le (by omega) size_big
        · refine ⟨os ++ [names.getD _ ""], by rw [List.length_append, hol]; rfl, ?_, by rw [upd_upd, List.map_append]; rfl, _, _, rfl⟩
          intro x hx
          rcases List.mem_append.mp hx with e | e
          · exact hom x e
          · rw [List.mem_singleton.mp e]
            exact getD_mem _ (by omega)
      · rintro σ H5 ⟨os, hol, hom, rfl, v1, v2, rfl⟩
        have s5 : Same H1 (upd H3 r (.lst (os.map V.str))) := s3.trans (same_upd n4.was)
        walk_at "gs"
        refine ⟨_, hN s5, fun ra H6 n6 => ?_⟩
        rw [cut_to (n := many) rfl (by omega)] at n6
        walk_at "gs"
        refine ⟨by show 3 ≤ sizeLine; decide, fun p H7 n7 => ?_⟩
        have s6 := s5.trans n6.same
        have s7 := s6.trans n7.same
        have e1 : names.take many ++ gs.map (·.1) = names := by
          rw [hnames, ← List.take_add, ← hnl, List.take_length]
        refine q (names.take many) gs os p H7 ⟨by rw [List.length_take]; omega, by rw [List.length_take]; omega, by omega, by omega, by omega, hW, by rw [e1]; exact hom, by rw [e1]; exact hnd, by rw [e1]; exact hnm⟩ (by rw [List.length_take]; omega) (s1.trans s7) ?_
        have hs37 : Same H3 H7 := ((same_upd n4.was).trans n6.same).trans n7.same
        exact ⟨ra, g, r, ts, n7.sqT, n7.same.seq n6.sq, .of (hs37 _ _ hg), (hG.same hs37).weak fun _ _ => True.intro, .of (n7.same _ _ (n6.same _ _ upd_same))⟩

end K06

set_option maxHeartbeats 4000000
namespace K06
open PySem PySem.Spec PyProof.Rows L2 GM
seal PE PT PS PSs PA PG PGs PI PO PW PTs PPs PK PC PSet PIp OpR UnR CallR IxR SlR MtR MtM tMid
local macro_rules | `(tactic| walk_at "go") => `(tactic| try simp only [tSeq, tAsg, gName, gTup, gCons, gNil, gSub, tOp, tC, cVar, cI2, cI2c, cAdd, cMul, cEq, cNe, cIs, cIsNot, cIn, cBool, cTst, cTru, cChain, tRet, tRetN, tDrop, tIfS, tIf, tCall, tCons, tNil, tNext, tCB, cLen, cInt, cIsinst, cMin, cMax, cAll, tNot, tOr, tAnd, cAndV, cOrV, cNotV, tUn, cNeg, tFor_list, tFor_tup, tFor_rng1, tFor_rng2, tFor_str, tComp_list, tComp_tup, tComp_rng1, tComp_str, cRef, cInt1, cInt2, cIx, tSl, cSlU, cPart, tNoPart, tVals, tLst_n, tTup_n, tDispC_n, tDNewK_n, cList_n, cTuple_n, tDGet2, tDGet, tDIn, tDNotIn, sDPut, tBM, tBM0, tMake, tMeth, tFld, sFld, cDictZip, rFind, tyV, cListRange, tNo, tPar, tDNewT_n, rSplit, rJoin, rBits, List.append_nil, List.cons_append, List.nil_append, List.getElem?_cons_zero, List.getElem?_cons_succ, List.set_cons_zero, List.set_cons_succ, decide_eq_true_eq, if_true, if_false, Bool.false_eq_true, eq_self, decide_true, decide_false, Bool.not_true, Bool.not_false, Bool.not_eq_true', decide_eq_false_iff_not, Bool.and_true, Bool.true_and])
local macro_rules | `(tactic| walk_at "sd") => `(tactic| first | exact And.intro (by decide) (by decide) | decide | omega | exact Or.inl (And.intro (by omega) (by omega)) | exact Or.inr (And.intro (by omega) (by omega)) | exact And.intro (by omega) (And.intro (by omega) (by decide)) | exact And.intro (by omega) (by omega))
local macro_rules | `(tactic| walk_at "gs") => `(tactic| (walk_at "go"; repeat (refine And.intro (by walk_at "sd") ?_; walk_at "go")))
/-! the program: nets -/
def GtT (H : Hp) (ts : List V) (gs : List Gt) : Prop := ts.length = gs.length ∧ ∀ (i : Nat) (g : Gt), gs[i]? = some g → ∃ t q, ts[i]? = some (.ref t) ∧ H t = some (.tup [.str g.1, .str g.2.1, .ref q]) ∧ H q = some (.tup (g.2.2.map V.str))
def NetO (a : Adr) (H : Hp) (x : Addr) (ins : List Str) (gs : List Gt) (outs : List Str) : Prop := ∃ dx t1 t2 t3 ts, H x = some (.ins a.c_Net dx [("inputs", .ref t1), ("gates", .ref t2), ("outputs", .ref t3)]) ∧ H t1 = some (.tup (ins.map V.str)) ∧ H t2 = some (.tup ts) ∧ GtT H ts gs ∧ H t3 = some (.tup (outs.map V.str))
theorem NetO.sameN {a : Adr} {H H' : Hp} {x : Addr} {ins : List Str} {gs : List Gt} {outs : List Str} (s : SameN H H') (h : NetO a H x ins gs outs) : NetO a H' x ins gs outs := by
  obtain ⟨dx, t1, t2, t3, ts, h0, h1, h2, h3, h4⟩ := h
  refine ⟨dx, t1, t2, t3, ts, s _ _ h0 (fun _ z => nomatch z), s _ _ h1 (fun _ z => nomatch z), s _ _ h2 (fun _ z => nomatch z), ⟨h3.1, fun i g e => ?_⟩, s _ _ h4 (fun _ z => nomatch z)⟩
  obtain ⟨t, q, e1, e2, e3⟩ := h3.2 i g e
  exact ⟨t, q, e1, s _ _ e2 (fun _ z => nomatch z), s _ _ e3 (fun _ z => nomatch z)⟩
def sp_Net___init__ (a : Adr) (K : PySem.W.Frag) : Sp := fun vs H Q _ => ∃ (x dx pi pg po : Addr) (ins : List Str) (gs : List Gt) (outs : List Str) (ts : List V), vs = [.ref x, .ref pi, .ref pg, .ref po] ∧ H x = some (.ins a.c_Net dx []) ∧
  SqL K H pi (ins.map V.str) ∧ SqL K H pg ts ∧ GtsAt (fun _ => True) K H ts gs ∧ SqL K H po (outs.map V.str) ∧ ins.length ≤ 1000 ∧ gs.length ≤ 1000 ∧ outs.length ≤ 1000 ∧
  ∀ H', (∀ b o, b ≠ x → H b = some o → H' b = some o) → NetO a H' x ins gs outs → Q .non H'
def fromGate (g : Gt) (q : Addr) : List V := [.str g.1, .str g.2.1, .ref q]
def rd_Net___init__ (K : PySem.W.Frag) : TS := (tSeq (sFld K (cVar 0) (tCB (cTuple K) (tCons (cVar 1) tNil)) "inputs")
    (tSeq (sFld K (cVar 0) (tCB (cTuple K) (tCons (tComp (iList K (cVar 2)) 3 [] (gTup K 3 (gCons (gName 0) (gCons (gName 1) (gCons (gName 2) gNil)))) tTrue (tTup (tCons (cVar 0) (tCons (cVar 1) (tCons (tCB (cTuple K) (tCons (cVar 2) tNil)) tNil))))) tNil)) "gates")
    (sFld K (cVar 0) (tCB (cTuple K) (tCons (cVar 3) tNil)) "outputs")))
theorem tm_Net___init__ {P : Program} {w : World} {K : PySem.W.Frag} {mg : Str → Option Value} {base : Heap} {a : Adr} (T : Txt K mg a) {cdv : Value} {A : Around} {outer : List Env} {s : Shared} {H : Hp} {E : XK} (hr : Room 0 (A.deeper (envOfC "Net.__init__" (defScope s_Net___init__) s.heap.objs.size a.f_Net___init__ cdv))) :
    PSs (cxOf CX0 P w K mg base N_Net___init__ "Net.__init__" (defScope s_Net___init__) a.f_Net___init__ cdv A outer s H E).nox (defBody s_Net___init__) (rd_Net___init__ K) :=
  (pss_cons (ps_fld (cv 0) (pe_callTy c_tuple (by rfl) T.no_tuple PyProof.Rows.boot_tuple (pa_cons (cv 1) pa_nil)) rfl)
      (pss_cons (ps_fld (cv 0) (pe_callTy c_tuple (by rfl) T.no_tuple PyProof.Rows.boot_tuple (pa_cons (pe_comp (N := ["name", "word", "parts"]) (k := 3) (sel := []) (CScope.of (defScope s_Net___init__).names (by decide +kernel)) (CNames.of N_Net___init__ (by decide +kernel)) rfl (pi_list (cv 2)) (fun _ _ _ _ => (pg_tup rfl (pgs_cons (pg_name (i := 0) (show List.Nodup (["name", "word", "parts"] : List Str) by decide +kernel) rfl (by first | exact Or.inl rfl | exact Or.inr rfl)) (pgs_cons (pg_name (i := 1) (show List.Nodup (["name", "word", "parts"] : List Str) by decide +kernel) rfl (by first | exact Or.inl rfl | exact Or.inr rfl)) (pgs_cons (pg_name (i := 2) (show List.Nodup (["name", "word", "parts"] : List Str) by decide +kernel) rfl (by first | exact Or.inl rfl | exact Or.inr rfl)) pgs_nil))))) (fun _ _ _ _ => pts_nil) (fun _ _ _ _ => (pe_tup (pa_cons (cv 0) (pa_cons (cv 1) (pa_cons (pe_callTy c_tuple (by rfl) T.no_tuple PyProof.Rows.boot_tuple (pa_cons (cv 2) pa_nil)) pa_nil)))))) pa_nil)) rfl)
      (pss_one (ps_fld (cv 0) (pe_callTy c_tuple (by rfl) T.no_tuple PyProof.Rows.boot_tuple (pa_cons (cv 3) pa_nil)) rfl))))
theorem ok_Net___init__ {P : Program} {w : World} {K : PySem.W.Frag} {mg : Str → Option Value} {base : Heap} {a : Adr} (T : Txt K mg a) : FnOk P w K mg base CX0 1 a.f_Net___init__ a.d_Net___init__ ["self", "inputs", "gates", "outputs"] (sp_Net___init__ a K) := by
  refine T.fn_Net___init__.ok sc_Net___init__ (fun vs H Q E h => ?_) (fun cdv A outer s H vs Q E hr h => ⟨_, tm_Net___init__ T hr, ?_⟩)
  · obtain ⟨x, dx, pi, pg, po, ins, gs, outs, ts, rfl, _⟩ := h; rfl
  · obtain ⟨x, dx, pi, pg, po, ins, gs, outs, ts, rfl, hx, hI, hG, hGs, hO, l1, l2, l3, q⟩ := h
    show rd_Net___init__ K _ [some (.ref x), some (.ref pi), some (.ref pg), some (.ref po)] H
    unfold rd_Net___init__
    have hbig := size_big
    have notS : ∀ {b : Addr} {o : HO} {H' : Hp} {fs : List (Str × V)}, H' x = some (.ins a.c_Net dx fs) → H' b = some o → (∀ fs, o ≠ .ins a.c_Net dx fs) → b ≠ x := fun e1 e2 n e => by subst e; rw [e1] at e2; exact n _ (Option.some.inj e2).symm
    have keepX : ∀ {H' : Hp} {fs : List (Str × V)} {o : HO}, H' x = some (.ins a.c_Net dx fs) → ∀ {p : Addr} {xs : List V}, SqL K H' p xs → SqL K (upd H' x o) p xs := fun {H' fs o} e1 {p xs} hs => by
      rcases hs with (hs | ⟨u, hs⟩) | hs
      · exact .inl (.inl (by rw [upd_ne (notS e1 hs (fun _ z => nomatch z))]; exact hs))
      · exact .inl (.inr ⟨u, by rw [upd_ne (notS e1 hs (fun _ z => nomatch z))]; exact hs⟩)
      · exact .inr hs
    have keepT : ∀ {H' : Hp} {fs : List (Str × V)} {o : HO}, H' x = some (.ins a.c_Net dx fs) → ∀ {p : Addr} {xs : List V}, SqT K H' p xs → SqT K (upd H' x o) p xs := fun {H' fs o} e1 {p xs} hs => by
      rcases hs with (hs | ⟨u, hs⟩) | hs
      · exact .inl (.inl (by rw [upd_ne (notS e1 hs (fun _ z => nomatch z))]; exact hs))
      · exact .inl (.inr ⟨u, by rw [upd_ne (notS e1 hs (fun _ z => nomatch z))]; exact hs⟩)
      · exact .inr hs
    walk_at "gs"
    refine ⟨_, .inl ⟨hI, fun t1 H1 n1 => ?_⟩⟩
    have hx1 := n1.same _ _ hx
    walk_at "gs"
    refine ⟨x, a.c_Net, dx, [], rfl, hx1, T.cl_Net, T.na_Net_inputs, by decide, ?_⟩
    have hx2 : upd H1 x (.ins a.c_Net dx (putF "inputs" (.ref t1) [])) x = some _ := upd_same
    have at2 : upd H1 x (.ins a.c_Net dx (putF "inputs" (.ref t1) [])) t1 = some (.tup (ins.map V.str)) := by rw [upd_ne (notS hx1 n1.at_ (fun _ z => nomatch z))]; exact n1.at_
    have hG2 : SqL K (upd H1 x (.ins a.c_Net dx (putF "inputs" (.ref t1) []))) pg ts := keepX hx1 (n1.same.seq hG)
    have hO2 : SqL K (upd H1 x (.ins a.c_Net dx (putF "inputs" (.ref t1) []))) po (outs.map V.str) := keepX hx1 (n1.same.seq hO)
    have hGs2 : GtsAt (fun _ => True) K (upd H1 x (.ins a.c_Net dx (putF "inputs" (.ref t1) []))) ts gs := ⟨hGs.1, fun i g e => by
      obtain ⟨t, qq, e1, _, _, e2, e3⟩ := hGs.2 i g e
      exact ⟨t, qq, e1, True.intro, True.intro, keepT hx1 (n1.same.tup e2), keepX hx1 (n1.same.seq e3)⟩⟩
    have out2 : ∀ b o, b ≠ x → H b = some o → upd H1 x (.ins a.c_Net dx (putF "inputs" (.ref t1) [])) b = some o := fun b o nb e => by rw [upd_ne nb]; exact n1.same _ _ e
    generalize upd H1 x (.ins a.c_Net dx (putF "inputs" (.ref t1) [])) = H2 at hx2 at2 hG2 hO2 hGs2 out2
    walk_at "gs"
    refine ⟨⟨_, hG2⟩, fun p hp => comp_gen (n := ts.length) (item := fun i => ts.getD i .non) (fun σ => σ.length = 3) (fun i H3 => ∃ us, H3 p = some (.lst us) ∧ us.length = i ∧ Same H2 H3 ∧ ∀ j g, j < i → gs[j]? = some g → ∃ t q, us[j]? = some (.ref t) ∧ H3 t = some (.tup (fromGate g q)) ∧ H3 q = some (.tup (g.2.2.map V.str))) rfl ⟨[], upd_same, rfl, same_upd hp, fun j g hj => absurd hj (by omega)⟩ (src_list ?_) ?_ ?_ ?_⟩
    · rintro i H3 hi ⟨us, h1, h2, s3, h4⟩
      exact s3.seq hG2
    · rintro H3 ⟨us, h1, h2, s3, h4⟩
      exact ⟨ts, s3.seq hG2, Nat.le_refl _⟩
    · rintro i σ2 H3 R hi hσ ⟨us, h1, h2, s3, h4⟩ hR
      have hi' : i < gs.length := by rw [← hGs2.1]; exact hi
      obtain ⟨t, qq, e1, _, _, e2, e3⟩ := hGs2.2 i gs[i] (by simp [hi'])
      have et : ts.getD i .non = .ref t := by simp [List.getD, e1]
      obtain ⟨w1, w2, w3, rfl⟩ : ∃ w1 w2 w3, σ2 = [w1, w2, w3] := by
        match σ2, hσ with
        | [w1, w2, w3], _ => exact ⟨w1, w2, w3, rfl⟩
      rw [et]
      walk_at "gs"
      refine ⟨t, _, rfl, s3.tup e2, rfl, _, _, rfl, _, _, rfl, _, _, rfl, rfl, ?_⟩
      unfold tTrue
      walk_at "gs"
      refine ⟨_, .inl ⟨s3.seq e3, fun q4 H4 n4 => ?_⟩⟩
      walk_at "gs"
      refine ⟨by show 3 ≤ sizeLine; decide, fun t5 H5 n5 => ?_⟩
      have hp5 := n5.same _ _ (n4.same _ _ h1)
      have npt : p ≠ t5 := fun e => by have := n5.was; rw [← e, n4.same _ _ h1] at this; cases this
      have npq : p ≠ q4 := fun e => by have := n4.was; rw [← e, h1] at this; cases this
      refine ⟨us, hp5, Nat.lt_of_lt_of_le (by omega) hbig, hR _ _ rfl ⟨us ++ [.ref t5], upd_same, by rw [List.length_append, h2]; rfl, ((s3.trans n4.same).trans n5.same).put hp, fun j g hj hg => ?_⟩⟩
      by_cases hji : j < i
      · obtain ⟨t', q', f1, f2, f3⟩ := h4 j g hji hg
        have np : ∀ {b : Addr} {ys : List V}, H3 b = some (.tup ys) → b ≠ p := fun e z => by rw [z, h1] at e; cases e
        refine ⟨t', q', by rw [List.getElem?_append_left (by omega)]; exact f1, ?_, ?_⟩
        · rw [upd_ne (np f2)]; exact n5.same _ _ (n4.same _ _ f2)
        · rw [upd_ne (np f3)]; exact n5.same _ _ (n4.same _ _ f3)
      · have hj' : j = i := by omega
        subst hj'
        have eg : g = gs[j] := by simpa [hi'] using hg.symm
        subst eg
        refine ⟨t5, q4, by rw [← h2]; simp, ?_, ?_⟩
        · rw [upd_ne (Ne.symm npt)]; exact n5.at_
        · rw [upd_ne (Ne.symm npq)]; exact n5.same _ _ n4.at_
    · rintro H3 ⟨us, h1, h2, s3, h4⟩
      walk_at "gs"
      refine ⟨_, .inl ⟨.of h1, fun t2 H4 n4 => ?_⟩⟩
      walk_at "gs"
      have s4 := s3.trans n4.same
      refine ⟨x, a.c_Net, dx, _, rfl, s4 _ _ hx2, T.cl_Net, T.na_Net_gates, by have := length_putF "inputs" (.ref t1) []; simp only [List.length_nil] at this; omega, ?_⟩
      walk_at "gs"
      refine ⟨_, .inl ⟨keepX (s4 _ _ hx2) (s4.seq hO2), fun t3 H5 n5 => ?_⟩⟩
      walk_at "gs"
      refine ⟨x, a.c_Net, dx, _, rfl, n5.same _ _ upd_same, T.cl_Net, T.na_Net_outputs, by have h7 := length_putF "inputs" (.ref t1) []; have h8 := length_putF "gates" (.ref t2) (putF "inputs" (.ref t1) []); simp only [List.length_nil] at h7; omega, ?_⟩
      have ex : ∀ b o, b ≠ x → H4 b = some o → upd H5 x (.ins a.c_Net dx (putF "outputs" (.ref t3) (putF "gates" (.ref t2) (putF "inputs" (.ref t1) [])))) b = some o := fun b o nb e => by
        rw [upd_ne nb]
        exact n5.same _ _ (by rw [upd_ne nb]; exact e)
      have hx4 := s4 _ _ hx2
      refine q _ (fun b o nb e => ex b o nb (s4 _ _ (out2 b o nb e))) ⟨dx, t1, t2, t3, us, ?_, ?_, ?_, ⟨?_, fun j g hg => ?_⟩, ?_⟩
      · rw [upd_same]
        have e1 : putF "outputs" (.ref t3) (putF "gates" (.ref t2) (putF "inputs" (.ref t1) [])) = ([("inputs", V.ref t1), ("gates", V.ref t2), ("outputs", V.ref t3)] : List (Str × V)) := by
          have z1 : ¬ ("inputs" : Str) = "gates" := by decide +kernel
          have z2 : ¬ ("inputs" : Str) = "outputs" := by decide +kernel
          have z3 : ¬ ("gates" : Str) = "outputs" := by decide +kernel
          simp [putF, z1, z2, z3]
        rw [e1]
      · exact ex _ _ (notS hx4 (s4 _ _ at2) (fun _ z => nomatch z)) (s4 _ _ at2)
      · exact ex _ _ (notS hx4 n4.at_ (fun _ z => nomatch z)) n4.at_
      · rw [h2]; exact hGs2.1
      · obtain ⟨t, qq, f1, f2, f3⟩ := h4 j g (by rw [hGs2.1]; exact (List.getElem?_eq_some_iff.mp hg).1) hg
        exact ⟨t, qq, f1, ex _ _ (notS hx4 (n4.same _ _ f2) (fun _ z => nomatch z)) (n4.same _ _ f2), ex _ _ (notS hx4 (n4.same _ _ f3) (fun _ z => nomatch z)) (n4.same _ _ f3)⟩
      · have nt3 : t3 ≠ x := fun e => by
          have := n5.was
          rw [e, upd_same] at this; cases this
        rw [upd_ne nt3]; exact n5.at_

/-! nets as lines -/
theorem app_assoc (a b c : Str) : a ++ b ++ c = a ++ (b ++ c) := ext_cps (by rw [cps_app, cps_app, cps_app, cps_app, List.append_assoc])
def jn (xs : List Str) : Str := Str.join " " xs
def jf (x : Str) (xs : List Str) : Str := xs.foldl (fun a y => a ++ " " ++ y) x
theorem jf_app (a : Str) : ∀ (xs : List Str) (b : Str), jf (a ++ b) xs = a ++ jf b xs
  | [], _ => rfl
  | y :: r, b => by
    show jf (a ++ b ++ " " ++ y) r = a ++ jf (b ++ " " ++ y) r
    rw [← jf_app a r (b ++ " " ++ y), app_assoc, app_assoc, ← app_assoc b]
theorem jn_cons : ∀ (xs : List Str) (x : Str), jn (x :: xs) = jf x xs
  | [], _ => rfl
  | y :: r, x => by
    show x ++ " " ++ jn (y :: r) = jf (x ++ " " ++ y) r
    rw [jn_cons r y, jf_app]
theorem jf_snoc (x y : Str) (xs : List Str) : jf x (xs ++ [y]) = jf x xs ++ " " ++ y := by unfold jf; rw [List.foldl_append]; rfl
theorem jf_len : ∀ (xs : List Str) (x : Str), (∀ y ∈ xs, y.length ≤ 8) → (jf x xs).length ≤ x.length + 9 * xs.length
  | [], x, _ => Nat.le_refl _
  | y :: r, x, h => by
    have ih := jf_len r (x ++ " " ++ y) fun z hz => h z (List.mem_cons_of_mem _ hz)
    have hy := h y (List.mem_cons_self ..)
    have hb : Str.length " " = 1 := by decide +kernel
    show (jf (x ++ " " ++ y) r).length ≤ _
    rw [PySem.Str.length_append, PySem.Str.length_append] at ih
    simp only [List.length_cons]
    omega
theorem wt_ok {xs : List Str} (h : ∀ y ∈ xs, y.length ≤ 8) (hl : xs.length ≤ 100) : (xs.map (·.length)).sum + xs.length ≤ 1048576 := by
  have key : ∀ ys : List Str, (∀ y ∈ ys, y.length ≤ 8) → (ys.map (·.length)).sum ≤ 8 * ys.length := by
    intro ys
    induction ys with
    | nil => intro _; simp
    | cons y r ih =>
      intro h
      have h1 := ih fun z hz => h z (List.mem_cons_of_mem _ hz)
      have h2 := h y (List.mem_cons_self ..)
      simp only [List.map_cons, List.sum_cons, List.length_cons]
      omega
  have := key xs h
  omega
def gln (g : Gt) : Str := jn (g.1 :: "is" :: g.2.1 :: g.2.2)
def netL (ins : List Str) (gs : List Gt) (outs : List Str) : List Str := jn ("in" :: ins) :: (gs.map gln ++ [jn ("out" :: outs)])
structure Small (ins : List Str) (gs : List Gt) (outs : List Str) : Prop where
  i : ∀ n ∈ ins, n.length ≤ 8
  g : ∀ g ∈ gs, g.1.length ≤ 8 ∧ g.2.1.length ≤ 8 ∧ (∀ n ∈ g.2.2, n.length ≤ 8) ∧ g.2.2.length ≤ 6
  o : ∀ n ∈ outs, n.length ≤ 8
  il : ins.length ≤ 20
  gl : gs.length ≤ 100
  ol : outs.length ≤ 20
theorem WN.small {ins : List Str} {gs : List Gt} {outs : List Str} (W : WN ins gs outs) : Small ins gs outs := by
  have nl : ∀ n ∈ ins ++ gs.map (·.1), n.length ≤ 8 := fun n hn => by
    have := (W.nm n hn).1
    have h2 := this.2
    rw [len_cps] at h2
    exact h2
  have wl : ∀ w ∈ wordsS, w.length ≤ 8 := by decide +kernel
  refine ⟨fun n hn => nl n (List.mem_append_left _ hn), fun g hg => ?_, fun n hn => nl n (W.wo n hn), by have := W.i1; omega, by have := W.gl; omega, by have := W.o1; omega⟩
  obtain ⟨i, hi⟩ := List.getElem?_of_mem hg
  obtain ⟨h1, h2, h3⟩ := ME.WG.at W.wg hi
  refine ⟨nl _ (List.mem_append_right _ (List.mem_map.mpr ⟨g, hg, rfl⟩)), wl _ h2.2.1, fun n hn => ?_, h3⟩
  have := h1 n hn
  refine nl n ?_
  rcases List.mem_append.mp this with e | e
  · exact List.mem_append_left _ e
  · refine List.mem_append_right _ ?_
    obtain ⟨g', hg', rfl⟩ := List.mem_map.mp e
    exact List.mem_map.mpr ⟨g', List.mem_of_mem_take hg', rfl⟩
def sp_written (a : Adr) (_ : PySem.W.Frag) : Sp := fun vs H Q _ => ∃ (x : Addr) (ins : List Str) (gs : List Gt) (outs : List Str), vs = [.ref x] ∧ NetO a H x ins gs outs ∧ Small ins gs outs ∧ ∀ p H', Mad H p (.lst ((netL ins gs outs).map V.str)) H' → Q (.ref p) H'
def rd_written (K : PySem.W.Frag) : TS := (tSeq (tAsg (tLst (tCons (tBM K "str" (rJoin K) (tC (.str " ")) (tCons (tOp cAdd (tLst (tCons (tC (.str "in")) tNil)) (tCB (cList K) (tCons (tFld K (cVar 0) "inputs") tNil))) tNil)) tNil)) (gName 1))
    (tSeq (tFor (iTup K (tFld K (cVar 0) "gates")) (gTup K 3 (gCons (gName 2) (gCons (gName 3) (gCons (gName 4) gNil)))) (tDrop (tBM K "list" rAppend (cVar 1) (tCons (tBM K "str" (rJoin K) (tC (.str " ")) (tCons (tOp cAdd (tLst (tCons (cVar 2) (tCons (tC (.str "is")) (tCons (cVar 3) tNil)))) (tCB (cList K) (tCons (cVar 4) tNil))) tNil)) tNil))))
    (tSeq (tDrop (tBM K "list" rAppend (cVar 1) (tCons (tBM K "str" (rJoin K) (tC (.str " ")) (tCons (tOp cAdd (tLst (tCons (tC (.str "out")) tNil)) (tCB (cList K) (tCons (tFld K (cVar 0) "outputs") tNil))) tNil)) tNil)))
    (tRet (cVar 1)))))
theorem tm_written {P : Program} {w : World} {K : PySem.W.Frag} {mg : Str → Option Value} {base : Heap} {a : Adr} (T : Txt K mg a) {cdv : Value} {A : Around} {outer : List Env} {s : Shared} {H : Hp} {E : XK} (hr : Room 0 (A.deeper (envOfC "written" (defScope s_written) s.heap.objs.size a.f_written cdv))) :
    PSs (cxOf CX0 P w K mg base N_written "written" (defScope s_written) a.f_written cdv A outer s H E).nox (defBody s_written) (rd_written K) :=
  (pss_cons (ps_set (i := 1) sc_written.nd rfl (by first | exact Or.inl rfl | exact Or.inr rfl) (pe_lst (pa_cons (pe_bm PySem.F.plainAttrs_str PySem.F.slot_str_join PySem.F.type_str_join mt_join pe_str (pa_cons (pe_op o_add (pe_lst (pa_cons pe_str pa_nil)) (pe_callTy c_list (by rfl) T.no_list PyProof.Rows.boot_list (pa_cons (pe_fld (cv 0) rfl) pa_nil))) pa_nil)) pa_nil)))
      (pss_cons (ps_for PassesOwn.never rfl (pi_tup (pe_fld (cv 0) rfl)) (pg_tup rfl (pgs_cons (pg_name (i := 2) sc_written.nd rfl (by first | exact Or.inl rfl | exact Or.inr rfl)) (pgs_cons (pg_name (i := 3) sc_written.nd rfl (by first | exact Or.inl rfl | exact Or.inr rfl)) (pgs_cons (pg_name (i := 4) sc_written.nd rfl (by first | exact Or.inl rfl | exact Or.inr rfl)) pgs_nil)))) (pss_one (ps_expr (pe_bm PySem.F.plainAttrs_list PySem.F.slot_list_append PySem.F.type_list_append (mtr mt_append) (cv 1) (pa_cons (pe_bm PySem.F.plainAttrs_str PySem.F.slot_str_join PySem.F.type_str_join mt_join pe_str (pa_cons (pe_op o_add (pe_lst (pa_cons (cv 2) (pa_cons pe_str (pa_cons (cv 3) pa_nil)))) (pe_callTy c_list (by rfl) T.no_list PyProof.Rows.boot_list (pa_cons (cv 4) pa_nil))) pa_nil)) pa_nil)))))
      (pss_cons (ps_expr (pe_bm PySem.F.plainAttrs_list PySem.F.slot_list_append PySem.F.type_list_append (mtr mt_append) (cv 1) (pa_cons (pe_bm PySem.F.plainAttrs_str PySem.F.slot_str_join PySem.F.type_str_join mt_join pe_str (pa_cons (pe_op o_add (pe_lst (pa_cons pe_str pa_nil)) (pe_callTy c_list (by rfl) T.no_list PyProof.Rows.boot_list (pa_cons (pe_fld (cv 0) rfl) pa_nil))) pa_nil)) pa_nil)))
      (pss_one (ps_ret (cv 1))))))
theorem ok_written {P : Program} {w : World} {K : PySem.W.Frag} {mg : Str → Option Value} {base : Heap} {a : Adr} (T : Txt K mg a) : FnOk P w K mg base CX0 1 a.f_written a.d_written ["net"] (sp_written a K) := by
  refine T.fn_written.ok sc_written (fun vs H Q E h => ?_) (fun cdv A outer s H vs Q E hr h => ⟨_, tm_written T hr, ?_⟩)
  · obtain ⟨x, ins, gs, outs, rfl, _⟩ := h; rfl
  · obtain ⟨x, ins, gs, outs, rfl, hN, hS, q⟩ := h
    show rd_written K _ [some (.ref x), none, none, none, none] H
    unfold rd_written
    obtain ⟨dx, t1, t2, t3, ts, hx, h1, h2, h3, h4⟩ := hN
    have big : (1000 : Nat) ≤ sizeLine := by decide
    have hin : Str.length "in" = 2 := by decide +kernel
    have hout : Str.length "out" = 3 := by decide +kernel
    have his : Str.length "is" = 2 := by decide +kernel
    have hsp : Str.length " " = 1 := by decide +kernel
    have il := hS.il
    have gl := hS.gl
    have ol := hS.ol
    walk_at "gs"
    intro r1 H1 n1
    refine ⟨x, a.c_Net, dx, _, _, rfl, n1.same _ _ hx, T.cl_Net, T.na_Net_inputs, rfl, ?_⟩
    walk_at "gs"
    refine ⟨_, .inr (.of (n1.same _ _ h1)), fun r2 H2 n2 => ?_⟩
    walk_at "gs"
    refine ⟨_, _, n2.same _ _ n1.at_, n2.at_, by simp only [List.length_map, List.length_cons, List.length_nil]; omega, fun r3 hr3 => ?_⟩
    walk_at "gs"
    have s3 : Same H (upd H2 r3 (.lst (V.str "in" :: ins.map V.str))) := (n1.same.trans n2.same).trans (same_upd hr3)
    refine ⟨"in" :: ins, .of upd_same, wt_ok (fun y hy => ?_) (by simp only [List.length_cons]; omega), by omega, ?_⟩
    · rcases List.mem_cons.mp hy with rfl | hy
      · omega
      · exact hS.i y hy
    generalize upd H2 r3 (.lst (V.str "in" :: ins.map V.str)) = H3 at s3 ⊢
    walk_at "gs"
    refine ⟨by show 1 ≤ sizeLine; omega, fun pl H4 n4 => ?_⟩
    walk_at "gs"
    refine ⟨x, a.c_Net, dx, _, _, rfl, n4.same _ _ (s3 _ _ hx), T.cl_Net, T.na_Net_gates, rfl, ?_⟩
    walk_at "gs"
    have hpl : H pl = none := s3.nil n4.was
    refine ⟨⟨_, .of (n4.same _ _ (s3 _ _ h2))⟩, for_tupG (xs := ts) (fun i σ H5 => Same H H5 ∧ H5 pl = some (.lst ((jn ("in" :: ins) :: (gs.take i).map gln).map V.str)) ∧ ∃ v2 v3 v4, σ = [some (.ref x), some (.ref pl), v2, v3, v4]) ⟨s3.trans n4.same, n4.at_, _, _, _, rfl⟩ ?_ ?_ ?_⟩
    · rintro i σ H5 _ ⟨s5, _⟩
      exact .of (s5 _ _ h2)
    · rintro i v σ H5 hv ⟨s5, hp, v2, v3, v4, rfl⟩
      have hi : i < gs.length := by rw [← h3.1]; exact (List.getElem?_eq_some_iff.mp hv).1
      have hgi : gs[i]? = some gs[i] := by simp [hi]
      obtain ⟨t, qq, e1, e2, e3⟩ := h3.2 i gs[i] hgi
      rw [hv] at e1
      cases e1
      obtain ⟨b1, b2, b3, b4⟩ := hS.g gs[i] (List.getElem_mem _)
      walk_at "gs"
      refine ⟨t, _, rfl, .of (s5 _ _ e2), rfl, _, _, rfl, _, _, rfl, _, _, rfl, rfl, ?_⟩
      walk_at "gs"
      refine ⟨.inl ⟨by trivial, _, .of hp⟩, by trivial, by show 3 ≤ sizeLine; omega, fun u1 H6 n6 => ?_⟩
      walk_at "gs"
      refine ⟨_, .inr (.of (n6.same _ _ (s5 _ _ e3))), fun u2 H7 n7 => ?_⟩
      walk_at "gs"
      refine ⟨_, _, n7.same _ _ n6.at_, n7.at_, by simp only [List.length_map, List.length_cons, List.length_nil]; omega, fun u3 hu3 => ?_⟩
      walk_at "gs"
      have s8 : Same H5 (upd H7 u3 (.lst (V.str gs[i].1 :: V.str "is" :: V.str gs[i].2.1 :: gs[i].2.2.map V.str))) := (n6.same.trans n7.same).trans (same_upd hu3)
      refine ⟨gs[i].1 :: "is" :: gs[i].2.1 :: gs[i].2.2, .of upd_same, wt_ok (fun y hy => ?_) (by simp only [List.length_cons]; omega), by omega, ?_⟩
      · rcases List.mem_cons.mp hy with rfl | hy
        · exact b1
        rcases List.mem_cons.mp hy with rfl | hy
        · omega
        rcases List.mem_cons.mp hy with rfl | hy
        · exact b2
        · exact b3 y hy
      refine ⟨pl, _, _, rfl, rfl, s8 _ _ hp, by simp only [List.length_map, List.length_cons, List.length_take]; omega, (s5.trans s8).put hpl, ?_, _, _, _, rfl⟩
      rw [upd_same, List.take_add_one, hgi, List.map_append, List.map_cons, List.map_cons, List.map_append]
      rfl
    · rintro σ H5 ⟨s5, hp, v2, v3, v4, rfl⟩
      rw [h3.1, List.take_length] at hp
      walk_at "gs"
      refine ⟨.inl ⟨by trivial, _, .of hp⟩, by trivial, by show 1 ≤ sizeLine; omega, fun u1 H6 n6 => ?_⟩
      refine ⟨x, a.c_Net, dx, _, _, rfl, n6.same _ _ (s5 _ _ hx), T.cl_Net, T.na_Net_outputs, rfl, ?_⟩
      walk_at "gs"
      refine ⟨_, .inr (.of (n6.same _ _ (s5 _ _ h4))), fun u2 H7 n7 => ?_⟩
      walk_at "gs"
      refine ⟨_, _, n7.same _ _ n6.at_, n7.at_, by simp only [List.length_map, List.length_cons, List.length_nil]; omega, fun u3 hu3 => ?_⟩
      walk_at "gs"
      have s8 : Same H5 (upd H7 u3 (.lst (V.str "out" :: outs.map V.str))) := (n6.same.trans n7.same).trans (same_upd hu3)
      refine ⟨"out" :: outs, .of upd_same, wt_ok (fun y hy => ?_) (by simp only [List.length_cons]; omega), by omega, ?_⟩
      · rcases List.mem_cons.mp hy with rfl | hy
        · omega
        · exact hS.o y hy
      refine ⟨pl, _, _, rfl, rfl, s8 _ _ hp, by simp only [List.length_map, List.length_cons]; omega, ?_⟩
      walk_at "gs"
      refine q pl _ ⟨hpl, ?_, (s5.trans s8).put hpl⟩
      rw [upd_same]
      unfold netL
      rw [List.map_cons, List.map_cons, List.map_append]
      rfl

end K06

set_option maxHeartbeats 4000000
namespace K06
open PySem PySem.Spec PyProof.Rows L2 GM
seal PE PT PS PSs PA PG PGs PI PO PW PTs PPs PK PC PSet PIp OpR UnR CallR IxR SlR MtR MtM tMid
local macro_rules | `(tactic| walk_at "go") => `(tactic| try simp only [tSeq, tAsg, gName, gTup, gCons, gNil, gSub, tOp, tC, cVar, cI2, cI2c, cAdd, cMul, cEq, cNe, cIs, cIsNot, cIn, cBool, cTst, cTru, cChain, tRet, tRetN, tDrop, tIfS, tIf, tCall, tCons, tNil, tNext, tCB, cLen, cInt, cIsinst, cMin, cMax, cAll, tNot, tOr, tAnd, cAndV, cOrV, cNotV, tUn, cNeg, tFor_list, tFor_tup, tFor_rng1, tFor_rng2, tFor_str, tComp_list, tComp_tup, tComp_rng1, tComp_str, cRef, cInt1, cInt2, cIx, tSl, cSlU, cPart, tNoPart, tVals, tLst_n, tTup_n, tDispC_n, tDNewK_n, cList_n, cTuple_n, tDGet2, tDGet, tDIn, tDNotIn, sDPut, tBM, tBM0, tMake, tMeth, tFld, sFld, cDictZip, rFind, tyV, cListRange, tNo, tPar, tDNewT_n, rSplit, rJoin, rBits, List.append_nil, List.cons_append, List.nil_append, List.getElem?_cons_zero, List.getElem?_cons_succ, List.set_cons_zero, List.set_cons_succ, decide_eq_true_eq, if_true, if_false, Bool.false_eq_true, eq_self, decide_true, decide_false, Bool.not_true, Bool.not_false, Bool.not_eq_true', decide_eq_false_iff_not, Bool.and_true, Bool.true_and])
local macro_rules | `(tactic| walk_at "sd") => `(tactic| first | exact And.intro (by decide) (by decide) | decide | omega | exact Or.inl (And.intro (by omega) (by omega)) | exact Or.inr (And.intro (by omega) (by omega)) | exact And.intro (by omega) (And.intro (by omega) (by decide)) | exact And.intro (by omega) (by omega))
local macro_rules | `(tactic| walk_at "gs") => `(tactic| (walk_at "go"; repeat (refine And.intro (by walk_at "sd") ?_; walk_at "go")))
def sp_law_due_lines (K : PySem.W.Frag) : Sp := fun vs H Q _ => ∃ (p : Addr) (ins : List Str) (gs : List Gt) (outs : List Str), vs = [.ref p] ∧ NetV K H p ins gs outs ∧ Small ins gs outs ∧ ∀ r H', Mad H r (.lst ((netL ins gs outs).map V.str)) H' → Q (.ref r) H'
def rd_law_due_lines (K : PySem.W.Frag) : TS := (tSeq (tAsg (tLst (tCons (tC (.str "in")) tNil)) (gName 1))
    (tSeq (tFor (iList K (tOp (cIx K) (cVar 0) (tC (.int 0)))) (gName 2) (tAsg (tOp cAdd (tOp cAdd (tOp (cIx K) (cVar 1) (tC (.int 0))) (tC (.str " "))) (cVar 2)) (gSub (cVar 1) (tC (.int 0)) rSetL)))
    (tSeq (tFor (iList K (tOp (cIx K) (cVar 0) (tC (.int 1)))) (gTup K 3 (gCons (gName 2) (gCons (gName 3) (gCons (gName 4) gNil)))) (tSeq (tAsg (tOp cAdd (tOp cAdd (cVar 2) (tC (.str " is "))) (cVar 3)) (gName 5))
    (tSeq (tFor (iList K (cVar 4)) (gName 6) (tAsg (tOp cAdd (tOp cAdd (cVar 5) (tC (.str " "))) (cVar 6)) (gName 5)))
    (tDrop (tBM K "list" rAppend (cVar 1) (tCons (cVar 5) tNil))))))
    (tSeq (tAsg (tC (.str "out")) (gName 7))
    (tSeq (tFor (iList K (tOp (cIx K) (cVar 0) (tC (.int 2)))) (gName 2) (tAsg (tOp cAdd (tOp cAdd (cVar 7) (tC (.str " "))) (cVar 2)) (gName 7)))
    (tRet (tOp cAdd (cVar 1) (tLst (tCons (cVar 7) tNil)))))))))
theorem tm_law_due_lines {P : Program} {w : World} {K : PySem.W.Frag} {mg : Str → Option Value} {base : Heap} {a : Adr} (T : Txt K mg a) {cdv : Value} {A : Around} {outer : List Env} {s : Shared} {H : Hp} {E : XK} (hr : Room 0 (A.deeper (envOfC "_law_due_lines" (defScope s_law_due_lines) s.heap.objs.size a.f_law_due_lines cdv))) :
    PSs (cxOf CX0 P w K mg base N_law_due_lines "_law_due_lines" (defScope s_law_due_lines) a.f_law_due_lines cdv A outer s H E).nox (defBody s_law_due_lines) (rd_law_due_lines K) :=
  (pss_cons (ps_set (i := 1) sc_law_due_lines.nd rfl (by first | exact Or.inl rfl | exact Or.inr rfl) (pe_lst (pa_cons pe_str pa_nil)))
      (pss_cons (ps_for PassesOwn.never rfl (pi_list (pe_ix i_seq (cv 0) pe_int (fun _ _ => rfl))) (pg_name (i := 2) sc_law_due_lines.nd rfl (by first | exact Or.inl rfl | exact Or.inr rfl)) (pss_one (ps_asg (pe_op o_add (pe_op o_add (pe_ix i_seq (cv 1) pe_int (fun _ _ => rfl)) pe_str) (cv 2)) (pg_sub (cv 1) pe_int set_list))))
      (pss_cons (ps_for PassesOwn.never rfl (pi_list (pe_ix i_seq (cv 0) pe_int (fun _ _ => rfl))) (pg_tup rfl (pgs_cons (pg_name (i := 2) sc_law_due_lines.nd rfl (by first | exact Or.inl rfl | exact Or.inr rfl)) (pgs_cons (pg_name (i := 3) sc_law_due_lines.nd rfl (by first | exact Or.inl rfl | exact Or.inr rfl)) (pgs_cons (pg_name (i := 4) sc_law_due_lines.nd rfl (by first | exact Or.inl rfl | exact Or.inr rfl)) pgs_nil)))) (pss_cons (ps_set (i := 5) sc_law_due_lines.nd rfl (by first | exact Or.inl rfl | exact Or.inr rfl) (pe_op o_add (pe_op o_add (cv 2) pe_str) (cv 3)))
      (pss_cons (ps_for PassesOwn.never rfl (pi_list (cv 4)) (pg_name (i := 6) sc_law_due_lines.nd rfl (by first | exact Or.inl rfl | exact Or.inr rfl)) (pss_one (ps_set (i := 5) sc_law_due_lines.nd rfl (by first | exact Or.inl rfl | exact Or.inr rfl) (pe_op o_add (pe_op o_add (cv 5) pe_str) (cv 6)))))
      (pss_one (ps_expr (pe_bm PySem.F.plainAttrs_list PySem.F.slot_list_append PySem.F.type_list_append (mtr mt_append) (cv 1) (pa_cons (cv 5) pa_nil)))))))
      (pss_cons (ps_set (i := 7) sc_law_due_lines.nd rfl (by first | exact Or.inl rfl | exact Or.inr rfl) pe_str)
      (pss_cons (ps_for PassesOwn.never rfl (pi_list (pe_ix i_seq (cv 0) pe_int (fun _ _ => rfl))) (pg_name (i := 2) sc_law_due_lines.nd rfl (by first | exact Or.inl rfl | exact Or.inr rfl)) (pss_one (ps_set (i := 7) sc_law_due_lines.nd rfl (by first | exact Or.inl rfl | exact Or.inr rfl) (pe_op o_add (pe_op o_add (cv 7) pe_str) (cv 2)))))
      (pss_one (ps_ret (pe_op o_add (cv 1) (pe_lst (pa_cons (cv 7) pa_nil))))))))))
theorem ok_law_due_lines {P : Program} {w : World} {K : PySem.W.Frag} {mg : Str → Option Value} {base : Heap} {a : Adr} (T : Txt K mg a) : FnOk P w K mg base CX0 1 a.f_law_due_lines a.d_law_due_lines ["_law_net"] (sp_law_due_lines K) := by
  refine T.fn_law_due_lines.ok sc_law_due_lines (fun vs H Q E h => ?_) (fun cdv A outer s H vs Q E hr h => ⟨_, tm_law_due_lines T hr, ?_⟩)
  · obtain ⟨p, ins, gs, outs, rfl, _⟩ := h; rfl
  · obtain ⟨p, ins, gs, outs, rfl, hN, hS, q⟩ := h
    show rd_law_due_lines K _ [some (.ref p), none, none, none, none, none, none, none] H
    unfold rd_law_due_lines
    obtain ⟨pa, pb, pc, ts, h0, hA, hB, hG, hC⟩ := hN
    have big : (1000 : Nat) ≤ sizeLine := by decide
    have hin : Str.length "in" = 2 := by decide +kernel
    have hout : Str.length "out" = 3 := by decide +kernel
    have his : Str.length " is " = 4 := by decide +kernel
    have hsp : Str.length " " = 1 := by decide +kernel
    have il := hS.il
    have gl := hS.gl
    have ol := hS.ol
    walk_at "gs"
    intro pl H1 n1
    walk_at "gs"
    refine ⟨_, _, .inr (n1.same.tup h0), rfl, ?_⟩
    walk_at "gs"
    refine ⟨⟨_, n1.same.seq hA⟩, for_listG (xs := ins.map V.str) (fun i σ H2 => Same H H2 ∧ H2 pl = some (.lst [.str (jf "in" (ins.take i))]) ∧ ∃ v2, σ = [some (.ref p), some (.ref pl), v2, none, none, none, none, none]) ⟨n1.same, n1.at_, _, rfl⟩ ?_ ?_ ?_⟩
    · rintro i σ H2 _ ⟨s2, _⟩
      exact s2.seq hA
    · rintro i x σ H2 hx ⟨s2, hp, v2, rfl⟩
      obtain ⟨y, hy, rfl⟩ := get_map_of hx
      have hyl := hS.i y (List.mem_of_getElem? hy)
      have hjl := jf_len (ins.take i) "in" fun z hz => hS.i z (List.mem_of_mem_take hz)
      rw [List.length_take] at hjl
      walk_at "gs"
      refine ⟨_, _, .inl (.of hp), rfl, ?_⟩
      walk_at "gs"
      refine ⟨by rw [PySem.Str.length_append]; omega, ?_⟩
      refine ⟨pl, _, 0, 0, rfl, rfl, hp, rfl, s2.put n1.was, ?_, _, rfl⟩
      rw [upd_same, List.take_add_one, hy]
      show some (HO.lst [V.str (jf "in" (ins.take i) ++ " " ++ y)]) = some (HO.lst [V.str (jf "in" (ins.take i ++ [y]))])
      rw [jf_snoc]
    · rintro σ H2 ⟨s2, hp, v2, rfl⟩
      rw [List.length_map, List.take_length, ← jn_cons] at hp
      walk_at "gs"
      refine ⟨_, _, .inr (s2.tup h0), rfl, ?_⟩
      walk_at "gs"
      refine ⟨⟨_, s2.seq hB⟩, for_listG (xs := ts) (fun i σ H3 => Same H H3 ∧ H3 pl = some (.lst ((jn ("in" :: ins) :: (gs.take i).map gln).map V.str)) ∧ ∃ v2 v3 v4 v5 v6, σ = [some (.ref p), some (.ref pl), v2, v3, v4, v5, v6, none]) ⟨s2, hp, _, _, _, _, _, rfl⟩ ?_ ?_ ?_⟩
      · rintro i σ H3 _ ⟨s3, _⟩
        exact s3.seq hB
      · rintro i v σ H3 hv ⟨s3, hp3, v2, v3, v4, v5, v6, rfl⟩
        have hi : i < gs.length := by rw [← hG.1]; exact (List.getElem?_eq_some_iff.mp hv).1
        have hgi : gs[i]? = some gs[i] := by simp [hi]
        obtain ⟨t, qq, e1, _, _, e2, e3⟩ := hG.2 i gs[i] hgi
        rw [hv] at e1
        cases e1
        obtain ⟨b1, b2, b3, b4⟩ := hS.g gs[i] (List.getElem_mem _)
        generalize gs[i] = g at hgi e2 e3 b1 b2 b3 b4
        walk_at "gs"
        refine ⟨t, _, rfl, s3.tup e2, rfl, _, _, rfl, _, _, rfl, _, _, rfl, rfl, ?_⟩
        walk_at "gs"
        refine ⟨by rw [PySem.Str.length_append]; omega, ?_⟩
        have l3 : g.1 ++ " is " ++ g.2.1 = jf g.1 ["is", g.2.1] := by
          have z : (" is " : Str) = " " ++ "is" ++ " " := by decide +kernel
          show g.1 ++ " is " ++ g.2.1 = g.1 ++ " " ++ "is" ++ " " ++ g.2.1
          rw [z, ← app_assoc, ← app_assoc]
        have l3l : (jf g.1 ["is", g.2.1]).length ≤ 30 := by
          rw [← l3, PySem.Str.length_append, PySem.Str.length_append]; omega
        rw [l3]
        walk_at "gs"
        refine ⟨⟨_, s3.seq e3⟩, for_listG (xs := g.2.2.map V.str) (fun j σ H4 => H4 = H3 ∧ ∃ v6, σ = [some (.ref p), some (.ref pl), some (.str g.1), some (.str g.2.1), some (.ref qq), some (.str (jf (jf g.1 ["is", g.2.1]) (g.2.2.take j))), v6, none]) ⟨rfl, _, rfl⟩ ?_ ?_ ?_⟩
        · rintro j σ H4 _ ⟨rfl, _⟩
          exact s3.seq e3
        · rintro j x σ H4 hx ⟨rfl, v6, rfl⟩
          obtain ⟨y, hy, rfl⟩ := get_map_of hx
          have hyl := b3 y (List.mem_of_getElem? hy)
          have hjl := jf_len (g.2.2.take j) (jf g.1 ["is", g.2.1]) fun z hz => b3 z (List.mem_of_mem_take hz)
          rw [List.length_take] at hjl
          walk_at "gs"
          refine ⟨by rw [PySem.Str.length_append]; omega, by trivial, some (.str y), ?_⟩
          rw [List.take_add_one, hy]
          show _ = [some (V.ref p), some (V.ref pl), some (V.str g.1), some (V.str g.2.1), some (V.ref qq), some (V.str (jf (jf g.1 ["is", g.2.1]) (g.2.2.take j ++ [y]))), some (V.str y), none]
          rw [jf_snoc]
        · rintro σ H4 ⟨rfl, v6, rfl⟩
          rw [List.length_map, List.take_length]
          have eg : jf (jf g.1 ["is", g.2.1]) g.2.2 = gln g := by unfold gln; rw [jn_cons]; rfl
          rw [eg]
          walk_at "gs"
          refine ⟨.inl ⟨by trivial, _, .of hp3⟩, pl, _, _, rfl, rfl, hp3, by simp only [List.length_map, List.length_cons, List.length_take]; omega, s3.put n1.was, ?_, _, _, _, _, _, rfl⟩
          rw [upd_same, List.take_add_one, hgi, List.map_append, List.map_cons, List.map_cons, List.map_append]
          rfl
      · rintro σ H3 ⟨s3, hp3, v2, v3, v4, v5, v6, rfl⟩
        rw [hG.1, List.take_length] at hp3
        walk_at "gs"
        refine ⟨_, _, .inr (s3.tup h0), rfl, ?_⟩
        walk_at "gs"
        refine ⟨⟨_, s3.seq hC⟩, for_listG (xs := outs.map V.str) (fun j σ H4 => H4 = H3 ∧ ∃ v2, σ = [some (.ref p), some (.ref pl), v2, v3, v4, v5, v6, some (.str (jf "out" (outs.take j)))]) ⟨rfl, _, rfl⟩ ?_ ?_ ?_⟩
        · rintro j σ H4 _ ⟨rfl, _⟩
          exact s3.seq hC
        · rintro j x σ H4 hx ⟨rfl, v2, rfl⟩
          obtain ⟨y, hy, rfl⟩ := get_map_of hx
          have hyl := hS.o y (List.mem_of_getElem? hy)
          have hjl := jf_len (outs.take j) "out" fun z hz => hS.o z (List.mem_of_mem_take hz)
          rw [List.length_take] at hjl
          walk_at "gs"
          refine ⟨by rw [PySem.Str.length_append]; omega, by trivial, some (.str y), ?_⟩
          rw [List.take_add_one, hy]
          show _ = [some (V.ref p), some (V.ref pl), some (V.str y), v3, v4, v5, v6, some (V.str (jf "out" (outs.take j ++ [y])))]
          rw [jf_snoc]
        · rintro σ H4 ⟨rfl, v2, rfl⟩
          rw [List.length_map, List.take_length, ← jn_cons]
          walk_at "gs"
          refine ⟨by show 1 ≤ sizeLine; omega, fun r1 H5 n5 => ?_⟩
          walk_at "gs"
          refine ⟨_, _, n5.same _ _ hp3, n5.at_, by simp only [List.length_map, List.length_cons, List.length_nil]; omega, fun r2 hr2 => ?_⟩
          refine q r2 _ ⟨(s3.trans n5.same).nil hr2, ?_, (s3.trans n5.same).trans (same_upd hr2)⟩
          rw [upd_same]
          unfold netL
          rw [List.map_cons, List.map_cons, List.map_append]
          rfl

def sp_law_same (K : PySem.W.Frag) : Sp := fun vs H Q _ => ∃ (p q : Addr) (xs : List Str), vs = [.ref p, .ref q] ∧ H p = some (.lst (xs.map V.str)) ∧ SqL K H q (xs.map V.str) ∧ xs.length ≤ 100000 ∧ Q (.bl true) H
theorem eqS (xs : List Str) (i : Nat) (h : i < xs.length) : atI (xs.map V.str) (i : Int) = some (.str (xs.getD i "")) := by
  rw [atI_ok .non (by omega) (by rw [List.length_map]; omega)]
  simp [List.getD, h]
def rd_law_same (K : PySem.W.Frag) : TS := (tSeq (tIfS (tOr (tNot (cTru K (tCB (cIsinst K) (tCons (cVar 0) (tCons (tC (.ty "list")) tNil))))) (cTst (tOp (cNe K) (tCB (cLen K) (tCons (cVar 0) tNil)) (tCB (cLen K) (tCons (cVar 1) tNil))))) (tRet (tC (.bl false))) tNext)
    (tSeq (tFor (iRng1 (tCons (tCB (cLen K) (tCons (cVar 1) tNil)) tNil)) (gName 2) (tIfS (tOr (tNot (cTru K (tCB (cIsinst K) (tCons (tOp (cIx K) (cVar 0) (cVar 2)) (tCons (tC (.ty "str")) tNil))))) (cTst (tOp (cNe K) (tOp (cIx K) (cVar 0) (cVar 2)) (tOp (cIx K) (cVar 1) (cVar 2))))) (tRet (tC (.bl false))) tNext))
    (tRet (tC (.bl true)))))
theorem tm_law_same {P : Program} {w : World} {K : PySem.W.Frag} {mg : Str → Option Value} {base : Heap} {a : Adr} (T : Txt K mg a) {cdv : Value} {A : Around} {outer : List Env} {s : Shared} {H : Hp} {E : XK} (hr : Room 0 (A.deeper (envOfC "_law_same" (defScope s_law_same) s.heap.objs.size a.f_law_same cdv))) :
    PSs (cxOf CX0 P w K mg base N_law_same "_law_same" (defScope s_law_same) a.f_law_same cdv A outer s H E).nox (defBody s_law_same) (rd_law_same K) :=
  (pss_cons (ps_if (PW.pt (pw_or (pt_not (pt_tru (pe_callB c_isinst (by rfl) T.no_isinstance PyProof.Rows.boot_isinstance (pa_cons (cv 0) (pa_cons (pe_bltn (v := .ty "list") rfl T.no_list PyProof.Rows.boot_list rfl) pa_nil))))) (pw_or1 (t_cmp (o_ne (hr8 hr)) (pe_callB c_len (by rfl) T.no_len PySem.boot_len (pa_cons (cv 0) pa_nil)) (pe_callB c_len (by rfl) T.no_len PySem.boot_len (pa_cons (cv 1) pa_nil)) (nomark _))))) (pss_one (ps_ret pe_bl)) pss_nil)
      (pss_cons (ps_for PassesOwn.never rfl (pi_range1 rfl T.no_range (pa_cons (pe_callB c_len (by rfl) T.no_len PySem.boot_len (pa_cons (cv 1) pa_nil)) pa_nil)) (pg_name (i := 2) sc_law_same.nd rfl (by first | exact Or.inl rfl | exact Or.inr rfl)) (pss_one (ps_if (PW.pt (pw_or (pt_not (pt_tru (pe_callB c_isinst (by rfl) T.no_isinstance PyProof.Rows.boot_isinstance (pa_cons (pe_ix i_seq (cv 0) (cv 2) (fun _ _ => rfl)) (pa_cons (pe_bltn (v := .ty "str") rfl T.no_str PyProof.Rows.boot_str rfl) pa_nil))))) (pw_or1 (t_cmp (o_ne (hr8 hr)) (pe_ix i_seq (cv 0) (cv 2) (fun _ _ => rfl)) (pe_ix i_seq (cv 1) (cv 2) (fun _ _ => rfl)) (nomark _))))) (pss_one (ps_ret pe_bl)) pss_nil)))
      (pss_one (ps_ret pe_bl))))
theorem ok_law_same {P : Program} {w : World} {K : PySem.W.Frag} {mg : Str → Option Value} {base : Heap} {a : Adr} (T : Txt K mg a) : FnOk P w K mg base CX0 1 a.f_law_same a.d_law_same ["_law_found", "_law_due"] (sp_law_same K) := by
  refine T.fn_law_same.ok sc_law_same (fun vs H Q E h => ?_) (fun cdv A outer s H vs Q E hr h => ⟨_, tm_law_same T hr, ?_⟩)
  · obtain ⟨p, q, xs, rfl, _⟩ := h; rfl
  · obtain ⟨p, q, xs, rfl, hp, hq, hz, k⟩ := h
    show rd_law_same K _ [some (.ref p), some (.ref q), none] H
    unfold rd_law_same
    have big : (100000 : Nat) ≤ sizeLine := by decide
    walk_at "go"
    refine ⟨_, true, .lst hp, rfl, ?_⟩
    walk_at "go"
    refine .inl ⟨_, .inl (.of hp), .inl ⟨_, .inl hq, ?_⟩⟩
    walk_at "go"
    refine .inl ⟨_, .inl hq, ?_⟩
    rw [List.length_map]
    walk_at "go"
    refine ⟨by omega, by omega, ?_⟩
    rw [Int.toNat_natCast]
    refine for_rngG (fun i σ H2 => H2 = H ∧ ∃ v, σ = [some (.ref p), some (.ref q), v]) ⟨rfl, _, rfl⟩ ?_ ?_
    · rintro i σ H2 hi ⟨rfl, v, rfl⟩
      walk_at "go"
      rw [Int.zero_add]
      refine ⟨_, _, .inl (.of hp), eqS xs i hi, ?_⟩
      walk_at "go"
      refine ⟨_, true, .str _, rfl, ?_⟩
      walk_at "go"
      refine ⟨_, _, .inl (.of hp), eqS xs i hi, _, _, .inl hq, eqS xs i hi, ?_⟩
      walk_at "go"
      exact ⟨trivial, _, rfl⟩
    · rintro σ H2 ⟨rfl, v, rfl⟩
      walk_at "go"
      exact k

def sp_law (K : PySem.W.Frag) : Sp := fun vs H Q _ => ∃ (p : Addr) (ns : List Int), vs = [.ref p] ∧ SqL K H p (ns.map V.int) ∧ ns.length ≤ 63 ∧ ∀ H', Q (.bl true) H'
/-- lists that were handed in, made since H0 -/
structure Handed (N : Addr → Prop) (H0 H : Hp) (us : List V) (gs : List Gt) : Prop where
  len : us.length = gs.length
  at_ : ∀ (i : Nat) (g : Gt), gs[i]? = some g → ∃ t q, us[i]? = some (.ref t) ∧ N q ∧ H0 q = none ∧ H t = some (.tup [.str g.1, .str g.2.1, .ref q]) ∧ ∃ xs, H q = some (.lst xs)
theorem cut3 (ns : List Int) (hl : ns.length ≤ 63) : ∃ cs : List Int, cutV (ns.map V.int) (some 3) (some 63) = cs.map V.int ∧ cs.length ≤ 60 := by
  unfold cutV
  have e1 : HT.sIx (ns.map V.int).length 0 (some 3) = min 3 (ns.map V.int).length := by
    have := HT.sIx_nat (ns.map V.int).length 0 3
    rw [show ((3 : Nat) : Int) = 3 from rfl] at this
    rw [this]
  have e2 : HT.sIx (ns.map V.int).length (ns.map V.int).length (some 63) = min 63 (ns.map V.int).length := by
    have := HT.sIx_nat (ns.map V.int).length (ns.map V.int).length 63
    rw [show ((63 : Nat) : Int) = 63 from rfl] at this
    rw [this]
  rw [e1, e2, List.length_map]
  refine ⟨(ns.drop (min 3 ns.length)).take (min 63 ns.length - min 3 ns.length), by rw [List.map_take, List.map_drop], ?_⟩
  rw [List.length_take, List.length_drop]
  omega
def rd_law (a : Adr) (K : PySem.W.Frag) : TS := (tSeq (tAsg (tOp cAdd (tC (.int 1)) (tOp (cI2c (fun _ j => 0 < j) fun i j => .int (i % j)) (tCall (sp_law_cell_at K) [] E0 (tCons (cVar 0) (tCons (tC (.int 0)) tNil))) (tC (.int 10)))) (gName 1))
    (tSeq (tAsg (tCall (sp_law_drawn K) [] E0 (tCons (cVar 1) (tCons (tSl (cSlU K) (cVar 0) (cPart (tC (.int 3))) (cPart (tC (.int 63)))) (tCons (tCall (sp_law_cell_at K) [] E0 (tCons (cVar 0) (tCons (tC (.int 1)) tNil))) (tCons (tCall (sp_law_cell_at K) [] E0 (tCons (cVar 0) (tCons (tC (.int 2)) tNil))) tNil))))) (gName 2))
    (tSeq (tAsg (tComp (iList K (tOp (cIx K) (cVar 2) (tC (.int 1)))) 3 [] (gTup K 3 (gCons (gName 0) (gCons (gName 1) (gCons (gName 2) gNil)))) tTrue (tTup (tCons (cVar 0) (tCons (cVar 1) (tCons (tCB (cList K) (tCons (cVar 2) tNil)) tNil))))) (gName 3))
    (tSeq (tAsg (tLst (tCons (tCB (cList K) (tCons (tOp (cIx K) (cVar 2) (tC (.int 0))) tNil)) (tCons (cVar 3) (tCons (tCB (cList K) (tCons (tOp (cIx K) (cVar 2) (tC (.int 2))) tNil)) tNil)))) (gName 4))
    (tSeq (tAsg (tMake a.c_Net (sp_Net___init__ a K) [] E0 (tCons (tOp (cIx K) (cVar 4) (tC (.int 0))) (tCons (tOp (cIx K) (cVar 4) (tC (.int 1))) (tCons (tOp (cIx K) (cVar 4) (tC (.int 2))) tNil)))) (gName 5))
    (tSeq (tFor (iList K (cVar 3)) (gTup K 3 (gCons (gName 6) (gCons (gName 7) (gCons (gName 8) gNil)))) (tDrop (tBM0 K "list" rClear (cVar 8))))
    (tSeq (tFor (iList K (cVar 4)) (gName 9) (tDrop (tBM0 K "list" rClear (cVar 9))))
    (tSeq (tAsg (tCall (sp_law_due_lines K) [] E0 (tCons (cVar 2) tNil)) (gName 10))
    (tSeq (tAsg (tCall (sp_written a K) [] E0 (tCons (cVar 5) tNil)) (gName 11))
    (tSeq (tIfS (tNot (cTru K (tCall (sp_law_same K) [] E0 (tCons (cVar 11) (tCons (cVar 10) tNil))))) (tRet (tC (.bl false))) tNext)
    (tSeq (tDrop (tBM0 K "list" rClear (cVar 11)))
    (tRet (tCall (sp_law_same K) [] E0 (tCons (tCall (sp_written a K) [] E0 (tCons (cVar 5) tNil)) (tCons (cVar 10) tNil)))))))))))))))
theorem tm_law {P : Program} {w : World} {K : PySem.W.Frag} {mg : Str → Option Value} {base : Heap} {a : Adr} (T : Txt K mg a) {cdv : Value} {A : Around} {outer : List Env} {s : Shared} {H : Hp} {E : XK} (hr : Room 4 (A.deeper (envOfC "law" (defScope s_law) s.heap.objs.size a.f_law cdv))) :
    PSs (cxOf CX0 P w K mg base N_law "law" (defScope s_law) a.f_law cdv A outer s H E).nox (defBody s_law) (rd_law a K) :=
  (pss_cons (ps_set (i := 1) sc_law.nd rfl (by first | exact Or.inl rfl | exact Or.inr rfl) (pe_op o_add pe_int (pe_op o_mod (pe_call (ok_law_cell_at T) (hr.mono (by decide)) rfl T.mg_law_cell_at T.fn_law_cell_at.kp T.bi_law_cell_at .nil pass0 (pa_cons (cv 0) (pa_cons pe_int pa_nil))) pe_int)))
      (pss_cons (ps_set (i := 2) sc_law.nd rfl (by first | exact Or.inl rfl | exact Or.inr rfl) (pe_call (ok_law_drawn T) (hr.mono (by decide)) rfl T.mg_law_drawn T.fn_law_drawn.kp T.bi_law_drawn .nil pass0 (pa_cons (cv 1) (pa_cons (pe_slice s_u (cv 0) (e_part pe_int) (e_part pe_int)) (pa_cons (pe_call (ok_law_cell_at T) (hr.mono (by decide)) rfl T.mg_law_cell_at T.fn_law_cell_at.kp T.bi_law_cell_at .nil pass0 (pa_cons (cv 0) (pa_cons pe_int pa_nil))) (pa_cons (pe_call (ok_law_cell_at T) (hr.mono (by decide)) rfl T.mg_law_cell_at T.fn_law_cell_at.kp T.bi_law_cell_at .nil pass0 (pa_cons (cv 0) (pa_cons pe_int pa_nil))) pa_nil))))))
      (pss_cons (ps_setC (i := 3) (N := ["_law_name", "_law_word", "_law_parts"]) (k := 3) (sel := []) (CScope.of (defScope s_law).names (by decide +kernel)) (CNames.of N_law (by decide +kernel)) rfl (pi_list (pe_ix i_seq (cv 2) pe_int (fun _ _ => rfl))) (fun _ _ _ _ => (pg_tup rfl (pgs_cons (pg_name (i := 0) (show List.Nodup (["_law_name", "_law_word", "_law_parts"] : List Str) by decide +kernel) rfl (by first | exact Or.inl rfl | exact Or.inr rfl)) (pgs_cons (pg_name (i := 1) (show List.Nodup (["_law_name", "_law_word", "_law_parts"] : List Str) by decide +kernel) rfl (by first | exact Or.inl rfl | exact Or.inr rfl)) (pgs_cons (pg_name (i := 2) (show List.Nodup (["_law_name", "_law_word", "_law_parts"] : List Str) by decide +kernel) rfl (by first | exact Or.inl rfl | exact Or.inr rfl)) pgs_nil))))) (fun _ _ _ _ => pts_nil) (fun _ _ _ _ => (pe_tup (pa_cons (cv 0) (pa_cons (cv 1) (pa_cons (pe_callTy c_list (by rfl) T.no_list PyProof.Rows.boot_list (pa_cons (cv 2) pa_nil)) pa_nil))))) sc_law.nd rfl (by first | exact Or.inl rfl | exact Or.inr rfl) rfl)
      (pss_cons (ps_set (i := 4) sc_law.nd rfl (by first | exact Or.inl rfl | exact Or.inr rfl) (pe_lst (pa_cons (pe_callTy c_list (by rfl) T.no_list PyProof.Rows.boot_list (pa_cons (pe_ix i_seq (cv 2) pe_int (fun _ _ => rfl)) pa_nil)) (pa_cons (cv 3) (pa_cons (pe_callTy c_list (by rfl) T.no_list PyProof.Rows.boot_list (pa_cons (pe_ix i_seq (cv 2) pe_int (fun _ _ => rfl)) pa_nil)) pa_nil)))))
      (pss_cons (ps_set (i := 5) sc_law.nd rfl (by first | exact Or.inl rfl | exact Or.inr rfl) (pe_make T.mk_Net (ok_Net___init__ T) (hr.mono (by decide)) rfl T.mg_Net T.bi_Net___init__ .nil pass0 (pa_cons (pe_ix i_seq (cv 4) pe_int (fun _ _ => rfl)) (pa_cons (pe_ix i_seq (cv 4) pe_int (fun _ _ => rfl)) (pa_cons (pe_ix i_seq (cv 4) pe_int (fun _ _ => rfl)) pa_nil)))))
      (pss_cons (ps_for PassesOwn.never rfl (pi_list (cv 3)) (pg_tup rfl (pgs_cons (pg_name (i := 6) sc_law.nd rfl (by first | exact Or.inl rfl | exact Or.inr rfl)) (pgs_cons (pg_name (i := 7) sc_law.nd rfl (by first | exact Or.inl rfl | exact Or.inr rfl)) (pgs_cons (pg_name (i := 8) sc_law.nd rfl (by first | exact Or.inl rfl | exact Or.inr rfl)) pgs_nil)))) (pss_one (ps_expr (pe_bm0 PySem.F.plainAttrs_list PySem.F.slot_list_clear PySem.F.type_list_clear (mtr mt_clear) (cv 8)))))
      (pss_cons (ps_for PassesOwn.never rfl (pi_list (cv 4)) (pg_name (i := 9) sc_law.nd rfl (by first | exact Or.inl rfl | exact Or.inr rfl)) (pss_one (ps_expr (pe_bm0 PySem.F.plainAttrs_list PySem.F.slot_list_clear PySem.F.type_list_clear (mtr mt_clear) (cv 9)))))
      (pss_cons (ps_set (i := 10) sc_law.nd rfl (by first | exact Or.inl rfl | exact Or.inr rfl) (pe_call (ok_law_due_lines T) (hr.mono (by decide)) rfl T.mg_law_due_lines T.fn_law_due_lines.kp T.bi_law_due_lines .nil pass0 (pa_cons (cv 2) pa_nil)))
      (pss_cons (ps_set (i := 11) sc_law.nd rfl (by first | exact Or.inl rfl | exact Or.inr rfl) (pe_call (ok_written T) (hr.mono (by decide)) rfl T.mg_written T.fn_written.kp T.bi_written .nil pass0 (pa_cons (cv 5) pa_nil)))
      (pss_cons (ps_if (pt_not (pt_tru (pe_call (ok_law_same T) (hr.mono (by decide)) rfl T.mg_law_same T.fn_law_same.kp T.bi_law_same .nil pass0 (pa_cons (cv 11) (pa_cons (cv 10) pa_nil))))) (pss_one (ps_ret pe_bl)) pss_nil)
      (pss_cons (ps_expr (pe_bm0 PySem.F.plainAttrs_list PySem.F.slot_list_clear PySem.F.type_list_clear (mtr mt_clear) (cv 11)))
      (pss_one (ps_ret (pe_call (ok_law_same T) (hr.mono (by decide)) rfl T.mg_law_same T.fn_law_same.kp T.bi_law_same .nil pass0 (pa_cons (pe_call (ok_written T) (hr.mono (by decide)) rfl T.mg_written T.fn_written.kp T.bi_written .nil pass0 (pa_cons (cv 5) pa_nil)) (pa_cons (cv 10) pa_nil))))))))))))))))
theorem ok_law {P : Program} {w : World} {K : PySem.W.Frag} {mg : Str → Option Value} {base : Heap} {a : Adr} (T : Txt K mg a) : FnOk P w K mg base CX0 5 a.f_law a.d_law ["_law_script"] (sp_law K) := by
  refine T.fn_law.ok sc_law (fun vs H Q E h => ?_) (fun cdv A outer s H vs Q E hr h => ⟨_, tm_law T hr, ?_⟩)
  · obtain ⟨p, ns, rfl, _⟩ := h; rfl
  · obtain ⟨p, ns, rfl, hS, hl, k⟩ := h
    show rd_law a K _ [some (.ref p), none, none, none, none, none, none, none, none, none, none, none] H
    unfold rd_law
    have hbig := size_big
    walk_at "gs"
    refine ⟨p, ns, 0, rfl, hS, by decide, fun c0 => ?_⟩
    walk_at "gs"
    obtain ⟨many, hmany⟩ := Int.eq_ofNat_of_zero_le (by omega : 0 ≤ 1 + c0 % 10)
    rw [hmany]
    refine ⟨_, hS, fun rc H1 nc1 => ?_⟩
    obtain ⟨cs, hcs, hcl⟩ := cut3 ns hl
    rw [hcs] at nc1
    walk_at "gs"
    refine ⟨p, ns, 1, rfl, nc1.same.seq hS, by decide, fun c1 => ?_⟩
    walk_at "gs"
    refine ⟨p, ns, 2, rfl, nc1.same.seq hS, by decide, fun c2 => ?_⟩
    walk_at "gs"
    refine ⟨many, rc, cs, c1, c2, rfl, by omega, by omega, nc1.sq, hcl, fun ins gs outs pn H2 W hil s12 hN => ?_⟩
    have s2 := nc1.same.trans s12
    have i1 := W.i1
    have gl := W.gl
    have o1 := W.o1
    obtain ⟨pa, pb, pc, ts, h0, hA, hB, hG, hC⟩ := id hN
    have n0 : ∀ {H' : Hp} {F : V → Prop}, Same H2 H' → F (.ref pa) → ∃ xs v, (SqL K H' pn xs ∨ SqT K H' pn xs) ∧ atI xs 0 = some v ∧ F v := fun s f => ⟨_, _, .inr (s.tup h0), rfl, f⟩
    have n1 : ∀ {H' : Hp} {F : V → Prop}, Same H2 H' → F (.ref pb) → ∃ xs v, (SqL K H' pn xs ∨ SqT K H' pn xs) ∧ atI xs 1 = some v ∧ F v := fun s f => ⟨_, _, .inr (s.tup h0), rfl, f⟩
    have n2 : ∀ {H' : Hp} {F : V → Prop}, Same H2 H' → F (.ref pc) → ∃ xs v, (SqL K H' pn xs ∨ SqT K H' pn xs) ∧ atI xs 2 = some v ∧ F v := fun s f => ⟨_, _, .inr (s.tup h0), rfl, f⟩
    walk_at "gs"
    refine n1 (Same.refl _) ?_
    walk_at "gs"
    refine ⟨⟨_, hB⟩, fun pg hpg => comp_gen (n := ts.length) (item := fun i => ts.getD i .non) (fun σ => σ.length = 3) (fun i H3 => ∃ us, H3 pg = some (.lst us) ∧ us.length = i ∧ Same H2 H3 ∧ ∀ j g, j < i → gs[j]? = some g → ∃ t q, us[j]? = some (.ref t) ∧ t ≠ pg ∧ q ≠ pg ∧ H2 t = none ∧ H2 q = none ∧ H3 t = some (.tup [.str g.1, .str g.2.1, .ref q]) ∧ H3 q = some (.lst (g.2.2.map V.str))) rfl ⟨[], upd_same, rfl, same_upd hpg, fun j g hj => absurd hj (by omega)⟩ (src_list ?_) ?_ ?_ ?_⟩
    · rintro i H3 hi ⟨us, h1, h2, s3, h4⟩
      exact s3.seq hB
    · rintro H3 ⟨us, h1, h2, s3, h4⟩
      exact ⟨ts, s3.seq hB, Nat.le_refl _⟩
    · rintro i σ3 H3 R hi hσ ⟨us, h1, h2, s3, h4⟩ hR
      have hi' : i < gs.length := by rw [← hG.1]; exact hi
      obtain ⟨t, qq, e1, _, _, e2, e3⟩ := hG.2 i gs[i] (by simp [hi'])
      have et : ts.getD i .non = .ref t := by simp [List.getD, e1]
      obtain ⟨w1, w2, w3, rfl⟩ : ∃ w1 w2 w3, σ3 = [w1, w2, w3] := by
        match σ3, hσ with
        | [w1, w2, w3], _ => exact ⟨w1, w2, w3, rfl⟩
      rw [et]
      walk_at "gs"
      refine ⟨t, _, rfl, s3.tup e2, rfl, _, _, rfl, _, _, rfl, _, _, rfl, rfl, ?_⟩
      unfold tTrue
      walk_at "gs"
      refine ⟨_, .inl (s3.seq e3), fun q4 H4 n4 => ?_⟩
      walk_at "gs"
      refine ⟨by show 3 ≤ sizeLine; decide, fun t5 H5 n5 => ?_⟩
      have hp5 := n5.same _ _ (n4.same _ _ h1)
      have npt : t5 ≠ pg := fun e => by have := n5.was; rw [e, n4.same _ _ h1] at this; cases this
      have npq : q4 ≠ pg := fun e => by have := n4.was; rw [e, h1] at this; cases this
      refine ⟨us, hp5, Nat.lt_of_lt_of_le (by omega) hbig, hR _ _ rfl ⟨us ++ [.ref t5], upd_same, by rw [List.length_append, h2]; rfl, ((s3.trans n4.same).trans n5.same).put hpg, fun j g hj hg => ?_⟩⟩
      by_cases hji : j < i
      · obtain ⟨t', q', f1, m1, m2, z1, z2, f2, f3⟩ := h4 j g hji hg
        refine ⟨t', q', by rw [List.getElem?_append_left (by omega)]; exact f1, m1, m2, z1, z2, ?_, ?_⟩
        · rw [upd_ne m1]; exact n5.same _ _ (n4.same _ _ f2)
        · rw [upd_ne m2]; exact n5.same _ _ (n4.same _ _ f3)
      · have hj' : j = i := by omega
        subst hj'
        have eg : g = gs[j] := by simpa [hi'] using hg.symm
        subst eg
        refine ⟨t5, q4, by rw [← h2]; simp, npt, npq, (s3.trans n4.same).free n5.was, s3.free n4.was, ?_, ?_⟩
        · rw [upd_ne npt]; exact n5.at_
        · rw [upd_ne npq]; exact n5.same _ _ n4.at_
    · rintro H3 ⟨us, h1, h2, s3, h4⟩
      have hul : us.length = gs.length := by rw [h2]; exact hG.1
      walk_at "gs"
      refine n0 s3 ?_
      walk_at "gs"
      refine ⟨_, .inl (s3.seq hA), fun qa H4 na => ?_⟩
      walk_at "gs"
      have s4 := s3.trans na.same
      refine n2 s4 ?_
      walk_at "gs"
      refine ⟨_, .inl (s4.seq hC), fun qc H5 nc => ?_⟩
      walk_at "gs"
      have s5 := s4.trans nc.same
      refine ⟨by show 3 ≤ sizeLine; decide, fun ph H6 nh => ?_⟩
      have s6 := s5.trans nh.same
      have aa6 : H6 qa = some (.lst (ins.map V.str)) := nh.same _ _ (nc.same _ _ na.at_)
      have ac6 : H6 qc = some (.lst (outs.map V.str)) := nh.same _ _ nc.at_
      have ag6 : H6 pg = some (.lst us) := nh.same _ _ (nc.same _ _ (na.same _ _ h1))
      have d6 : ∀ (j : Nat) (g : Gt), gs[j]? = some g → ∃ t q, us[j]? = some (.ref t) ∧ (q ≠ pg ∧ q ≠ qa ∧ q ≠ qc ∧ q ≠ ph) ∧ H2 q = none ∧ H6 t = some (.tup [.str g.1, .str g.2.1, .ref q]) ∧ H6 q = some (.lst (g.2.2.map V.str)) := fun j g hg => by
        have hj : j < ts.length := by rw [hG.1]; exact (List.getElem?_eq_some_iff.mp hg).1
        obtain ⟨t', q', f1, m1, m2, z1, z2, f2, f3⟩ := h4 j g hj hg
        exact ⟨t', q', f1, ⟨m2, ne_of_none f3 na.was, ne_of_none (na.same _ _ f3) nc.was, ne_of_none (nc.same _ _ (na.same _ _ f3)) nh.was⟩, z2, nh.same _ _ (nc.same _ _ (na.same _ _ f2)), nh.same _ _ (nc.same _ _ (na.same _ _ f3))⟩
      have hGs6 : GtsAt (fun _ => True) K H6 us gs := ⟨hul, fun j g hg => by
        obtain ⟨t', q', f1, z1, z2, f2, f3⟩ := d6 j g hg
        exact ⟨t', q', f1, True.intro, True.intro, .of f2, .of f3⟩⟩
      have fra : H2 qa = none := s3.free na.was
      have frc : H2 qc = none := s4.free nc.was
      have frh : H2 ph = none := s5.free nh.was
      have m0 : ∀ {H' : Hp} {F : V → Prop}, H' ph = some (.lst [.ref qa, .ref pg, .ref qc]) → F (.ref qa) → ∃ xs v, (SqL K H' ph xs ∨ SqT K H' ph xs) ∧ atI xs 0 = some v ∧ F v := fun s f => ⟨_, _, .inl (.of s), rfl, f⟩
      have m1 : ∀ {H' : Hp} {F : V → Prop}, H' ph = some (.lst [.ref qa, .ref pg, .ref qc]) → F (.ref pg) → ∃ xs v, (SqL K H' ph xs ∨ SqT K H' ph xs) ∧ atI xs 1 = some v ∧ F v := fun s f => ⟨_, _, .inl (.of s), rfl, f⟩
      have m2 : ∀ {H' : Hp} {F : V → Prop}, H' ph = some (.lst [.ref qa, .ref pg, .ref qc]) → F (.ref qc) → ∃ xs v, (SqL K H' ph xs ∨ SqT K H' ph xs) ∧ atI xs 2 = some v ∧ F v := fun s f => ⟨_, _, .inl (.of s), rfl, f⟩
      walk_at "gs"
      refine m0 nh.at_ (m1 nh.at_ (m2 nh.at_ fun x dx fx fdx nex => ?_))
      have nxo : ∀ {b : Addr} {o : HO}, H6 b = some o → b ≠ x ∧ b ≠ dx := fun e => ⟨ne_of_none e fx, ne_of_none e fdx⟩
      have s7 : Same H6 (upd (upd H6 dx (.own x)) x (.ins a.c_Net dx [])) := fun b o e => by rw [upd_ne (nxo e).1, upd_ne (nxo e).2]; exact e
      refine ⟨x, dx, qa, pg, qc, ins, gs, outs, us, rfl, upd_same, .of (s7 _ _ aa6), .of (s7 _ _ ag6), hGs6.same s7, .of (s7 _ _ ac6), by omega, by omega, by omega, fun H8 k8 hO8 => ⟨rfl, ?_⟩⟩
      have s8 : Same H6 H8 := fun b o e => k8 b o (nxo e).1 (s7 b o e)
      have s28 := s6.trans s8
      walk_at "gs"
      have frg : H2 pg = none := hpg
      have hand8 : Handed (fun q => q ≠ pg ∧ q ≠ qa ∧ q ≠ qc ∧ q ≠ ph) H2 H8 us gs := ⟨hul, fun j g hg => by
        obtain ⟨t', q', f1, z1, z2, f2, f3⟩ := d6 j g hg
        exact ⟨t', q', f1, z1, z2, s8 _ _ f2, _, s8 _ _ f3⟩⟩
      have pha : ph ≠ qa := Ne.symm (ne_of_none (nc.same _ _ na.at_) nh.was)
      have phg : ph ≠ pg := Ne.symm (ne_of_none (nc.same _ _ (na.same _ _ h1)) nh.was)
      have phc : ph ≠ qc := Ne.symm (ne_of_none nc.at_ nh.was)
      refine ⟨⟨_, .of (s8 _ _ ag6)⟩, for_listG (xs := us) (fun i σ H9 => Same H2 H9 ∧ H9 pg = some (.lst us) ∧ H9 ph = some (.lst [.ref qa, .ref pg, .ref qc]) ∧ (∃ xs, H9 qa = some (.lst xs)) ∧ (∃ xs, H9 qc = some (.lst xs)) ∧ Handed (fun q => q ≠ pg ∧ q ≠ qa ∧ q ≠ qc ∧ q ≠ ph) H2 H9 us gs ∧ NetO a H9 x ins gs outs ∧
        ∃ v8 v9 v10, σ = [some (.ref p), some (.int many), some (.ref pn), some (.ref pg), some (.ref ph), some (.ref x), v8, v9, v10, none, none, none])
        ⟨s28, s8 _ _ ag6, s8 _ _ nh.at_, ⟨_, s8 _ _ aa6⟩, ⟨_, s8 _ _ ac6⟩, hand8, hO8, _, _, _, rfl⟩ ?_ ?_ ?_⟩
      · rintro i σ H9 _ ⟨_, g9, _⟩
        exact .of g9
      · rintro i u σ H9 hu ⟨s9, g9, p9, ⟨xa, a9⟩, ⟨xc, c9⟩, hd9, o9, v8, v9, v10, rfl⟩
        have hi : i < gs.length := by rw [← hul]; exact (List.getElem?_eq_some_iff.mp hu).1
        obtain ⟨t, q', f1, ⟨z1, z2, z3, z4⟩, zz, f2, ys, f3⟩ := hd9.at_ i gs[i] (by simp [hi])
        rw [hu] at f1
        cases f1
        walk_at "gs"
        refine ⟨t, _, rfl, .of f2, rfl, _, _, rfl, _, _, rfl, _, _, rfl, rfl, ?_⟩
        walk_at "gs"
        refine ⟨.inl ⟨by trivial, _, .of f3⟩, q', _, rfl, by trivial, f3, s9.put zz, by rw [upd_ne (Ne.symm z1)]; exact g9, by rw [upd_ne (Ne.symm z4)]; exact p9, ⟨_, by rw [upd_ne (Ne.symm z2)]; exact a9⟩, ⟨_, by rw [upd_ne (Ne.symm z3)]; exact c9⟩, ?_, o9.sameN (SameN.clear f3), _, _, _, rfl⟩
        refine ⟨hd9.len, fun j g hg => ?_⟩
        obtain ⟨t2, q2, e1, e2, e3, e4, zs, e5⟩ := hd9.at_ j g hg
        refine ⟨t2, q2, e1, e2, e3, ?_, ?_⟩
        · rw [upd_ne (ne_of e4 f3 (fun z => nomatch z))]; exact e4
        · by_cases e : q2 = q'
          · rw [e, upd_same]; exact ⟨_, rfl⟩
          · rw [upd_ne e]; exact ⟨_, e5⟩
      rintro σ H9 ⟨s9, g9, p9, a9, c9, hd9, o9, v8, v9, v10, rfl⟩
      walk_at "gs"
      refine ⟨⟨_, .of p9⟩, for_listG (xs := [.ref qa, .ref pg, .ref qc]) (fun i σ H10 => Same H2 H10 ∧ H10 ph = some (.lst [.ref qa, .ref pg, .ref qc]) ∧ (∃ xs, H10 qa = some (.lst xs)) ∧ (∃ xs, H10 pg = some (.lst xs)) ∧ (∃ xs, H10 qc = some (.lst xs)) ∧ NetO a H10 x ins gs outs ∧
        ∃ v11, σ = [some (.ref p), some (.int many), some (.ref pn), some (.ref pg), some (.ref ph), some (.ref x), v8, v9, v10, v11, none, none])
        ⟨s9, p9, a9, ⟨_, g9⟩, c9, o9, _, rfl⟩ ?_ ?_ ?_⟩
      · rintro i σ H10 _ ⟨_, p10, _⟩
        exact .of p10
      · rintro i u σ H10 hu ⟨s10, p10, a10, g10, c10, o10, v11, rfl⟩
        obtain ⟨r, hr, frr, nph, ys, hys⟩ : ∃ r, u = .ref r ∧ H2 r = none ∧ ph ≠ r ∧ ∃ ys, H10 r = some (.lst ys) := by
          match i, hu with
          | 0, hu => cases hu; exact ⟨qa, rfl, fra, pha, a10⟩
          | 1, hu => cases hu; exact ⟨pg, rfl, frg, phg, g10⟩
          | 2, hu => cases hu; exact ⟨qc, rfl, frc, phc, c10⟩
          | i + 3, hu => exact absurd hu (by simp)
        subst hr
        have some_ : ∀ {b : Addr}, (∃ xs, H10 b = some (.lst xs)) → ∃ xs, upd H10 r (.lst []) b = some (.lst xs) := fun {b} hb => by
          by_cases e : b = r
          · rw [e, upd_same]; exact ⟨_, rfl⟩
          · rw [upd_ne e]; exact hb
        walk_at "gs"
        exact ⟨.inl ⟨by trivial, _, .of hys⟩, r, _, rfl, by trivial, hys, s10.put frr, by rw [upd_ne nph]; exact p10, some_ a10, some_ g10, some_ c10, o10.sameN (SameN.clear hys), _, rfl⟩
      rintro σ H10 ⟨s10, p10, a10, g10, c10, o10, v11, rfl⟩
      walk_at "gs"
      refine ⟨pn, ins, gs, outs, rfl, hN.same s10, W.small, fun rd H11 n11 => ?_⟩
      walk_at "gs"
      refine ⟨x, ins, gs, outs, rfl, o10.sameN n11.same.n, W.small, fun rf H12 n12 => ?_⟩
      walk_at "gs"
      have il := W.small.il
      have gl' := W.small.gl
      have hnl : (netL ins gs outs).length ≤ 200 := by unfold netL; simp only [List.length_cons, List.length_append, List.length_map, List.length_nil]; omega
      have ad := n12.same _ _ n11.at_
      refine ⟨rf, rd, netL ins gs outs, rfl, n12.at_, .of ad, by omega, ?_⟩
      walk_at "gs"
      have nrd : rd ≠ rf := fun e => by have := n12.was; rw [← e, n11.at_] at this; cases this
      refine ⟨.inl ⟨by trivial, _, .of n12.at_⟩, rf, _, rfl, by trivial, n12.at_, ?_⟩
      walk_at "gs"
      have u12 : upd H12 rf (.lst []) rd = some (.lst ((netL ins gs outs).map V.str)) := by rw [upd_ne nrd]; exact ad
      refine ⟨x, ins, gs, outs, rfl, (o10.sameN (n11.same.trans n12.same).n).sameN (SameN.clear n12.at_), W.small, fun rg H13 n13 => ?_⟩
      walk_at "gs"
      refine ⟨rg, rd, netL ins gs outs, rfl, n13.at_, .of (n13.same _ _ u12), by omega, ?_⟩
      walk_at "gs"
      exact k _

end K06

set_option maxHeartbeats 4000000
namespace K06
open PySem PySem.Spec PyProof.Rows L2 GM
seal PE PT PS PSs PA PG PGs PI PO PW PTs PPs PK PC PSet PIp OpR UnR CallR IxR SlR MtR MtM
theorem all_mk {l : PySem.W.OpenLaw} {w : World} {K : PySem.W.Frag} {h : Heap} {mg : Str → Option Value} {fa : Addr} (X : K.In h) (G : h.Ns mainGlobals mg) (hfa : mg "law" = some (.ref fa))
    {f0 : Addr} {od0 an0 : Option Addr} {sl0 : Array (Option Value)} {oc0 kV0 dc0 pm0 cd0 ct0 : Value} {f1 : Addr} {od1 an1 : Option Addr} {sl1 : Array (Option Value)} {oc1 kV1 dc1 pm1 cd1 ct1 : Value} {f2 : Addr} {od2 an2 : Option Addr} {sl2 : Array (Option Value)} {oc2 kV2 dc2 pm2 cd2 ct2 : Value} {f3 : Addr} {od3 an3 : Option Addr} {sl3 : Array (Option Value)} {oc3 kV3 dc3 pm3 cd3 ct3 : Value} {f4 : Addr} {od4 an4 : Option Addr} {sl4 : Array (Option Value)} {oc4 kV4 dc4 pm4 cd4 ct4 : Value} {f5 : Addr} {od5 an5 : Option Addr} {sl5 : Array (Option Value)} {oc5 kV5 dc5 pm5 cd5 ct5 : Value} {f6 : Addr} {od6 an6 : Option Addr} {sl6 : Array (Option Value)} {oc6 kV6 dc6 pm6 cd6 ct6 : Value} {f7 : Addr} {od7 an7 : Option Addr} {sl7 : Array (Option Value)} {oc7 kV7 dc7 pm7 cd7 ct7 : Value} {f8 : Addr} {od8 an8 : Option Addr} {sl8 : Array (Option Value)} {oc8 kV8 dc8 pm8 cd8 ct8 : Value} {f9 : Addr} {od9 an9 : Option Addr} {sl9 : Array (Option Value)} {oc9 kV9 dc9 pm9 cd9 ct9 : Value} {f10 : Addr} {od10 an10 : Option Addr} {sl10 : Array (Option Value)} {oc10 kV10 dc10 pm10 cd10 ct10 : Value} {f11 : Addr} {od11 an11 : Option Addr} {sl11 : Array (Option Value)} {oc11 kV11 dc11 pm11 cd11 ct11 : Value} {f12 : Addr} {od12 an12 : Option Addr} {sl12 : Array (Option Value)} {oc12 kV12 dc12 pm12 cd12 ct12 : Value} {f13 : Addr} {od13 an13 : Option Addr} {sl13 : Array (Option Value)} {oc13 kV13 dc13 pm13 cd13 ct13 : Value} {f14 : Addr} {od14 an14 : Option Addr} {sl14 : Array (Option Value)} {oc14 kV14 dc14 pm14 cd14 ct14 : Value} {f15 : Addr} {od15 an15 : Option Addr} {sl15 : Array (Option Value)} {oc15 kV15 dc15 pm15 cd15 ct15 : Value} {C_Net : Addr}
    (aC_Net : PySem.W.nsIn K mainGlobals "Net" = some (some (.ref C_Net)))
    (a0 : PySem.W.nsIn K mainGlobals "_wall" = some (some (.ref f0)))
    (l0 : K.lookup f0 = some ⟨oc0, od0, .func (PySem.W.fnOf "_wall" "_wall" (defArgs s_wall) (defBody s_wall) (defScope s_wall) .none kV0 dc0 pm0 an0 cd0 ct0), sl0⟩)
    (c0 : PySem.W.codeIn K cd0 "_wall" = true)
    (k0 : PySem.W.keepIn K (.ref f0) = true)
    (a1 : PySem.W.findIn K (.ref C_Net) "__init__" = some (some (.ref f1)))
    (i1 : PySem.W.isFn K (.ref f1) = true)
    (l1 : K.lookup f1 = some ⟨oc1, od1, .func (PySem.W.fnOf "__init__" "Net.__init__" (defArgs s_Net___init__) (defBody s_Net___init__) (defScope s_Net___init__) .none kV1 dc1 pm1 an1 cd1 ct1), sl1⟩)
    (c1 : PySem.W.codeIn K cd1 "Net.__init__" = true)
    (k1 : PySem.W.keepIn K (.ref f1) = true)
    (a2 : PySem.W.findIn K (.ref C_Net) "told" = some (some (.ref f2)))
    (i2 : PySem.W.isFn K (.ref f2) = true)
    (l2 : K.lookup f2 = some ⟨oc2, od2, .func (PySem.W.fnOf "told" "Net.told" (defArgs s_Net_told) (defBody s_Net_told) (defScope s_Net_told) .none kV2 dc2 pm2 an2 cd2 ct2), sl2⟩)
    (c2 : PySem.W.codeIn K cd2 "Net.told" = true)
    (k2 : PySem.W.keepIn K (.ref f2) = true)
    (a3 : PySem.W.findIn K (.ref C_Net) "columns" = some (some (.ref f3)))
    (i3 : PySem.W.isFn K (.ref f3) = true)
    (l3 : K.lookup f3 = some ⟨oc3, od3, .func (PySem.W.fnOf "columns" "Net.columns" (defArgs s_Net_columns) (defBody s_Net_columns) (defScope s_Net_columns) .none kV3 dc3 pm3 an3 cd3 ct3), sl3⟩)
    (c3 : PySem.W.codeIn K cd3 "Net.columns" = true)
    (k3 : PySem.W.keepIn K (.ref f3) = true)
    (a4 : PySem.W.findIn K (.ref C_Net) "carried" = some (some (.ref f4)))
    (i4 : PySem.W.isFn K (.ref f4) = true)
    (l4 : K.lookup f4 = some ⟨oc4, od4, .func (PySem.W.fnOf "carried" "Net.carried" (defArgs s_Net_carried) (defBody s_Net_carried) (defScope s_Net_carried) .none kV4 dc4 pm4 an4 cd4 ct4), sl4⟩)
    (c4 : PySem.W.codeIn K cd4 "Net.carried" = true)
    (k4 : PySem.W.keepIn K (.ref f4) = true)
    (a5 : PySem.W.nsIn K mainGlobals "written" = some (some (.ref f5)))
    (l5 : K.lookup f5 = some ⟨oc5, od5, .func (PySem.W.fnOf "written" "written" (defArgs s_written) (defBody s_written) (defScope s_written) .none kV5 dc5 pm5 an5 cd5 ct5), sl5⟩)
    (c5 : PySem.W.codeIn K cd5 "written" = true)
    (k5 : PySem.W.keepIn K (.ref f5) = true)
    (a6 : PySem.W.nsIn K mainGlobals "_law_cell_at" = some (some (.ref f6)))
    (l6 : K.lookup f6 = some ⟨oc6, od6, .func (PySem.W.fnOf "_law_cell_at" "_law_cell_at" (defArgs s_law_cell_at) (defBody s_law_cell_at) (defScope s_law_cell_at) .none kV6 dc6 pm6 an6 cd6 ct6), sl6⟩)
    (c6 : PySem.W.codeIn K cd6 "_law_cell_at" = true)
    (k6 : PySem.W.keepIn K (.ref f6) = true)
    (a7 : PySem.W.nsIn K mainGlobals "_law_letters" = some (some (.ref f7)))
    (l7 : K.lookup f7 = some ⟨oc7, od7, .func (PySem.W.fnOf "_law_letters" "_law_letters" (defArgs s_law_letters) (defBody s_law_letters) (defScope s_law_letters) .none kV7 dc7 pm7 an7 cd7 ct7), sl7⟩)
    (c7 : PySem.W.codeIn K cd7 "_law_letters" = true)
    (k7 : PySem.W.keepIn K (.ref f7) = true)
    (a8 : PySem.W.nsIn K mainGlobals "_law_next" = some (some (.ref f8)))
    (l8 : K.lookup f8 = some ⟨oc8, od8, .func (PySem.W.fnOf "_law_next" "_law_next" (defArgs s_law_next) (defBody s_law_next) (defScope s_law_next) .none kV8 dc8 pm8 an8 cd8 ct8), sl8⟩)
    (c8 : PySem.W.codeIn K cd8 "_law_next" = true)
    (k8 : PySem.W.keepIn K (.ref f8) = true)
    (a9 : PySem.W.nsIn K mainGlobals "_law_one_name" = some (some (.ref f9)))
    (l9 : K.lookup f9 = some ⟨oc9, od9, .func (PySem.W.fnOf "_law_one_name" "_law_one_name" (defArgs s_law_one_name) (defBody s_law_one_name) (defScope s_law_one_name) .none kV9 dc9 pm9 an9 cd9 ct9), sl9⟩)
    (c9 : PySem.W.codeIn K cd9 "_law_one_name" = true)
    (k9 : PySem.W.keepIn K (.ref f9) = true)
    (a10 : PySem.W.nsIn K mainGlobals "_law_all_names" = some (some (.ref f10)))
    (l10 : K.lookup f10 = some ⟨oc10, od10, .func (PySem.W.fnOf "_law_all_names" "_law_all_names" (defArgs s_law_all_names) (defBody s_law_all_names) (defScope s_law_all_names) .none kV10 dc10 pm10 an10 cd10 ct10), sl10⟩)
    (c10 : PySem.W.codeIn K cd10 "_law_all_names" = true)
    (k10 : PySem.W.keepIn K (.ref f10) = true)
    (a11 : PySem.W.nsIn K mainGlobals "_law_drawn_gate" = some (some (.ref f11)))
    (l11 : K.lookup f11 = some ⟨oc11, od11, .func (PySem.W.fnOf "_law_drawn_gate" "_law_drawn_gate" (defArgs s_law_drawn_gate) (defBody s_law_drawn_gate) (defScope s_law_drawn_gate) .none kV11 dc11 pm11 an11 cd11 ct11), sl11⟩)
    (c11 : PySem.W.codeIn K cd11 "_law_drawn_gate" = true)
    (k11 : PySem.W.keepIn K (.ref f11) = true)
    (a12 : PySem.W.nsIn K mainGlobals "_law_drawn" = some (some (.ref f12)))
    (l12 : K.lookup f12 = some ⟨oc12, od12, .func (PySem.W.fnOf "_law_drawn" "_law_drawn" (defArgs s_law_drawn) (defBody s_law_drawn) (defScope s_law_drawn) .none kV12 dc12 pm12 an12 cd12 ct12), sl12⟩)
    (c12 : PySem.W.codeIn K cd12 "_law_drawn" = true)
    (k12 : PySem.W.keepIn K (.ref f12) = true)
    (a13 : PySem.W.nsIn K mainGlobals "_law_due_lines" = some (some (.ref f13)))
    (l13 : K.lookup f13 = some ⟨oc13, od13, .func (PySem.W.fnOf "_law_due_lines" "_law_due_lines" (defArgs s_law_due_lines) (defBody s_law_due_lines) (defScope s_law_due_lines) .none kV13 dc13 pm13 an13 cd13 ct13), sl13⟩)
    (c13 : PySem.W.codeIn K cd13 "_law_due_lines" = true)
    (k13 : PySem.W.keepIn K (.ref f13) = true)
    (a14 : PySem.W.nsIn K mainGlobals "_law_same" = some (some (.ref f14)))
    (l14 : K.lookup f14 = some ⟨oc14, od14, .func (PySem.W.fnOf "_law_same" "_law_same" (defArgs s_law_same) (defBody s_law_same) (defScope s_law_same) .none kV14 dc14 pm14 an14 cd14 ct14), sl14⟩)
    (c14 : PySem.W.codeIn K cd14 "_law_same" = true)
    (k14 : PySem.W.keepIn K (.ref f14) = true)
    (a15 : PySem.W.nsIn K mainGlobals "law" = some (some (.ref f15)))
    (l15 : K.lookup f15 = some ⟨oc15, od15, .func (PySem.W.fnOf "law" "law" (defArgs s_law) (defBody s_law) (defScope s_law) .none kV15 dc15 pm15 an15 cd15 ct15), sl15⟩)
    (c15 : PySem.W.codeIn K cd15 "law" = true)
    (k15 : PySem.W.keepIn K (.ref f15) = true)
    (pg_Net : PySem.W.plainGet K C_Net Str.empty = true)
    (hd_Net : PySem.W.hasDictIn K C_Net = true)
    (po_Net : PySem.W.plainOver K C_Net = true)
    (sa_Net : PySem.W.findIn K (.ref C_Net) "__setattr__" = some (some (.builtin "object.__setattr__")))
    (mk_Net : PySem.W.makesIn K C_Net = true)
    (kc_Net : PySem.W.keepIn K (.ref C_Net) = true)
    (n_Net_inputs : PySem.W.findIn K (.ref C_Net) "inputs" = some none)
    (n_Net_gates : PySem.W.findIn K (.ref C_Net) "gates" = some none)
    (n_Net_outputs : PySem.W.findIn K (.ref C_Net) "outputs" = some none)
    (z_isinstance : PySem.W.nsIn K mainGlobals "isinstance" = some none)
    (z_len : PySem.W.nsIn K mainGlobals "len" = some none)
    (z_list : PySem.W.nsIn K mainGlobals "list" = some none)
    (z_min : PySem.W.nsIn K mainGlobals "min" = some none)
    (z_range : PySem.W.nsIn K mainGlobals "range" = some none)
    (z_str : PySem.W.nsIn K mainGlobals "str" = some none)
    (z_tuple : PySem.W.nsIn K mainGlobals "tuple" = some none) :
    ∃ fd : FuncData, (∀ (s : Shared) (v : Value), BindsTo s fd ⟨[v], []⟩ [("_law_script", v)]) ∧ ∀ base : Heap, K.In base → base.Ns mainGlobals mg → FnOk l.prog w K mg base CX0 5 fa fd ["_law_script"] (sp_law K) := by
  have e := hfa.symm.trans (PySem.W.mg_of X G a15)
  cases e
  have F0 := fun_mk (st := s_wall) l0 c0 k0
  have B0 := F0.binds (ps := ["k"]) fun _ _ _ _ _ _ us hl => match us, hl with | [_], _ => rfl
  have F1 := fun_mk (st := s_Net___init__) l1 c1 k1
  have B1 := F1.binds (ps := ["self", "inputs", "gates", "outputs"]) fun _ _ _ _ _ _ us hl => match us, hl with | [_, _, _, _], _ => rfl
  have F2 := fun_mk (st := s_Net_told) l2 c2 k2
  have B2 := F2.binds (ps := ["self", "truths"]) fun _ _ _ _ _ _ us hl => match us, hl with | [_, _], _ => rfl
  have F3 := fun_mk (st := s_Net_columns) l3 c3 k3
  have B3 := F3.binds (ps := ["self"]) fun _ _ _ _ _ _ us hl => match us, hl with | [_], _ => rfl
  have F4 := fun_mk (st := s_Net_carried) l4 c4 k4
  have B4 := F4.binds (ps := ["self", "columns", "every"]) fun _ _ _ _ _ _ us hl => match us, hl with | [_, _, _], _ => rfl
  have F5 := fun_mk (st := s_written) l5 c5 k5
  have B5 := F5.binds (ps := ["net"]) fun _ _ _ _ _ _ us hl => match us, hl with | [_], _ => rfl
  have F6 := fun_mk (st := s_law_cell_at) l6 c6 k6
  have B6 := F6.binds (ps := ["_law_script", "_law_k"]) fun _ _ _ _ _ _ us hl => match us, hl with | [_, _], _ => rfl
  have F7 := fun_mk (st := s_law_letters) l7 c7 k7
  have B7 := F7.binds (ps := ["_law_seed", "_law_size"]) fun _ _ _ _ _ _ us hl => match us, hl with | [_, _], _ => rfl
  have F8 := fun_mk (st := s_law_next) l8 c8 k8
  have B8 := F8.binds (ps := ["_law_name"]) fun _ _ _ _ _ _ us hl => match us, hl with | [_], _ => rfl
  have F9 := fun_mk (st := s_law_one_name) l9 c9 k9
  have B9 := F9.binds (ps := ["_law_k", "_law_cell"]) fun _ _ _ _ _ _ us hl => match us, hl with | [_, _], _ => rfl
  have F10 := fun_mk (st := s_law_all_names) l10 c10 k10
  have B10 := F10.binds (ps := ["_law_count", "_law_cell"]) fun _ _ _ _ _ _ us hl => match us, hl with | [_, _], _ => rfl
  have F11 := fun_mk (st := s_law_drawn_gate) l11 c11 k11
  have B11 := F11.binds (ps := ["_law_name", "_law_known", "_law_cell"]) fun _ _ _ _ _ _ us hl => match us, hl with | [_, _, _], _ => rfl
  have F12 := fun_mk (st := s_law_drawn) l12 c12 k12
  have B12 := F12.binds (ps := ["_law_many", "_law_cells", "_law_cell", "_law_outs"]) fun _ _ _ _ _ _ us hl => match us, hl with | [_, _, _, _], _ => rfl
  have F13 := fun_mk (st := s_law_due_lines) l13 c13 k13
  have B13 := F13.binds (ps := ["_law_net"]) fun _ _ _ _ _ _ us hl => match us, hl with | [_], _ => rfl
  have F14 := fun_mk (st := s_law_same) l14 c14 k14
  have B14 := F14.binds (ps := ["_law_found", "_law_due"]) fun _ _ _ _ _ _ us hl => match us, hl with | [_, _], _ => rfl
  have F15 := fun_mk (st := s_law) l15 c15 k15
  have B15 := F15.binds (ps := ["_law_script"]) fun _ _ _ _ _ _ us hl => match us, hl with | [_], _ => rfl
  have T : Txt K mg ⟨f0, _, f1, _, f2, _, f3, _, f4, _, f5, _, f6, _, f7, _, f8, _, f9, _, f10, _, f11, _, f12, _, f13, _, f14, _, _, _, C_Net⟩ := ⟨PySem.W.mg_of X G a0, F0, B0, F1, B1, F2, B2, ⟨a2, i2, k2⟩, F3, B3, ⟨a3, i3, k3⟩, F4, B4, ⟨a4, i4, k4⟩, PySem.W.mg_of X G a5, F5, B5, PySem.W.mg_of X G a6, F6, B6, PySem.W.mg_of X G a7, F7, B7, PySem.W.mg_of X G a8, F8, B8, PySem.W.mg_of X G a9, F9, B9, PySem.W.mg_of X G a10, F10, B10, PySem.W.mg_of X G a11, F11, B11, PySem.W.mg_of X G a12, F12, B12, PySem.W.mg_of X G a13, F13, B13, PySem.W.mg_of X G a14, F14, B14, PySem.W.mg_of X G a15, F15, B15, PySem.W.mg_of X G aC_Net, ⟨pg_Net, hd_Net, po_Net, sa_Net⟩, ⟨mk_Net, a1, i1, kc_Net⟩, n_Net_inputs, n_Net_gates, n_Net_outputs, PySem.W.mg_none_of X G z_isinstance, PySem.W.mg_none_of X G z_len, PySem.W.mg_none_of X G z_list, PySem.W.mg_none_of X G z_min, PySem.W.mg_none_of X G z_range, PySem.W.mg_none_of X G z_str, PySem.W.mg_none_of X G z_tuple⟩
  exact ⟨_, fun s v => .of_eq rfl, fun base _ _ => ok_law T⟩
theorem walk {l : PySem.W.OpenLaw} {q : Program} {loose : List Str} {XP : (Str → Option Value) → Heap → Prop} {YP : World → Heap → Prop} {d : DefRec} {K : Params → PySem.W.Frag} (hn : l.most = some 63) (hdf : d.params.defaults = [])
    (hY : ∀ (w : World) (h : Heap), YP w h → (K w.params).In h)
    (F : ∀ (w : World) (mg : Str → Option Value) (fa : Addr) (h : Heap), (K w.params).In h → h.Ns mainGlobals mg → mg d.name = some (.ref fa) →
      ∃ fd : FuncData, (∀ (s : Shared) (u : Value), BindsTo s fd ⟨[u], []⟩ [("_law_script", u)]) ∧ ∀ base : Heap, (K w.params).In base → base.Ns mainGlobals mg → FnOk l.prog w (K w.params) mg base CX0 5 fa fd ["_law_script"] (sp_law (K w.params))) :
    PySem.W.WalkO q loose XP YP l.row.toRowW d [] (fun f vs => PySem.call f vs) :=
  L2.walk_of (n := 63) (k := 5) (x := "_law_script") (CX := fun _ => CX0) (sp := fun w => sp_law (K w.params)) hn (by decide) hdf ⟨rfl, by decide, by decide⟩ hY F (fun _ _ a ns hl _ hS => ⟨a, ns, rfl, hS, hl, fun _ => rfl⟩) fun _ _ _ _ _ z => z
end K06
open PySem PySem.W PyProof.Rows
set_option maxRecDepth 100000 in
set_option maxHeartbeats 0 in
theorem PySem.Challenge.cw_gatefold_k06_net_written_holds : PySem.Challenge.rw_gatefold_k06_net_written.Holds := by
  w_on; o_law; k_head; (case hw => w_witness2)
  k_fill
  refine K06.walk (l := PySem.Challenge.rw_gatefold_k06_net_written) rfl rfl (fun w h Y => PySem.W.kIn_of Y) ?F
  case F =>
    intro w mg fa h KX G hmg
    refine' K06.all_mk KX G hmg ?aC_Net ?a0 ?l0 ?c0 ?k0 ?a1 ?i1 ?l1 ?c1 ?k1 ?a2 ?i2 ?l2 ?c2 ?k2 ?a3 ?i3 ?l3 ?c3 ?k3 ?a4 ?i4 ?l4 ?c4 ?k4 ?a5 ?l5 ?c5 ?k5 ?a6 ?l6 ?c6 ?k6 ?a7 ?l7 ?c7 ?k7 ?a8 ?l8 ?c8 ?k8 ?a9 ?l9 ?c9 ?k9 ?a10 ?l10 ?c10 ?k10 ?a11 ?l11 ?c11 ?k11 ?a12 ?l12 ?c12 ?k12 ?a13 ?l13 ?c13 ?k13 ?a14 ?l14 ?c14 ?k14 ?a15 ?l15 ?c15 ?k15 ?pg_Net ?hd_Net ?po_Net ?sa_Net ?mk_Net ?kc_Net ?n_Net_inputs ?n_Net_gates ?n_Net_outputs ?z_isinstance ?z_len ?z_list ?z_min ?z_range ?z_str ?z_tuple
    (case aC_Net => k_is)
    (case a0 => k_is)
    (case l0 => k_is)
    (case c0 => k_is)
    (case k0 => k_is)
    (case a1 => k_is)
    (case i1 => k_is)
    (case l1 => k_is)
    (case c1 => k_is)
    (case k1 => k_is)
    (case a2 => k_is)
    (case i2 => k_is)
    (case l2 => k_is)
    (case c2 => k_is)
    (case k2 => k_is)
    (case a3 => k_is)
    (case i3 => k_is)
    (case l3 => k_is)
    (case c3 => k_is)
    (case k3 => k_is)
    (case a4 => k_is)
    (case i4 => k_is)
    (case l4 => k_is)
    (case c4 => k_is)
    (case k4 => k_is)
    (case a5 => k_is)
    (case l5 => k_is)
    (case c5 => k_is)
    (case k5 => k_is)
    (case a6 => k_is)
    (case l6 => k_is)
    (case c6 => k_is)
    (case k6 => k_is)
    (case a7 => k_is)
    (case l7 => k_is)
    (case c7 => k_is)
    (case k7 => k_is)
    (case a8 => k_is)
    (case l8 => k_is)
    (case c8 => k_is)
    (case k8 => k_is)
    (case a9 => k_is)
    (case l9 => k_is)
    (case c9 => k_is)
    (case k9 => k_is)
    (case a10 => k_is)
    (case l10 => k_is)
    (case c10 => k_is)
    (case k10 => k_is)
    (case a11 => k_is)
    (case l11 => k_is)
    (case c11 => k_is)
    (case k11 => k_is)
    (case a12 => k_is)
    (case l12 => k_is)
    (case c12 => k_is)
    (case k12 => k_is)
    (case a13 => k_is)
    (case l13 => k_is)
    (case c13 => k_is)
    (case k13 => k_is)
    (case a14 => k_is)
    (case l14 => k_is)
    (case c14 => k_is)
    (case k14 => k_is)
    (case a15 => k_is)
    (case l15 => k_is)
    (case c15 => k_is)
    (case k15 => k_is)
    (case pg_Net => k_is)
    (case hd_Net => k_is)
    (case po_Net => k_is)
    (case sa_Net => k_is)
    (case mk_Net => k_is)
    (case kc_Net => k_is)
    (case n_Net_inputs => k_is)
    (case n_Net_gates => k_is)
    (case n_Net_outputs => k_is)
    (case z_isinstance => k_is)
    (case z_len => k_is)
    (case z_list => k_is)
    (case z_min => k_is)
    (case z_range => k_is)
    (case z_str => k_is)
    (case z_tuple => k_is)

