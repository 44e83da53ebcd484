import PyProof.Rows.All
import Wide.All
import OpenK.AllK
import Wide.FinOn
import Lean
import PyProof.EqAt
import PyProof.EqKinds
import PyProof.TupleCall
import PyProof.ZipIter
import PyProof.WalksMore
import PyProof.ListNew
import PyProof.IsiBase
import PyProof.DictList
import PyProof.AttrMiss
import PyProof.FactsAll.dict
import PyProof.ListRange
import PyProof.StrLawsWords
import PyProof.StationsW
import KE.KIsAll
import PyProof.DictIter
import KE.KRevIter
import KE.KRangeStep
import KE.RegMulBits
import KE.KDictList
import PySem.Challenge.RW_gatefold_k38_board_lines
set_option Elab.async false
set_option linter.all false
set_option maxRecDepth 100000
namespace L2
open PySem PySem.Spec PyProof.Rows
abbrev Key := Sum Int Str
def keyIs : Key → Value → Bool
 | .inl k, v => Value.isInt k v
 | .inr x, v => Value.isStrOf x v
def keyH (w : World) : Key → Int
 | .inl k => hashInt k
 | .inr x => hashStr w x
theorem keyIs_shape : ∀ {k : Key} {v : Value}, keyIs k v = true → (∃ i t, k = Sum.inl i ∧ v = Value.int i t) ∨ (∃ x t, k = Sum.inr x ∧ v = Value.str x t)
 | .inl i, v, h => by
  obtain ⟨t, e⟩ := Value.isInt_shape (k := i) (v := v) h
  exact .inl ⟨i, t, rfl, e⟩
 | .inr x, v, h => by
  obtain ⟨t, e⟩ := Value.isStrOf_shape (x := x) (v := v) h
  exact .inr ⟨x, t, rfl, e⟩
theorem keyIs_int (i : Int) (t : Tok) : keyIs (.inl i) (.int i t) = true := by simp [keyIs, Value.isInt]
theorem keyIs_str (x : Str) (t : Tok) : keyIs (.inr x) (.str x t) = true := by simp [keyIs, Value.isStrOf]
theorem key_ll (a b : Int) : decide ((Sum.inl a : Key) = Sum.inl b) = (a == b) := by
 by_cases e : a = b
 ·subst e; simp
 ·have h : ¬ (Sum.inl a : Key) = Sum.inl b := fun q => e (Sum.inl.inj q)
  rw [decide_eq_false h]
  exact (beq_eq_false_iff_ne.mpr e).symm
theorem key_rr (a b : Str) : decide ((Sum.inr a : Key) = Sum.inr b) = decide (a = b) := by
 by_cases e : a = b
 ·subst e; simp
 ·have h : ¬ (Sum.inr a : Key) = Sum.inr b := fun q => e (Sum.inr.inj q)
  rw [decide_eq_false h, decide_eq_false e]
theorem key_lr (a : Int) (b : Str) : decide ((Sum.inl a : Key) = Sum.inr b) = false := decide_eq_false (fun q => nomatch q)
theorem key_rl (a : Str) (b : Int) : decide ((Sum.inr a : Key) = Sum.inl b) = false := decide_eq_false (fun q => nomatch q)
def mixKind (prog : Program) (w : World) : PySem.KeyKind prog w Key where
 is := keyIs
 hash := keyH w
 inj := fun v a b ha hb => by
  rcases keyIs_shape ha with ⟨i, t, rfl, rfl⟩ | ⟨x, t, rfl, rfl⟩
  ·rcases keyIs_shape hb with ⟨j, u, rfl, e⟩ | ⟨y, u, rfl, e⟩
   ·injection e with e1 _; rw [e1]
   ·exact nomatch e
  ·rcases keyIs_shape hb with ⟨j, u, rfl, e⟩ | ⟨y, u, rfl, e⟩
   ·exact nomatch e
   ·injection e with e1 _; rw [e1]
 byValue := fun k v h => by
  rcases keyIs_shape h with ⟨i, t, rfl, rfl⟩ | ⟨x, t, rfl, rfl⟩ <;> rfl
 pyHash := fun hv h => by
  rcases keyIs_shape hv with ⟨i, t, rfl, rfl⟩ | ⟨x, t, rfl, rfl⟩
  ·exact wpAny_pyHash_int h
  ·exact wpAny_pyHash_str h
 eqBool := fun hu hv h => by
  rcases keyIs_shape hu with ⟨i, t, rfl, rfl⟩ | ⟨x, t, rfl, rfl⟩
  ·rcases keyIs_shape hv with ⟨j, u, rfl, rfl⟩ | ⟨y, u, rfl, rfl⟩
   ·rw [key_ll] at h; exact wpAny_eqBool_int h
   ·rw [key_lr] at h; exact SeqAt.EqAt.int_str i t y u _ _ _ _ h
  ·rcases keyIs_shape hv with ⟨j, u, rfl, rfl⟩ | ⟨y, u, rfl, rfl⟩
   ·rw [key_rl] at h; exact SeqAt.EqAt.str_int x t j u _ _ _ _ h
   ·rw [key_rr] at h; exact wpAny_eqBool_str h
 «strs» := fun k x t v h => by
  rcases keyIs_shape h with ⟨i, u, rfl, e⟩ | ⟨y, u, rfl, e⟩
  ·exact nomatch e
  ·injection e with e1 _
   subst e1
   cases v <;> rfl
theorem mixKind_int (prog : Program) (w : World) (i : Int) (t : Tok) : (mixKind prog w).is (.inl i) (.int i t) = true := keyIs_int i t
theorem mixKind_str (prog : Program) (w : World) (x : Str) (t : Tok) : (mixKind prog w).is (.inr x) (.str x t) = true := keyIs_str x t
inductive V where
 | non | bl (b : Bool) | int (i : Int) | str (x : Str) | byt (b : Array UInt8) | flt (b : UInt64) | ref (a : Addr) | ty (n : String)
 deriving DecidableEq
def RelV : V → Value → Prop
 | .non, u => u = Value.none
 | .bl b, u => u = Value.bool b
 | .int i, u => ∃ t, u = Value.int i t
 | .str x, u => ∃ t, u = Value.str x t
 | .byt b, u => ∃ t, u = Value.bytes b t
 | .flt b, u => ∃ t, u = Value.float b t
 | .ref a, u => u = Value.ref a
 | .ty n, u => u = Value.type n
abbrev Vals : List V → List Value → Prop := Paired RelV
theorem Vals.length {xs : List V} {us : List Value} (r : Vals xs us) : xs.length = us.length := Paired.length r
theorem Vals.get : ∀ {xs : List V} {us : List Value} {i : Nat} {x : V}, Vals xs us → xs[i]? = some x → ∃ u, us[i]? = some u ∧ RelV x u
 | _, _, _, _, .nil, e => by simp at e
 | _, _, 0, _, .cons r _, e => by simp at e; subst e; exact ⟨_, rfl, r⟩
 | _, _, i + 1, x, .cons _ t, e => by
  obtain ⟨u, h1, h2⟩ := Vals.get (i := i) (x := x) t (by simpa using e)
  exact ⟨u, by simpa using h1, h2⟩
theorem Vals.set {x : V} {u : Value} (r : RelV x u) : ∀ {xs : List V} {us : List Value} (i : Nat), Vals xs us → Vals (xs.set i x) (us.set i u)
 | _, _, _, .nil => .nil
 | _, _, 0, .cons _ t => .cons r t
 | _, _, i + 1, .cons q t => .cons q (Vals.set r i t)
theorem Vals.append : ∀ {xs ys : List V} {us ws : List Value}, Vals xs us → Vals ys ws → Vals (xs ++ ys) (us ++ ws)
 | _, _, _, _, .nil, s => s
 | _, _, _, _, .cons r t, s => .cons r (Vals.append t s)
theorem Vals.take : ∀ {xs : List V} {us : List Value} (n : Nat), Vals xs us → Vals (xs.take n) (us.take n)
 | _, _, 0, _ => .nil
 | _, _, _ + 1, .nil => .nil
 | _, _, n + 1, .cons r t => .cons r (Vals.take n t)
theorem Vals.drop : ∀ {xs : List V} {us : List Value} (n : Nat), Vals xs us → Vals (xs.drop n) (us.drop n)
 | _, _, 0, r => r
 | _, _, _ + 1, .nil => .nil
 | _, _, n + 1, .cons _ t => Vals.drop n t
def RelO : Option V → Option Value → Prop
 | some v, some u => RelV v u
 | none, none => True
 | _, _ => False
def KV {κ : Type} : List (κ × V) → List (κ × Value) → Prop := Paired fun (p : κ × V) (q : κ × Value) => p.1 = q.1 ∧ RelV p.2 q.2
def kV : Key → V
 | .inl i => .int i
 | .inr x => .str x
inductive HO where
  | lst (xs : List V)
  | tup (xs : List V)
  | dK (kvs : List (Key × V)) | dT (kvs : List (List Key × V))
  | set (S : Int → Bool) (n : Nat)
  | ins (C dx : Addr) (fs : List (Str × V))
  | own (x : Addr)
  | xd (fs : List (Str × V))
  | met (f x : Addr)
  | rng (lo hi : Int)
  | frz (o : Obj) (u : HO)
  | tbl (ps : Array Value)
  | ext (φ : Heap → Prop)
abbrev Hp := Addr → Option HO
def upd (H : Hp) (a : Addr) (o : HO) : Hp := fun b => if b = a then some o else H b
theorem upd_same {H : Hp} {a : Addr} {o : HO} : upd H a o a = some o := by unfold upd; rw [if_pos rfl]
theorem upd_ne {H : Hp} {a b : Addr} {o : HO} (h : b ≠ a) : upd H a o b = H b := by unfold upd; rw [if_neg h]
theorem upd_upd {H : Hp} {a : Addr} {o u : HO} : upd (upd H a o) a u = upd H a u := by
 funext b; unfold upd; split <;> rfl
theorem ne_of {H : Hp} {a b : Addr} {o u : HO} (h : H a = some o) (h' : H b = some u) (d : o ≠ u) : a ≠ b := by
 intro e; subst e; rw [h] at h'; exact d (Option.some.inj h')
theorem ne_of_none {H : Hp} {a b : Addr} {o : HO} (h : H a = some o) (h' : H b = none) : a ≠ b := by
 intro e; subst e; rw [h] at h'; cases h'
section
variable (P : Program) (w : World)
def ObjOk (H : Hp) (h : Heap) (a : Addr) : HO → Prop
 | .lst xs => xs.length ≤ sizeLine ∧ ∃ (its : List Value) (n : Nat), Vals xs its ∧ h.get? a = some { cls := .type "list", data := .seq its.toArray n }
 | .tup xs => xs.length ≤ sizeLine ∧ ∃ its : List Value, Vals xs its ∧ IsTup h a its.toArray
 | .dK kvs => kvs.length ≤ sizeLine ∧ (a == sysModules) = false ∧ ∃ vs, KV kvs vs ∧ h.DictOf (mixKind P w) a vs
 | .dT kvs => kvs.length ≤ sizeLine ∧ (a == sysModules) = false ∧ ∃ xs : List (List Key × Addr × Value),
   Paired (fun (p : List Key × V) (q : List Key × Addr × Value) => p.1 = q.1 ∧ H q.2.1 = some (.tup (p.1.map kV)) ∧ RelV p.2 q.2.2) kvs xs ∧
   ∃ o es ep, h.get? a = some o ∧ o.ExactDict ∧ o.data = .dict es ep ∧ es.toList = xs.map (entryOfKey (tupleKind (mixKind P w))) ∧ (xs.map (·.1)).Nodup
 | .set S n => h.SetOf (intKind P w) a S n
 | .ins C dx fs => H dx = some (.own a) ∧ fs.length ≤ 1000 ∧ dx ≠ a ∧ h.get? a = some (PySem.W.instObj C dx) ∧
   ∃ mA, h.Ns1 dx mA ∧ (∀ f, RelO (fs.lookup f) (mA f)) ∧ PySem.Within mA (fs.map (·.1))
 | .own _ => ∃ o, h.get? a = some o
 | .xd fs => ∃ mA, h.Ns1 a mA ∧ ∀ f, RelO (fs.lookup f) (mA f)
 | .rng lo hi => ∃ t u v, h.get? a = some { cls := .type "range", data := .fields #[.int lo t, .int hi u, .int 1 v] }
 | .frz o u => h.get? a = some o ∧ ObjOk H h a u
 | .tbl ps => h.get? a = some { cls := .none, data := .fields ps }
 | .met f x => h.get? a = some (PySem.W.methodObj (.ref f) (.ref x))
 | .ext φ => φ h ∧ (∃ o, h.get? a = some o) ∧ ∀ h1 h2 : Heap, φ h1 → (∀ o, h1.get? a = some o → h2.get? a = some o) → φ h2
def HOk (H : Hp) (h : Heap) : Prop := ∀ a o, H a = some o → ObjOk P w H h a o
end
section
variable {P : Program} {w : World} {H H' : Hp} {h h' : Heap} {a : Addr} {o : HO}
theorem ObjOk.lt (x : ObjOk P w H h a o) : a < h.objs.size := by
 cases o with
 | lst xs => obtain ⟨_, _, _, _, e⟩ := x; exact Heap.lt_size e
 | tup xs => obtain ⟨_, _, _, p⟩ := x; exact p.lt
 | dK kvs => obtain ⟨_, _, _, _, o, _, _, e, _⟩ := x; exact Heap.lt_size e
 | dT kvs => obtain ⟨_, _, _, _, o, _, _, e, _⟩ := x; exact Heap.lt_size e
 | set S n => obtain ⟨o, _, _, _, e, _⟩ := x; exact Heap.lt_size e
 | ins C dx fs => obtain ⟨_, _, _, e, _⟩ := x; exact Heap.lt_size e
 | own y => obtain ⟨_, e⟩ := x; exact Heap.lt_size e
 | xd fs => obtain ⟨_, ⟨_, _, _, e, _⟩, _⟩ := x; exact Heap.lt_size e
 | rng lo hi => obtain ⟨_, _, _, e⟩ := x; exact Heap.lt_size e
 | frz ob u => obtain ⟨e, _⟩ := x; exact Heap.lt_size e
 | tbl ps => exact Heap.lt_size (show h.get? a = some _ from x)
 | met f y => exact Heap.lt_size (show h.get? a = some _ from x)
 | ext φ => obtain ⟨_, ⟨_, e⟩, _⟩ := x; exact Heap.lt_size e
theorem Paired.mapP {α β : Type} {F G : α → β → Prop} : ∀ {l₁ : List α} {l₂ : List β}, Paired F l₁ l₂ → (∀ a b, F a b → G a b) → Paired G l₁ l₂
 | _, _, .nil, _ => .nil
 | _, _, .cons r t, f => .cons (f _ _ r) (Paired.mapP t f)
theorem ObjOk.stay (x : ObjOk P w H h a o) (k : ∀ b u, (b = a ∨ H b = some (.own a)) → h.get? b = some u → h'.get? b = some u)
  (ho : ∀ b, H b = some (.own a) → H' b = some (.own a)) (ht : ∀ b xs, H b = some (.tup xs) → H' b = some (.tup xs)) : ObjOk P w H' h' a o := by
 induction o with
 | lst xs => obtain ⟨z, its, n, r, e⟩ := x; exact ⟨z, its, n, r, k _ _ (.inl rfl) e⟩
 | tup xs => obtain ⟨z, its, r, ob, e, c⟩ := x; exact ⟨z, its, r, ob, k _ _ (.inl rfl) e, c⟩
 | dK kvs => obtain ⟨z, y, vs, r, ob, es, ep, e, c⟩ := x; exact ⟨z, y, vs, r, ob, es, ep, k _ _ (.inl rfl) e, c⟩
 | dT kvs =>
  obtain ⟨z, y, xs, r, ob, es, ep, e, c⟩ := x
  exact ⟨z, y, xs, Paired.mapP r fun p q z => ⟨z.1, ht _ _ z.2.1, z.2.2⟩, ob, es, ep, k _ _ (.inl rfl) e, c⟩
 | set S n => obtain ⟨ob, es, ep, t, e, c⟩ := x; exact ⟨ob, es, ep, t, k _ _ (.inl rfl) e, c⟩
 | ins C dx fs =>
  obtain ⟨d, z, ne, e, mA, ⟨od, es, ep, e2, c⟩, r⟩ := x
  exact ⟨ho _ d, z, ne, k _ _ (.inl rfl) e, mA, ⟨od, es, ep, k _ _ (.inr d) e2, c⟩, r⟩
 | own y => obtain ⟨ob, e⟩ := x; exact ⟨ob, k _ _ (.inl rfl) e⟩
 | xd fs => obtain ⟨mA, ⟨od, es, ep, e, c⟩, r⟩ := x; exact ⟨mA, ⟨od, es, ep, k _ _ (.inl rfl) e, c⟩, r⟩
 | rng lo hi => obtain ⟨t, u, v, e⟩ := x; exact ⟨t, u, v, k _ _ (.inl rfl) e⟩
 | frz ob u ih => obtain ⟨e, q⟩ := x; exact ⟨k _ _ (.inl rfl) e, ih q⟩
 | tbl ps =>
  have e : h.get? a = some { cls := .none, data := .fields ps } := x
  show h'.get? a = some { cls := .none, data := .fields ps }
  exact k a _ (.inl rfl) e
 | met f y =>
  have e : h.get? a = some (PySem.W.methodObj (.ref f) (.ref y)) := x
  show h'.get? a = some (PySem.W.methodObj (.ref f) (.ref y))
  exact k a _ (.inl rfl) e
 | ext φ => obtain ⟨p, ⟨o, e⟩, st⟩ := x; exact ⟨st _ _ p fun o q => k _ _ (.inl rfl) q, ⟨o, k _ _ (.inl rfl) e⟩, st⟩
theorem HOk.lt (x : HOk P w H h) (e : H a = some o) : a < h.objs.size := (x a o e).lt
theorem HOk.fresh (x : HOk P w H h) (e : h.objs.size ≤ a) : H a = none := by
 cases q : H a with
 | none => rfl
 | some u => exact absurd (Nat.lt_of_lt_of_le (x.lt q) e) (Nat.lt_irrefl _)
theorem HOk.kept (x : HOk P w H h) (k : ∀ b u, h.get? b = some u → h'.get? b = some u) : HOk P w H h' := fun a o e =>
 (x a o e).stay (fun b u _ q => k b u q) (fun _ q => q) fun _ _ q => q
theorem HOk.laid (x : HOk P w H h) (k : ∀ b u, h.get? b = some u → h'.get? b = some u) (hp : h.objs.size ≤ a) (new : ObjOk P w (upd H a o) h' a o) : HOk P w (upd H a o) h' := fun b u e => by
 have hn := x.fresh hp
 by_cases hb : b = a
 ·subst hb; rw [upd_same] at e; cases e; exact new
 ·rw [upd_ne hb] at e
  exact (x b u e).stay (fun c v _ q => k c v q) (fun c q => by rw [upd_ne (ne_of_none q hn)]; exact q) fun c xs q => by rw [upd_ne (ne_of_none q hn)]; exact q
end
def Rd (H : Hp) (a : Addr) (u : HO) : Prop := H a = some u ∨ ∃ o, H a = some (.frz o u)
theorem Rd.ok {P : Program} {w : World} {H : Hp} {h : Heap} {a : Addr} {u : HO} (r : Rd H a u) (x : HOk P w H h) : ObjOk P w H h a u := by
 rcases r with r | ⟨o, r⟩
 ·exact x a u r
 ·obtain ⟨_, q⟩ := x a _ r
  exact q
def Mut : Option HO → Prop
 | some (.lst _) => True
 | some (.dK _) => True
 | some (.dT _) => True
 | some (.set _ _) => True
 | some (.ins _ _ _) => True
 | some (.ext _) => True
 | _ => False
section
variable {P : Program} {w : World} {H : Hp} {h h' : Heap} {x e : Addr} {o' : HO}
theorem HOk.write (ok : HOk P w H h) (mu : Mut (H x)) (he : e = x ∨ H e = some (.own x)) (k : ∀ b u, b ≠ e → h.get? b = some u → h'.get? b = some u) (heo : ∃ u, h'.get? e = some u)
  (new : ObjOk P w (upd H x o') h' x o') : HOk P w (upd H x o') h' := fun b u q => by
 have nown : ∀ c y, H c = some (.own y) → c ≠ x := fun c y r z => by subst z; rw [r] at mu; exact mu
 have ntup : ∀ c xs, H c = some (.tup xs) → c ≠ x := fun c xs r z => by subst z; rw [r] at mu; exact mu
 by_cases hb : b = x
 ·subst hb; rw [upd_same] at q; cases q; exact new
 ·rw [upd_ne hb] at q
  by_cases hbe : b = e
  ·have q' : H b = some (.own x) := by
    rcases he with z | z
    ·exact absurd (hbe.trans z) hb
    ·rw [hbe]; exact z
   rw [q] at q'; cases q'
   obtain ⟨v, hv⟩ := heo
   exact ⟨v, by rw [hbe]; exact hv⟩
  ·refine (ok b u q).stay (fun c v hc r => k c v ?_ r) (fun c r => by rw [upd_ne (nown c b r)]; exact r) fun c xs r => by rw [upd_ne (ntup c xs r)]; exact r
   rcases hc with rfl | hc
   ·exact hbe
   ·rintro rfl
    rcases he with z | z
    ·exact nown c b hc z
    ·rw [hc] at z; cases z; exact hb rfl
end
structure Un (fs ex : List Addr) (H H' : Hp) (h h' : Heap) : Prop where
 keep : ∀ b o, h.get? b = some o → H b = none → b ∉ fs → b ∉ ex → h'.get? b = some o
 slot : ∀ b o, h.get? b = some o → H b = none → b ∈ fs → b ∉ ex → ∃ sl, h'.get? b = some { o with slots := sl }
 free : ∀ b o, h.get? b = some o → H b = none → b ∉ ex → H' b = none
 there : ∀ b o, h.get? b = some o → b ∉ ex → ∃ o', h'.get? b = some o'
 tups : ∀ b xs, H b = some (.tup xs) → H' b = some (.tup xs)
 frzs : ∀ b o u, H b = some (.frz o u) → H' b = some (.frz o u)
 tbls : ∀ b ps, H b = some (.tbl ps) → ∃ more, H' b = some (.tbl (ps ++ more))
section
variable {fs fs' ex ex' : List Addr} {H H1 H2 : Hp} {h h1 h2 h' : Heap} {a x e : Addr} {o : HO}
theorem Un.any (u : Un fs ex H H1 h h1) {b : Addr} {ob : Obj} (q : h.get? b = some ob) (n : H b = none) (hx : b ∉ ex) : ∃ sl, h1.get? b = some { ob with slots := sl } := by
 by_cases hb : b ∈ fs
 ·exact u.slot b ob q n hb hx
 ·exact ⟨ob.slots, u.keep b ob q n hb hx⟩
theorem Un.kept (k : ∀ b u, h.get? b = some u → h'.get? b = some u) : Un fs ex H H h h' :=
 ⟨fun b ob q _ _ _ => k b ob q, fun b ob q _ _ _ => ⟨ob.slots, k b ob q⟩, fun _ _ _ n _ => n, fun b ob q _ => ⟨ob, k b ob q⟩, fun _ _ q => q, fun _ _ _ q => q, fun _ ps q => ⟨#[], by rw [q]; simp⟩⟩
theorem Un.refl : Un fs ex H H h h := Un.kept fun _ _ q => q
theorem Un.laid (k : ∀ b u, h.get? b = some u → h'.get? b = some u) (hp : h.objs.size ≤ a) (hn : H a = none) : Un fs ex H (upd H a o) h h' where
 keep := fun b u q _ _ _ => k b u q
 slot := fun b u q _ _ _ => ⟨u.slots, k b u q⟩
 free := fun b u q n _ => by rw [upd_ne (Nat.ne_of_lt (Nat.lt_of_lt_of_le (Heap.lt_size q) hp))]; exact n
 there := fun b u q _ => ⟨u, k b u q⟩
 tups := fun b xs q => by rw [upd_ne (ne_of_none q hn)]; exact q
 frzs := fun b u xs q => by rw [upd_ne (ne_of_none q hn)]; exact q
 tbls := fun b ps q => ⟨#[], by rw [upd_ne (ne_of_none q hn), q]; simp⟩
theorem Un.write (mu : Mut (H x)) (he : e = x ∨ H e = some (.own x)) (k : ∀ b u, b ≠ e → h.get? b = some u → h'.get? b = some u) (heo : ∃ u, h'.get? e = some u) : Un fs ex H (upd H x o) h h' := by
 have hx : ∀ b, H b = none → b ≠ x := fun b n z => by subst z; rw [n] at mu; exact mu
 have hb : ∀ b, H b = none → b ≠ e := fun b n z => by
  subst z
  rcases he with r | r
  ·exact hx b n r
  ·rw [n] at r; cases r
 have hm : ∀ b u, H b = some u → ¬ Mut (some u) → b ≠ x := fun b u q nm z => by subst z; rw [q] at mu; exact nm mu
 refine ⟨fun b u q n _ _ => k b u (hb b n) q, fun b u q n _ _ => ⟨u.slots, k b u (hb b n) q⟩, fun b u q n _ => by rw [upd_ne (hx b n)]; exact n, fun b u q _ => ?_,
  fun b xs q => by rw [upd_ne (hm b _ q fun z => z)]; exact q, fun b u xs q => by rw [upd_ne (hm b _ q fun z => z)]; exact q, fun b ps q => ⟨#[], by rw [upd_ne (hm b _ q fun z => z), q]; simp⟩⟩
 by_cases hbe : b = e
 ·subst hbe; exact heo
 ·exact ⟨u, k b u hbe q⟩
end
def trk (h : Heap) (H : Hp) : List Addr := (List.range h.objs.size).filter fun a => (H a).isSome
def hidT (h : Heap) (H : Hp) : Heap := PySem.W.hideAll h (trk h H)
theorem hidT_size (h : Heap) (H : Hp) : (hidT h H).objs.size = h.objs.size := PySem.W.hideAll_size _ _
theorem hidT_get {h : Heap} {H : Hp} {b : Addr} {o : Obj} (e : h.get? b = some o) (n : H b = none) : (hidT h H).get? b = some o :=
 PySem.W.hideAll_get _ e fun hm => by
  have q : (H b).isSome = true := (List.mem_filter.mp hm).2
  rw [n] at q; simp at q
theorem of_hidT {h : Heap} {H : Hp} {b : Addr} {o : Obj} (e : (hidT h H).get? b = some o) : h.get? b = some o ∧ H b = none := by
 have e' : h.get? b = some o := PySem.W.of_hideAll (trk h H) e
 refine ⟨e', ?_⟩
 cases q : H b with
 | none => rfl
 | some x =>
  have hm : b ∈ trk h H := List.mem_filter.mpr ⟨List.mem_range.mpr (Heap.lt_size e'), by simp [q]⟩
  have z : (hidT h H).get? b = none := PySem.W.hideAll_none (trk h H) hm
  rw [z] at e; cases e
def allNews (g h : Heap) (L : Addr) : List (Addr × Obj) := (List.range h.objs.size).filterMap fun a => if a = L ∨ (g.get? a).isSome = true then none else (h.get? a).map fun o => (a, o)
def rest (g h : Heap) (L d : Addr) : List (Addr × Obj) := (allNews g h L).filter fun p => decide (p.1 ≠ d)
structure Mod (K : PySem.W.Frag) (mg : Str → Option Value) (base : Heap) : Prop where
 kin : K.In base
 glob : base.Ns mainGlobals mg
 blt : ∃ mb, base.Ns builtinsNs mb ∧ ∀ x : Str, x ≠ "__name__" → mb x = bootBuiltins x
 nolimit : base.NoLimit
structure Cx where
 prog : Program
 w : World
 K : PySem.W.Frag
 mg : Str → Option Value
 base : Heap
 A : Around
 N : List Str
 s₀ : Shared
 H₀ : Hp
 env : Env
 outer : List Env
 stack : List Env
 ex : List Addr
 fn : Str → Bool
 calm : Bool
 pn : List (Addr × Obj)
 xe : Value → Shared → Prop
def frs (l : List Env) : List Addr := l.filterMap (·.frame)
abbrev Cx.fs (X : Cx) : List Addr := frs X.outer
def Vis (sc : Scope) (x : Str) : Prop := sc.names.lookup x = some .local ∨ sc.names.lookup x = some .cell ∨ sc.names.lookup x = some .free
def Loc (sc : Scope) (x : Str) : Prop := sc.names.lookup x = some .local ∨ sc.names.lookup x = some .cell
def Look (env : Env) (h : Heap) (m : Str → Option Value) (x : Str) (u : Value) : Prop :=
 (env.kindOf x = some .local ∧ m x = some u) ∨ ((env.kindOf x = some .cell ∨ env.kindOf x = some .free) ∧ ∃ c, env.cells.lookup x = some c ∧ h.IsCell c (some u))
structure Cx.Ok (X : Cx) : Prop where
 mod : Mod X.K X.mg X.base
 kind : X.env.scope.kind = .function
 glob : X.env.globals = mainGlobals
 blt : X.env.builtins = builtinsNs
 above : X.s₀.heap.objs.size ≤ X.env.locals
 inj : ∀ x y c, X.env.cells.lookup x = some c → X.env.cells.lookup y = some c → x = y
 has : ∀ x, (X.env.kindOf x = some .cell ∨ X.env.kindOf x = some .free) → ∃ c, X.env.cells.lookup x = some c
 cab : ∀ x c, X.fn x = true → X.env.cells.lookup x = some c → X.s₀.heap.objs.size ≤ c
 hd : X.calm = true → X.A.handled = none
 frames : X.A.frames = some X.stack
 stk : X.stack = X.outer ∨ (X.stack = X.env :: X.outer ∧ X.env.frame = some X.env.locals)
 exf : ∀ b ∈ X.ex, b ≠ X.env.locals ∧ ∀ x c, X.env.cells.lookup x = some c → c ≠ b
 bs : ∀ b o, X.base.get? b = some o → X.s₀.heap.get? b = some o ∧ X.H₀ b = none
 bsz : X.base.objs.size ≤ X.s₀.heap.objs.size
 noex : ∀ b o, X.base.get? b = some o → b ∉ X.ex
 exfs : ∀ b ∈ X.ex, b ∉ X.fs
 funs : X.s₀.heap.FunFrames X.base X.outer
 frf : ∀ b ∈ X.fs, X.H₀ b = none
structure Inv (X : Cx) (pins : List (Addr × Obj)) (σ : List (Option V)) (H : Hp) (s : Shared) : Prop where
 ok : X.Ok
 os : s.os = X.s₀.os
 bare : AllBare s.gens
 base : Un X.fs X.ex X.H₀ H X.s₀.heap s.heap
 loc : ∃ m, s.heap.Ns X.env.locals m ∧ ∀ (i : Nat) (x : Str) (v : V), X.N[i]? = some x → σ[i]? = some (some v) → Vis X.env.scope x → ∃ u, RelV v u ∧ Look X.env s.heap m x u
 cell : ∀ x c, X.env.cells.lookup x = some c → ∃ v, s.heap.IsCell c v
 free : H X.env.locals = none
 freeC : ∀ x c, X.env.cells.lookup x = some c → H c = none
 pin : ∀ p ∈ X.pn ++ pins, s.heap.get? p.1 = some p.2 ∧ H p.1 = none ∧ p.1 ≠ X.env.locals ∧ p.1 ∉ X.fs ∧ ∀ v, p.2.data ≠ .cell v
 hok : HOk X.prog X.w H s.heap
 len : σ.length = X.N.length
section
variable {X : Cx} {pins : List (Addr × Obj)} {σ : List (Option V)} {H H' : Hp} {s : Shared} {h' : Heap}
theorem Cx.Ok.nofr (ok : X.Ok) {b : Addr} {o : Obj} (e : X.base.get? b = some o) : b ∉ X.fs := fun hb => by
 have := (ok.funs.mem hb).1
 rw [e] at this; cases this
theorem Inv.bs (I : Inv X pins σ H s) : ∀ b o, X.base.get? b = some o → s.heap.get? b = some o ∧ H b = none := fun b o e =>
 ⟨I.base.keep b o (I.ok.bs b o e).1 (I.ok.bs b o e).2 (I.ok.nofr e) (I.ok.noex b o e), I.base.free b o (I.ok.bs b o e).1 (I.ok.bs b o e).2 (I.ok.noex b o e)⟩
theorem Inv.bk (I : Inv X pins σ H s) : ∀ b o, X.base.get? b = some o → s.heap.get? b = some o := fun b o e => (I.bs b o e).1
theorem Inv.mod (I : Inv X pins σ H s) : Mod X.K X.mg X.base := I.ok.mod
theorem Inv.kIn (I : Inv X pins σ H s) : X.K.In s.heap := I.ok.mod.kin.keeps I.bk
theorem Inv.nolimit (I : Inv X pins σ H s) : s.heap.NoLimit := I.ok.mod.nolimit.keeps I.bk
theorem Inv.fr (I : Inv X pins σ H s) : ∃ m, Fr X.base X.env.locals s.heap m :=
 let ⟨m, hn, _⟩ := I.loc
 ⟨m, hn, I.bk, Nat.le_trans I.ok.bsz I.ok.above⟩
theorem Inv.lt (I : Inv X pins σ H s) : X.env.locals < s.heap.objs.size := let ⟨_, hn, _⟩ := I.loc; hn.lt
theorem Inv.sz (I : Inv X pins σ H s) : X.s₀.heap.objs.size ≤ s.heap.objs.size := Nat.le_trans I.ok.above (Nat.le_of_lt I.lt)
theorem Inv.nofs (I : Inv X pins σ H s) {a : Addr} (h : s.heap.objs.size ≤ a) : a ∉ X.fs := fun hb => by
 obtain ⟨_, o, ho, _⟩ := I.ok.funs.mem hb
 exact absurd (Nat.lt_of_lt_of_le (Heap.lt_size ho) (Nat.le_trans I.sz h)) (Nat.lt_irrefl _)
theorem Inv.cne (I : Inv X pins σ H s) : ∀ x c, X.env.cells.lookup x = some c → c ≠ X.env.locals := fun x c e z => by
 obtain ⟨v, o, ho, hd⟩ := I.cell x c e
 obtain ⟨m, ⟨o', es, ep, ho', hd', _⟩, _⟩ := I.loc
 rw [z, ho'] at ho; cases ho; rw [hd'] at hd; cases hd
theorem Inv.funs (I : Inv X pins σ H s) : s.heap.FunFrames X.base X.outer := by
 have all : ∀ (l : List Env), (∀ b ∈ frs l, b ∈ X.fs) → X.s₀.heap.FunFrames X.base l → s.heap.FunFrames X.base l := by
  intro l
  induction l with
  | nil => intro _ _; trivial
  | cons env r ih =>
   intro hs hl
   obtain ⟨hk, ⟨L, o, hf, hn, ho, hd⟩, hr⟩ := hl
   have hL : L ∈ X.fs := hs L (by unfold frs; rw [List.filterMap_cons, hf]; exact List.mem_cons_self)
   obtain ⟨sl, e⟩ := I.base.slot L o ho (I.ok.frf L hL) hL fun z => I.ok.exfs L z hL
   exact ⟨hk, ⟨L, _, hf, hn, e, hd⟩, ih (fun b hb => hs b (by unfold frs; rw [List.filterMap_cons, hf]; exact List.mem_cons_of_mem _ hb)) hr⟩
 exact all X.outer (fun _ hb => hb) I.ok.funs
theorem Inv.stack (I : Inv X pins σ H s) : s.heap.FunFrames X.base X.stack := by
 rcases I.ok.stk with e | ⟨e, hf⟩
 ·rw [e]; exact I.funs
 ·rw [e]
  obtain ⟨m, hn, _⟩ := I.loc
  refine .cons (by rw [I.ok.kind]; decide) hf hn ?_ I.funs
  exact Heap.get?_none_of_le (Nat.le_trans I.ok.bsz I.ok.above)
theorem Inv.stkSub (I : Inv X pins σ H s) : ∀ b ∈ frs X.stack, b ∈ X.env.locals :: X.fs := fun b hb => by
 rcases I.ok.stk with e | ⟨e, hf⟩
 ·rw [e] at hb; exact List.mem_cons_of_mem _ hb
 ·rw [e] at hb
  unfold frs at hb
  rw [List.filterMap_cons, hf] at hb
  exact hb
theorem Inv.stkFree (I : Inv X pins σ H s) : ∀ b ∈ frs X.stack, H b = none := fun b hb => by
 rcases List.mem_cons.mp (I.stkSub b hb) with e | hb
 ·rw [e]; exact I.free
 ·obtain ⟨_, o, ho, _⟩ := I.ok.funs.mem hb
  exact I.base.free b o ho (I.ok.frf b hb) fun z => I.ok.exfs b z hb
theorem Inv.step {g' : Array GenState} {t' : Nat} {d' : Drawn} {ch : List Addr} (I : Inv X pins σ H s)
  (hch : ∀ b ∈ ch, (b ∈ X.ex ∨ X.s₀.heap.objs.size ≤ b) ∧ b ≠ X.env.locals ∧ (∀ x c, X.env.cells.lookup x = some c → c ≠ b) ∧ ∀ p ∈ X.pn ++ pins, p.1 ≠ b)
  (keep : ∀ b o, b ≠ X.env.locals → b ∉ X.fs → b ∉ ch → s.heap.get? b = some o → H b = none → h'.get? b = some o)
  (slot : ∀ b o, b ≠ X.env.locals → b ∈ X.fs → b ∉ ch → s.heap.get? b = some o → H b = none → ∃ sl, h'.get? b = some { o with slots := sl }) (free : ∀ b o, b ∉ ch → s.heap.get? b = some o → H b = none → H' b = none)
  (there : ∀ b o, b ∉ ch → s.heap.get? b = some o → ∃ o', h'.get? b = some o')
  (tups : ∀ b xs, H b = some (.tup xs) → H' b = some (.tup xs)) (frzs : ∀ b o u, H b = some (.frz o u) → H' b = some (.frz o u)) (tbls : ∀ b ps, H b = some (.tbl ps) → ∃ more, H' b = some (.tbl (ps ++ more)))
  (ns : ∀ m, s.heap.Ns X.env.locals m → h'.Ns X.env.locals m) (hok : HOk X.prog X.w H' h') (hg : AllBare g') :
  Inv X pins σ H' { s with heap := h', gens := g', drawn := d', toks := t' } := by
 have neL : ∀ b o, X.s₀.heap.get? b = some o → b ≠ X.env.locals := fun b o e => Nat.ne_of_lt (Nat.lt_of_lt_of_le (Heap.lt_size e) I.ok.above)
 have neC : ∀ b o, X.s₀.heap.get? b = some o → b ∉ X.ex → b ∉ ch := fun b o e hx hb => by
  rcases (hch b hb).1 with z | z
  ·exact hx z
  ·exact absurd (Nat.lt_of_lt_of_le (Heap.lt_size e) z) (Nat.lt_irrefl _)
 have cellK : ∀ x c, X.env.cells.lookup x = some c → ∀ v, s.heap.IsCell c v → h'.IsCell c v := fun x c e v ⟨o, ho, hd⟩ => by
  have nch : c ∉ ch := fun z => (hch c z).2.2.1 x c e rfl
  by_cases hc : c ∈ X.fs
  ·obtain ⟨sl, q⟩ := slot c o (I.cne x c e) hc nch ho (I.freeC x c e)
   exact ⟨_, q, hd⟩
  ·exact ⟨o, keep c o (I.cne x c e) hc nch ho (I.freeC x c e), hd⟩
 refine ⟨I.ok, I.os, hg, ⟨fun b o e n hb hx => ?_, fun b o e n hb hx => ?_, fun b o e n hx => ?_, fun b o e hx => ?_, fun b xs e => tups b xs (I.base.tups b xs e), fun b o xs e => frzs b o xs (I.base.frzs b o xs e), fun b ps e => ?_⟩, ?_, fun x c e => ?_, ?_, fun x c e => ?_, fun p hp => ?_, hok, I.len⟩
 ·exact keep b o (neL b o e) hb (neC b o e hx) (I.base.keep b o e n hb hx) (I.base.free b o e n hx)
 ·obtain ⟨sl, e1⟩ := I.base.slot b o e n hb hx
  obtain ⟨sl', e2⟩ := slot b _ (neL b o e) hb (neC b o e hx) e1 (I.base.free b o e n hx)
  exact ⟨sl', e2⟩
 ·obtain ⟨o', e1⟩ := I.base.there b o e hx
  exact free b o' (neC b o e hx) e1 (I.base.free b o e n hx)
 ·obtain ⟨o', e1⟩ := I.base.there b o e hx
  exact there b o' (neC b o e hx) e1
 ·obtain ⟨m1, e1⟩ := I.base.tbls b ps e
  obtain ⟨m2, e2⟩ := tbls b _ e1
  exact ⟨m1 ++ m2, by rw [e2, Array.append_assoc]⟩
 ·obtain ⟨m, hn, hl⟩ := I.loc
  refine ⟨m, ns m hn, fun i x v e1 e2 e3 => ?_⟩
  obtain ⟨u, r, l⟩ := hl i x v e1 e2 e3
  refine ⟨u, r, ?_⟩
  rcases l with l | ⟨k, c, e, z⟩
  ·exact .inl l
  ·exact .inr ⟨k, c, e, cellK x c e _ z⟩
 ·obtain ⟨v, z⟩ := I.cell x c e
  exact ⟨v, cellK x c e v z⟩
 ·obtain ⟨m, ⟨o, _, _, ho, _⟩, _⟩ := I.loc
  exact free _ o (fun z => (hch _ z).2.1 rfl) ho I.free
 ·obtain ⟨v, o, ho, hd⟩ := I.cell x c e
  exact free c o (fun z => (hch c z).2.2.1 x c e rfl) ho (I.freeC x c e)
 ·obtain ⟨e, n, ne, nf, d⟩ := I.pin p hp
  have nch : p.1 ∉ ch := fun z => (hch p.1 z).2.2.2 p hp rfl
  exact ⟨keep p.1 p.2 ne nf nch e n, free p.1 p.2 nch e n, ne, nf, d⟩
theorem Inv.un {t' : Nat} (I : Inv X pins σ H s) (u : Un X.fs [] H H' s.heap h') (hok : HOk X.prog X.w H' h') : Inv X pins σ H' { s with heap := h', toks := t' } := by
 obtain ⟨m, ⟨o, es, ep, ho, r⟩, _⟩ := id I.loc
 obtain ⟨sl, hL⟩ := u.any ho I.free (by simp)
 exact I.step (g' := s.gens) (d' := s.drawn) (ch := []) (fun _ z => nomatch z) (fun b o _ hb _ e n => u.keep b o e n hb (by simp)) (fun b o _ hb _ e n => u.slot b o e n hb (by simp)) (fun b o _ e n => u.free b o e n (by simp)) (fun b o _ e => u.there b o e (by simp)) u.tups u.frzs u.tbls (fun m' hm => by
  obtain ⟨o', es', ep', ho', r'⟩ := hm
  rw [ho] at ho'; cases ho'
  exact ⟨_, es', ep', hL, r'⟩) hok I.bare
theorem Inv.call {g' : Array GenState} {t' : Nat} {d' : Drawn} {ch : List Addr} (I : Inv X pins σ H s) (u : Un (frs X.stack) ch H H' s.heap h') (hok : HOk X.prog X.w H' h') (hg : AllBare g')
  (hch : ∀ b ∈ ch, (b ∈ X.ex ∨ X.s₀.heap.objs.size ≤ b) ∧ b ≠ X.env.locals ∧ (∀ x c, X.env.cells.lookup x = some c → c ≠ b) ∧ ∀ p ∈ X.pn ++ pins, p.1 ≠ b) :
  Inv X pins σ H' { s with heap := h', gens := g', drawn := d', toks := t' } := by
 obtain ⟨m, ⟨o, es, ep, ho, r⟩, _⟩ := id I.loc
 obtain ⟨sl, hL⟩ := u.any ho I.free fun z => (hch _ z).2.1 rfl
 exact I.step (ch := ch) hch (fun b o hL hb hc e n => u.keep b o e n (fun z => (List.mem_cons.mp (I.stkSub b z)).elim hL hb) hc) (fun b o _ _ hc e n => u.any e n hc) (fun b o hc e n => u.free b o e n hc) (fun b o hc e => u.there b o e hc) u.tups u.frzs u.tbls (fun m' hm => by
  obtain ⟨o', es', ep', ho', r'⟩ := hm
  rw [ho] at ho'; cases ho'
  exact ⟨_, es', ep', hL, r'⟩) hok hg
theorem Inv.turned {t' : Nat} {it : Addr} (I : Inv X pins σ H s) (k : ∀ b o, b ≠ it → s.heap.get? b = some o → h'.get? b = some o) (hn : H it = none) (hL : it ≠ X.env.locals)
  (h1 : it ∈ X.ex ∨ X.s₀.heap.objs.size ≤ it) (h2 : ∀ x c, X.env.cells.lookup x = some c → c ≠ it) (h3 : ∀ p ∈ X.pn ++ pins, p.1 ≠ it) : Inv X pins σ H { s with heap := h', toks := t' } := by
 have nit : ∀ b u, H b = some u → b ≠ it := fun b u e z => by rw [z, hn] at e; cases e
 refine I.step (g' := s.gens) (d' := s.drawn) (ch := [it]) (fun b hb => ?_) (fun b o _ _ hc e _ => k b o (fun z => hc (by simp [z])) e) (fun b o _ _ hc e _ => ⟨o.slots, k b o (fun z => hc (by simp [z])) e⟩) (fun _ _ _ _ n => n)
  (fun b o hc e => ⟨o, k b o (fun z => hc (by simp [z])) e⟩) (fun _ _ e => e) (fun _ _ _ e => e) (fun b ps e => ⟨#[], by rw [e]; simp⟩) (fun m hm => ?_) (fun b u e => ?_) I.bare
 ·have e : b = it := by simpa using hb
  subst e
  exact ⟨h1, hL, h2, h3⟩
 ·obtain ⟨o, es, ep, ho, r⟩ := hm
  exact ⟨o, es, ep, k _ o (Ne.symm hL) ho, r⟩
 ·refine (I.hok b u e).stay (fun c v hc q => k c v ?_ q) (fun _ q => q) fun _ _ q => q
  rcases hc with z | z
  ·rw [z]; exact nit b u e
  ·exact nit c _ z
theorem Inv.tok (I : Inv X pins σ H s) (t : Nat) : Inv X pins σ H { s with toks := t } := I.un (h' := s.heap) (t' := t) Un.refl I.hok
theorem Inv.kept {t' : Nat} (I : Inv X pins σ H s) (k : ∀ b u, s.heap.get? b = some u → h'.get? b = some u) : Inv X pins σ H { s with heap := h', toks := t' } := I.un (Un.kept k) (I.hok.kept k)
theorem Inv.laid {a : Addr} {o : HO} {t' : Nat} (I : Inv X pins σ H s) (k : ∀ b u, s.heap.get? b = some u → h'.get? b = some u) (hp : s.heap.objs.size ≤ a) (new : ObjOk X.prog X.w (upd H a o) h' a o) :
  Inv X pins σ (upd H a o) { s with heap := h', toks := t' } := I.un (Un.laid k hp (I.hok.fresh hp)) (I.hok.laid k hp new)
theorem Inv.write {x e : Addr} {o : HO} {t' : Nat} (I : Inv X pins σ H s) (mu : Mut (H x)) (he : e = x ∨ H e = some (.own x)) (k : ∀ b u, b ≠ e → s.heap.get? b = some u → h'.get? b = some u) (heo : ∃ u, h'.get? e = some u)
  (new : ObjOk X.prog X.w (upd H x o) h' x o) : Inv X pins σ (upd H x o) { s with heap := h', toks := t' } := I.un (Un.write mu he k heo) (I.hok.write mu he k heo new)
theorem Inv.pins_of {pins' : List (Addr × Obj)} (I : Inv X pins σ H s) (h : ∀ p ∈ pins', s.heap.get? p.1 = some p.2 ∧ H p.1 = none ∧ p.1 ≠ X.env.locals ∧ p.1 ∉ X.fs ∧ ∀ v, p.2.data ≠ .cell v) : Inv X pins' σ H s :=
 ⟨I.ok, I.os, I.bare, I.base, I.loc, I.cell, I.free, I.freeC, fun p hp => (List.mem_append.mp hp).elim (fun z => I.pin p (List.mem_append_left _ z)) (h p), I.hok, I.len⟩
theorem nodup_ix {N : List Str} (hN : N.Nodup) {i j : Nat} {x : Str} (a : N[i]? = some x) (b : N[j]? = some x) : i = j := by
 obtain ⟨h1, e1⟩ := List.getElem?_eq_some_iff.mp a
 obtain ⟨h2, e2⟩ := List.getElem?_eq_some_iff.mp b
 exact (List.getElem_inj hN).mp (e1.trans e2.symm)
theorem store_ok2 {M : Model} {A : Around} {E : Value → Shared → Prop} {i : Nat} {x : Str} {v : V} {u : Value} {Q : Unit → Shared → Prop} (I : Inv X pins σ H s) (hN : X.N.Nodup) (hi : X.N[i]? = some x) (hx : Loc X.env.scope x) (r : RelV v u)
  (h : ∀ s', Inv X pins (σ.set i (some v)) H s' → (∃ a, Heap.SameBut a s.heap s'.heap ∧ (a = X.env.locals ∨ X.env.cells.lookup x = some a)) → Q () s') (hf : X.fn x = true ∨ X.env.scope.names.lookup x = some .local := by first | exact .inl rfl | exact .inr rfl | assumption) : wpAny M A (storeName X.env x u) Q E s := by
 obtain ⟨m, hn, hl⟩ := id I.loc
 have hcls : (X.env.scope.kind == .class || (X.env.scope.kind == .module && X.env.locals != X.env.globals)) = false := by rw [I.ok.kind]; rfl
 have hiσ : i < σ.length := by rw [I.len]; exact (List.getElem?_eq_some_iff.mp hi).1
 have cne := I.cne
 have tracked : ∀ {a : Addr} {h' : Heap}, (∃ o, s.heap.get? a = some o ∧ H a = none) → Heap.SameBut a s.heap h' → HOk X.prog X.w H h' := fun {a h'} ha hs b ob e => by
  obtain ⟨_, _, hfree⟩ := ha
  refine (I.hok b ob e).stay (fun c w' hc q => (hs.2 c ?_).trans q) (fun _ q => q) fun _ _ q => q
  rintro rfl
  rcases hc with rfl | hc
  ·rw [hfree] at e; cases e
  ·rw [hfree] at hc; cases hc
 rcases hx with hk | hk
 ·refine wpAny_storeName_local hk hn (fun h' hn' hs => ?_) hcls
  obtain ⟨oL, _, _, hoL, _⟩ := id hn
  refine h _ ⟨I.ok, I.os, I.bare, ⟨fun b o e n hb hx => ?_, fun b o e n hb hx => ?_, I.base.free, fun b o e hx => ?_, I.base.tups, I.base.frzs, I.base.tbls⟩, ⟨_, hn', fun j y v' e1 e2 e3 => ?_⟩, fun y c e => ?_, I.free, I.freeC, fun p hp => ?_, tracked ⟨oL, hoL, I.free⟩ hs, by simpa using I.len⟩ ⟨_, hs, .inl rfl⟩
  ·exact (hs.2 b (Nat.ne_of_lt (Nat.lt_of_lt_of_le (Heap.lt_size e) I.ok.above))).trans (I.base.keep b o e n hb hx)
  ·obtain ⟨sl, e1⟩ := I.base.slot b o e n hb hx
   exact ⟨sl, (hs.2 b (Nat.ne_of_lt (Nat.lt_of_lt_of_le (Heap.lt_size e) I.ok.above))).trans e1⟩
  ·obtain ⟨o', e1⟩ := I.base.there b o e hx
   exact ⟨o', (hs.2 b (Nat.ne_of_lt (Nat.lt_of_lt_of_le (Heap.lt_size e) I.ok.above))).trans e1⟩
  ·by_cases hj : j = i
   ·subst hj
    rw [hi] at e1; cases e1
    rw [List.getElem?_set_self hiσ] at e2
    cases e2
    exact ⟨u, r, .inl ⟨hk, by simp⟩⟩
   ·rw [List.getElem?_set_ne (Ne.symm hj)] at e2
    obtain ⟨u', r', q⟩ := hl j y v' e1 e2 e3
    refine ⟨u', r', ?_⟩
    rcases q with ⟨k, e⟩ | ⟨k, c, e, z⟩
    ·refine .inl ⟨k, ?_⟩
     have : y ≠ x := fun e => hj (nodup_ix hN e1 (e ▸ hi))
     simp [this, e]
    ·exact .inr ⟨k, c, e, z.sameBut hs (cne y c e)⟩
  ·obtain ⟨w', z⟩ := I.cell y c e
   exact ⟨w', z.sameBut hs (cne y c e)⟩
  ·obtain ⟨e, n, ne, nf, d⟩ := I.pin p hp
   exact ⟨(hs.2 p.1 ne).trans e, n, ne, nf, d⟩
 ·have hfn : X.fn x = true := by
   rcases hf with z | z
   ·exact z
   ·rw [z] at hk; cases hk
  obtain ⟨c, hc⟩ := I.ok.has x (.inl hk)
  obtain ⟨w', z⟩ := I.cell x c hc
  refine wpAny_storeName_cell I.ok.kind hk hc z (fun h' hc' hs => ?_)
  obtain ⟨oc, hoc, hocd⟩ := id z
  refine h { s with heap := h' } ⟨I.ok, I.os, I.bare, ⟨fun b o e n hb hx => ?_, fun b o e n hb hx => ?_, I.base.free, fun b o e hx => ?_, I.base.tups, I.base.frzs, I.base.tbls⟩, ⟨m, hn.sameBut hs (Ne.symm (cne x c hc)), fun j y v' e1 e2 e3 => ?_⟩, fun y c' e => ?_, I.free, I.freeC, fun p hp => ?_, tracked ⟨oc, hoc, I.freeC x c hc⟩ hs, by simpa using I.len⟩ ⟨c, hs, .inr hc⟩
  ·exact (hs.2 b (Nat.ne_of_lt (Nat.lt_of_lt_of_le (Heap.lt_size e) (I.ok.cab x c hfn hc)))).trans (I.base.keep b o e n hb hx)
  ·obtain ⟨sl, e1⟩ := I.base.slot b o e n hb hx
   exact ⟨sl, (hs.2 b (Nat.ne_of_lt (Nat.lt_of_lt_of_le (Heap.lt_size e) (I.ok.cab x c hfn hc)))).trans e1⟩
  ·obtain ⟨o', e1⟩ := I.base.there b o e hx
   exact ⟨o', (hs.2 b (Nat.ne_of_lt (Nat.lt_of_lt_of_le (Heap.lt_size e) (I.ok.cab x c hfn hc)))).trans e1⟩
  ·by_cases hj : j = i
   ·subst hj
    rw [hi] at e1; cases e1
    rw [List.getElem?_set_self hiσ] at e2
    cases e2
    exact ⟨u, r, .inr ⟨.inl hk, c, hc, hc'⟩⟩
   ·rw [List.getElem?_set_ne (Ne.symm hj)] at e2
    obtain ⟨u', r', q⟩ := hl j y v' e1 e2 e3
    refine ⟨u', r', ?_⟩
    rcases q with q | ⟨k, c', e, z'⟩
    ·exact .inl q
    ·refine .inr ⟨k, c', e, z'.sameBut hs ?_⟩
     rintro rfl
     exact hj (nodup_ix hN e1 (I.ok.inj _ _ _ e hc ▸ hi))
  ·by_cases hcc : c' = c
   ·subst hcc; exact ⟨_, hc'⟩
   ·obtain ⟨w2, z2⟩ := I.cell y c' e
    exact ⟨w2, z2.sameBut hs hcc⟩
  ·obtain ⟨e, n, ne, nf, d⟩ := I.pin p hp
   refine ⟨(hs.2 p.1 ?_).trans e, n, ne, nf, d⟩
   intro q
   rw [q, hoc] at e
   have q' : oc = p.2 := Option.some.inj e
   exact d w' (by rw [← q']; exact hocd)
theorem store_ok {M : Model} {A : Around} {E : Value → Shared → Prop} {i : Nat} {x : Str} {v : V} {u : Value} {Q : Unit → Shared → Prop} (I : Inv X pins σ H s) (hN : X.N.Nodup) (hi : X.N[i]? = some x) (hx : Loc X.env.scope x) (r : RelV v u)
  (h : ∀ s', Inv X pins (σ.set i (some v)) H s' → Q () s') (hf : X.fn x = true ∨ X.env.scope.names.lookup x = some .local := by first | exact .inl rfl | exact .inr rfl | assumption) : wpAny M A (storeName X.env x u) Q E s :=
 store_ok2 I hN hi hx r (fun s' I' _ => h s' I') hf
theorem Inv.call' {s' : Shared} {ch : List Addr} (I : Inv X pins σ H s) (ho : s'.os = s.os) (u : Un (frs X.stack) ch H H' s.heap s'.heap) (hok : HOk X.prog X.w H' s'.heap) (hg : AllBare s'.gens)
  (hch : ∀ b ∈ ch, (b ∈ X.ex ∨ X.s₀.heap.objs.size ≤ b) ∧ b ≠ X.env.locals ∧ (∀ x c, X.env.cells.lookup x = some c → c ≠ b) ∧ ∀ p ∈ X.pn ++ pins, p.1 ≠ b) : Inv X pins σ H' s' := by
 obtain ⟨h', g', d', t', o'⟩ := s'
 have e : o' = s.os := ho
 subst e
 exact I.call (g' := g') (t' := t') (d' := d') u hok hg hch
end
abbrev XK := Value → Option Addr → Hp → Prop
abbrev St := List (Option V)
abbrev VK := V → Hp → Prop
abbrev TE := St → Hp → VK → Prop
abbrev TT := St → Hp → (Bool → Hp → Prop) → Prop
abbrev TA := St → Hp → (List V → Hp → Prop) → Prop
structure Ends where
 nx : St → Hp → Prop
 rt : VK
 bk : St → Hp → Prop := fun _ _ => False
 ct : St → Hp → Prop := fun _ _ => False
abbrev TS := Ends → St → Hp → Prop
def EP (X : Cx) (pins : List (Addr × Obj)) (σ : St) (Q : VK) (u : Value) (s' : Shared) : Prop := ∃ v H', Inv X pins σ H' s' ∧ RelV v u ∧ Q v H'
def TP (X : Cx) (pins : List (Addr × Obj)) (σ : St) (Q : Bool → Hp → Prop) (b : Bool) (s' : Shared) : Prop := ∃ H', Inv X pins σ H' s' ∧ Q b H'
def AP (X : Cx) (pins : List (Addr × Obj)) (σ : St) (Q : List V → Hp → Prop) (us : List Value) (s' : Shared) : Prop := ∃ vs H', Inv X pins σ H' s' ∧ Vals vs us ∧ Q vs H'
def SP (X : Cx) (pins : List (Addr × Obj)) (D : Ends) (f : Flow) (s' : Shared) : Prop :=
 match f with
 | .next => ∃ σ' H', Inv X pins σ' H' s' ∧ D.nx σ' H'
 | .brk => ∃ σ' H', Inv X pins σ' H' s' ∧ D.bk σ' H'
 | .cont => ∃ σ' H', Inv X pins σ' H' s' ∧ D.ct σ' H'
 | .ret u => ∃ v σ' H', Inv X pins σ' H' s' ∧ RelV v u ∧ D.rt v H'
def PE (X : Cx) (e : Expr) (t : TE) : Prop :=
 ∀ (pins : List (Addr × Obj)) (s : Shared) (σ : St) (H : Hp) (Q : VK), Inv X pins σ H s → t σ H Q → wpAny (model X.prog X.w) X.A (eval e X.env) (EP X pins σ Q) X.xe s
def PT (X : Cx) (e : Expr) (t : TT) : Prop :=
 ∀ (pins : List (Addr × Obj)) (s : Shared) (σ : St) (H : Hp) (Q : Bool → Hp → Prop), Inv X pins σ H s → t σ H Q → wpAny (model X.prog X.w) X.A (isTrue e X.env (eval e X.env)) (TP X pins σ Q) X.xe s
def PW (X : Cx) (e : Expr) (t : TT) : Prop :=
 ∀ (whole : Sem Value) (pins : List (Addr × Obj)) (s : Shared) (σ : St) (H : Hp) (Q : Bool → Hp → Prop), Inv X pins σ H s → t σ H Q → wpAny (model X.prog X.w) X.A (isTrue e X.env whole) (TP X pins σ Q) X.xe s
theorem PW.pt {X : Cx} {e : Expr} {t : TT} (h : PW X e t) : PT X e t := h _
def PA (X : Cx) (es : List Expr) (t : TA) : Prop :=
 ∀ (pos : Pos) (pins : List (Addr × Obj)) (s : Shared) (σ : St) (H : Hp) (Q : List V → Hp → Prop), Inv X pins σ H s → t σ H Q → wpAny (model X.prog X.w) X.A (spliced (backTo pos (starEach es X.env))) (AP X pins σ Q) X.xe s
def PS (X : Cx) (st : Stmt) (t : TS) : Prop :=
 ∀ (pins : List (Addr × Obj)) (s : Shared) (σ : St) (H : Hp) (D : Ends), Inv X pins σ H s → t D σ H → wpAny (model X.prog X.w) X.A (exec st X.env) (SP X pins D) X.xe s
def PSs (X : Cx) (st : List Stmt) (t : TS) : Prop :=
 ∀ (pins : List (Addr × Obj)) (s : Shared) (σ : St) (H : Hp) (D : Ends), Inv X pins σ H s → t D σ H → wpAny (model X.prog X.w) X.A (execs st X.env) (SP X pins D) X.xe s
theorem thn {α : Type} {t : Sem α} {Q Q' : α → Shared → Prop} {M : Model} {A : Around} {E : Value → Shared → Prop} {s : Shared} (h : wpAny M A t Q E s) (hQ : ∀ a s, Q a s → Q' a s) : wpAny M A t Q' E s := wpAny_mono h hQ fun _ _ x => x
section
variable {X : Cx}
theorem bin {a b : Expr} {ta tb : TE} (ha : PE X a ta) (hb : PE X b tb) {pins : List (Addr × Obj)} {s : Shared} {σ : St} {H : Hp} {R : V → V → Hp → Prop} (I : Inv X pins σ H s) (h : ta σ H fun x H1 => tb σ H1 fun y H2 => R x y H2)
  {α : Type} {Q : α → Shared → Prop} {f : Value → Value → Sem α}
  (hf : ∀ v u s2 x y H2, Inv X pins σ H2 s2 → RelV x v → RelV y u → R x y H2 → wpAny (model X.prog X.w) X.A (f v u) Q X.xe s2) :
  wpAny (model X.prog X.w) X.A (eval a X.env) (fun v s₁ => wpAny (model X.prog X.w) X.A (eval b X.env) (fun u s₂ => wpAny (model X.prog X.w) X.A (f v u) Q X.xe s₂) X.xe s₁) X.xe s := by
 refine thn (ha pins s σ H _ I h) fun v s1 ⟨x, H1, I1, r1, q1⟩ => ?_
 refine thn (hb pins s1 σ H1 _ I1 q1) fun u s2 ⟨y, H2, I2, r2, q2⟩ => ?_
 exact hf v u s2 x y H2 I2 r1 r2 q2
def tVar (i : Nat) : TE := fun σ H Q => ∃ v, σ[i]? = some (some v) ∧ Q v H
def tC (v : V) : TE := fun _ H Q => Q v H
theorem pe_var {i : Nat} {x : Str} {pos : Pos} (hN : X.N[i]? = some x) (hv : Vis X.env.scope x) (hd : (x == ("__debug__" : Str)) = false := by decide) (hcd : (x == ("__classdict__" : Str)) = false := by decide) : PE X (.Name x pos) (tVar i) := by
 intro pins s σ H Q I h
 obtain ⟨v, e, h⟩ := h
 obtain ⟨m, hn, hl⟩ := I.loc
 obtain ⟨u, r, l⟩ := hl i x v hN e hv
 have fin : EP X pins σ Q u s := ⟨v, H, I, r, h⟩
 rcases l with ⟨hk, hm⟩ | ⟨hk, c, hc, hcell⟩
 ·exact wpAny_Name (wpAny_loadName_local I.ok.kind hk hn hm fin) hd
 ·rcases hk with hk | hk
  ·exact wpAny_Name (wpAny_loadName_cell I.ok.kind hk hc hcell fin) hd
  ·exact wpAny_Name (wpAny_loadName_free I.ok.kind hk hc hcell fin hcd) hd
theorem pe_int {i j pos} : PE X (.Constant (.int i) j pos) (tC (.int i)) := fun _ _ _ H _ I h => wpAny_Constant_int ⟨.int i, H, I.tok _, ⟨_, rfl⟩, h⟩
theorem pe_bl {b j pos} : PE X (.Constant (.bool b) j pos) (tC (.bl b)) := fun _ _ _ H _ I h => Constant_bool ⟨.bl b, H, I, rfl, h⟩
theorem pe_non {j pos} : PE X (.Constant .none j pos) (tC .non) := fun _ _ _ H _ I h => Constant_none ⟨.non, H, I, rfl, h⟩
theorem pe_str {x j pos} : PE X (.Constant (.str x) j pos) (tC (.str x)) := fun _ _ _ H _ I h => Calls.Constant_str ⟨.str x, H, I.tok _, ⟨_, rfl⟩, h⟩
def Gl (X : Cx) (x : Str) : Prop := X.env.kindOf x = some .globalImplicit
theorem ld_glob {E : Value → Shared → Prop} {pins : List (Addr × Obj)} {s : Shared} {σ : St} {H : Hp} {x : Str} {u : Value} {pos : Pos} {Q : Value → Shared → Prop} (I : Inv X pins σ H s) (hg : Gl X x) (hm : X.mg x = some u) (h : Q u s)
  (hd : (x == ("__debug__" : Str)) = false := by decide) : wpAny (model X.prog X.w) X.A (eval (.Name x pos) X.env) Q E s :=
 Calls.Name_function_global I.ok.kind hg (Calls.loadGlobal_global (by rw [I.ok.glob]; exact I.mod.glob.keeps I.bk) hm h) hd
theorem ld_blt {E : Value → Shared → Prop} {pins : List (Addr × Obj)} {s : Shared} {σ : St} {H : Hp} {x : Str} {u : Value} {pos : Pos} {Q : Value → Shared → Prop} (I : Inv X pins σ H s) (hg : Gl X x) (hm : X.mg x = none) (hv : bootBuiltins x = some u) (h : Q u s)
  (hn : x ≠ "__name__" := by decide) (hd : (x == ("__debug__" : Str)) = false := by decide) : wpAny (model X.prog X.w) X.A (eval (.Name x pos) X.env) Q E s := by
 obtain ⟨mb, h1, h2⟩ := I.mod.blt
 exact Calls.Name_function_global I.ok.kind hg (Calls.loadGlobal_builtin (by rw [I.ok.glob]; exact I.mod.glob.keeps I.bk) hm (by rw [I.ok.blt]; exact h1.keeps I.bk) ((h2 x hn).trans hv) h) hd
theorem pe_glob {x : Str} {v : V} {u : Value} {pos : Pos} (hg : Gl X x) (hm : X.mg x = some u) (r : RelV v u) (hd : (x == ("__debug__" : Str)) = false := by decide) : PE X (.Name x pos) (tC v) :=
 fun _ _ _ H _ I h => ld_glob I hg hm ⟨v, H, I, r, h⟩ hd
theorem pe_bltn {x : Str} {v : V} {u : Value} {pos : Pos} (hg : Gl X x) (hm : X.mg x = none) (hv : bootBuiltins x = some u) (r : RelV v u) (hn : x ≠ "__name__" := by decide) (hd : (x == ("__debug__" : Str)) = false := by decide) : PE X (.Name x pos) (tC v) :=
 fun _ _ _ H _ I h => ld_blt I hg hm hv ⟨v, H, I, r, h⟩ hn hd
variable {a b : Expr} {ta tb : TE} {pos : Pos}
def PC (X : Cx) (op : CmpOp) (a b : Expr) (t : TE) : Prop :=
 ∀ (pins : List (Addr × Obj)) (s : Shared) (σ : St) (H : Hp) (Q : VK), Inv X pins σ H s → t σ H Q →
  wpAny (model X.prog X.w) X.A (eval a X.env) (fun v s₁ => wpAny (model X.prog X.w) X.A (eval b X.env) (fun u s₂ => wpAny (model X.prog X.w) X.A (compareOp op v u) (EP X pins σ Q) X.xe s₂) X.xe s₁) X.xe s
theorem nobehind (b : Expr) {op : CmpOp} (h : op ≠ .In) (h2 : op ≠ .NotIn) : behindInMarks op b = false := by
 have e1 : (op == CmpOp.In) = false := by cases op <;> first | rfl | exact absurd rfl h
 have e2 : (op == CmpOp.NotIn) = false := by cases op <;> first | rfl | exact absurd rfl h2
 cases b <;> simp [behindInMarks, e1, e2]
def tB (t : TE) : TT := fun σ H Q => t σ H fun x H1 => ∃ c, x = .bl c ∧ Q c H1
theorem pe_cmp {op : CmpOp} {t : TE} (h : PC X op a b t) (h1 : behindInMarks op b = false := by first | exact nobehind _ (by decide) (by decide) | rfl) : PE X (.Compare a [op] [b] pos) t := fun pins s σ H Q I hw => wpAny_Compare1 (h pins s σ H Q I hw) h1
theorem pt_cmp {op : CmpOp} {t : TE} (h : PC X op a b t) (h1 : behindInMarks op b = false := by first | exact nobehind _ (by decide) (by decide) | rfl) : PT X (.Compare a [op] [b] pos) (tB t) := by
 intro pins s σ H Q I hw
 refine wpAny_isTrue_Compare1 (thn (h pins s σ H _ I hw) fun v s1 h1 => thn h1 fun u s2 h2 => thn h2 fun c s3 ⟨x, H1, I1, r1, q1⟩ => ?_) h1
 obtain ⟨d, rfl, q⟩ := q1
 cases r1
 exact wpAny_truthy_bool ⟨H1, I1, q⟩
variable {tA tB' : TT} {rest : List Expr}
def tAnd (t u : TT) : TT := fun σ H Q => t σ H fun c H1 => if c = true then u σ H1 Q else Q false H1
def tOr (t u : TT) : TT := fun σ H Q => t σ H fun c H1 => if c = true then Q true H1 else u σ H1 Q
def tNot (t : TT) : TT := fun σ H Q => t σ H fun c H1 => Q (!c) H1
theorem pw_and1 (ha : PT X a tA) : PW X (.BoolOp .And [a] pos) tA := by
 intro wh pins s σ H Q I h
 refine isTrue_and (thn (ha pins s σ H Q I h) fun c s1 e => ?_)
 cases c with
 | true => exact isTrue_and_nil e
 | false => exact e
theorem pw_or1 (ha : PT X a tA) : PW X (.BoolOp .Or [a] pos) tA := by
 intro wh pins s σ H Q I h
 refine isTrue_or (thn (ha pins s σ H Q I h) fun c s1 e => ?_)
 cases c with
 | false => exact isTrue_or_nil e
 | true => exact e
theorem pw_and (ha : PT X a tA) (hb : PW X (.BoolOp .And (b :: rest) pos) tB') : PW X (.BoolOp .And (a :: b :: rest) pos) (tAnd tA tB') := by
 intro wh pins s σ H Q I h
 refine isTrue_and (thn (ha pins s σ H _ I h) fun c s1 ⟨H1, I1, q1⟩ => ?_)
 cases c with
 | true => exact hb wh pins s1 σ H1 Q I1 q1
 | false => exact ⟨H1, I1, q1⟩
theorem pw_or (ha : PT X a tA) (hb : PW X (.BoolOp .Or (b :: rest) pos) tB') : PW X (.BoolOp .Or (a :: b :: rest) pos) (tOr tA tB') := by
 intro wh pins s σ H Q I h
 refine isTrue_or (thn (ha pins s σ H _ I h) fun c s1 ⟨H1, I1, q1⟩ => ?_)
 cases c with
 | true => exact ⟨H1, I1, q1⟩
 | false => exact hb wh pins s1 σ H1 Q I1 q1
theorem pt_not (ha : PT X a tA) : PT X (.UnaryOp .Not a pos) (tNot tA) := by
 intro pins s σ H Q I h
 exact isTrue_not (ha pins s σ H (fun c H1 => Q (!c) H1) I h)
def tAndV (ta tb : TE) : TE := fun σ H Q => ta σ H fun x H1 => ∃ c, x = .bl c ∧ if c = true then tb σ H1 Q else Q (.bl false) H1
def tNotV (ta : TE) : TE := fun σ H Q => ta σ H fun x H1 => ∃ c, x = .bl c ∧ Q (.bl (!c)) H1
theorem pe_one {op} {t : TE} (h : PE X a t) : PE X (.BoolOp op [a] pos) t := fun pins s σ H Q I hw => BoolOp_one (h pins s σ H Q I hw)
theorem pe_and (ha : PE X a ta) (hb : PE X (.BoolOp .And (b :: rest) pos) tb) : PE X (.BoolOp .And (a :: b :: rest) pos) (tAndV ta tb) := by
 intro pins s σ H Q I h
 refine BoolOp_and (thn (ha pins s σ H _ I h) fun v s1 ⟨x, H1, I1, r1, q1⟩ => ?_)
 obtain ⟨c, rfl, q1⟩ := q1
 cases r1
 refine wpAny_truthy_bool ?_
 cases c with
 | true => exact hb pins s1 σ H1 Q I1 q1
 | false => exact ⟨.bl false, H1, I1, rfl, q1⟩
theorem pe_not (ha : PE X a ta) : PE X (.UnaryOp .Not a pos) (tNotV ta) := by
 intro pins s σ H Q I h
 refine UnaryOp_ (thn (ha pins s σ H _ I h) fun v s1 ⟨x, H1, I1, r1, q1⟩ => ?_)
 obtain ⟨c, rfl, q1⟩ := q1
 cases r1
 exact not_of (wpAny_truthy_bool ⟨.bl (!c), H1, I1, rfl, q1⟩)
def tIf (t : TT) (ta tb : TE) : TE := fun σ H Q => t σ H fun c H1 => if c = true then ta σ H1 Q else tb σ H1 Q
theorem pe_ifExp {c : Expr} (hc : PT X c tA) (ha : PE X a ta) (hb : PE X b tb) : PE X (.IfExp c a b pos) (tIf tA ta tb) := by
 intro pins s σ H Q I h
 refine wpAny_IfExp (thn (hc pins s σ H _ I h) fun d s1 ⟨H1, I1, q1⟩ => ?_)
 cases d with
 | true => exact ha pins s1 σ H1 Q I1 q1
 | false => exact hb pins s1 σ H1 Q I1 q1
end
def SqL (K : PySem.W.Frag) (H : Hp) (a : Addr) (xs : List V) : Prop :=
 Rd H a (.lst xs) ∨
  ∃ (o : Obj) (its : Array Value) (n : Nat), K.lookup a = some o ∧ o.cls = .type "list" ∧ o.dict = none ∧ o.data = .seq its n ∧ its.size ≤ sizeLine ∧ Vals xs its.toList
def SqT (K : PySem.W.Frag) (H : Hp) (a : Addr) (xs : List V) : Prop :=
 Rd H a (.tup xs) ∨
  ∃ (o : Obj) (its : Array Value) (n : Nat), K.lookup a = some o ∧ o.cls = .type "tuple" ∧ o.data = .seq its n ∧ its.size ≤ sizeLine ∧ Vals xs its.toList
def absV : Value → Option V
 | .none => some .non
 | .bool b => some (.bl b)
 | .int i _ => some (.int i)
 | .str x _ => some (.str x)
 | .bytes b _ => some (.byt b)
 | .float b _ => some (.flt b)
 | .ref a => some (.ref a)
 | .type n => some (.ty n)
 | _ => none
theorem RelV.abs {x : V} {u : Value} (r : RelV x u) : absV u = some x := by
 cases x with
 | non => cases r; rfl
 | bl _ => cases r; rfl
 | int _ => obtain ⟨t, rfl⟩ := r; rfl
 | str _ => obtain ⟨t, rfl⟩ := r; rfl
 | byt _ => obtain ⟨t, rfl⟩ := r; rfl
 | flt _ => obtain ⟨t, rfl⟩ := r; rfl
 | ref _ => cases r; rfl
 | ty _ => cases r; rfl
theorem RelV.inj {x y : V} {u : Value} (r : RelV x u) (q : RelV y u) : x = y := Option.some.inj (r.abs.symm.trans q.abs)
theorem Vals.inj : ∀ {xs ys : List V} {us : List Value}, Vals xs us → Vals ys us → xs = ys
 | _, _, _, .nil, .nil => rfl
 | _, _, _, .cons r t, .cons r' t' => by rw [r.inj r', Vals.inj t t']
section
variable {X : Cx} {pins : List (Addr × Obj)} {σ : St} {H : Hp} {s : Shared} {a : Addr} {xs ys : List V}
theorem SqL.of {K : PySem.W.Frag} (h : H a = some (.lst xs)) : SqL K H a xs := .inl (.inl h)
theorem SqT.of {K : PySem.W.Frag} (h : H a = some (.tup xs)) : SqT K H a xs := .inl (.inl h)
theorem Inv.list (I : Inv X pins σ H s) (h : SqL X.K H a xs) : ∃ its : List Value, Vals xs its ∧ PlainL s.heap a its.toArray ∧ xs.length ≤ sizeLine := by
 rcases h with h | ⟨o, its, n, hk, hc, hd, hs, hz, r⟩
 ·obtain ⟨z, its, n, r, e⟩ := h.ok I.hok
  exact ⟨its, r, ⟨_, n, e, rfl, rfl, rfl⟩, z⟩
 ·refine ⟨its.toList, r, ⟨o, n, I.kIn a o hk, hc, hd, by simpa using hs⟩, ?_⟩
  have e := r.length
  simp only [Array.length_toList] at e
  omega
theorem Inv.tuple (I : Inv X pins σ H s) (h : SqT X.K H a xs) : ∃ its : List Value, Vals xs its ∧ IsTup s.heap a its.toArray ∧ xs.length ≤ sizeLine := by
 rcases h with h | ⟨o, its, n, hk, hc, hs, hz, r⟩
 ·obtain ⟨z, its, r, p⟩ := h.ok I.hok
  exact ⟨its, r, p, z⟩
 ·refine ⟨its.toList, r, ⟨o, I.kIn a o hk, hc, n, by simpa using hs⟩, ?_⟩
  have e := r.length
  simp only [Array.length_toList] at e
  omega
theorem Inv.list_inj (I : Inv X pins σ H s) (h : SqL X.K H a xs) (h' : SqL X.K H a ys) : xs = ys := by
 obtain ⟨its, r, ⟨o, n, e, _, _, d⟩, _⟩ := I.list h
 obtain ⟨its', r', ⟨o', n', e', _, _, d'⟩, _⟩ := I.list h'
 rw [e] at e'; cases e'
 rw [d] at d'
 injection d' with d1 _
 have : its = its' := by simpa using congrArg Array.toList d1
 subst this
 exact r.inj r'
theorem Inv.tuple_inj (I : Inv X pins σ H s) (h : SqT X.K H a xs) (h' : SqT X.K H a ys) : xs = ys := by
 obtain ⟨its, r, ⟨o, e, _, n, d⟩, _⟩ := I.tuple h
 obtain ⟨its', r', ⟨o', e', _, n', d'⟩, _⟩ := I.tuple h'
 rw [e] at e'; cases e'
 rw [d] at d'
 injection d' with d1 _
 have : its = its' := by simpa using congrArg Array.toList d1
 subst this
 exact r.inj r'
end
abbrev Cx.wish (X : Cx) (E : Value → Shared → Prop) : Cx := { X with xe := E }
abbrev Cx.nox (X : Cx) : Cx := X.wish fun _ _ => False
theorem Cx.Ok.wish {X : Cx} (ok : X.Ok) (E : Value → Shared → Prop) : (X.wish E).Ok :=
 ⟨ok.mod, ok.kind, ok.glob, ok.blt, ok.above, ok.inj, ok.has, ok.cab, ok.hd, ok.frames, ok.stk, ok.exf, ok.bs, ok.bsz, ok.noex, ok.exfs, ok.funs, ok.frf⟩
theorem Cx.Ok.unwish {X : Cx} {E : Value → Shared → Prop} (ok : (X.wish E).Ok) : X.Ok :=
 ⟨ok.mod, ok.kind, ok.glob, ok.blt, ok.above, ok.inj, ok.has, ok.cab, ok.hd, ok.frames, ok.stk, ok.exf, ok.bs, ok.bsz, ok.noex, ok.exfs, ok.funs, ok.frf⟩
section
variable {X : Cx} {pins : List (Addr × Obj)} {σ : St} {H : Hp} {s : Shared} {E : Value → Shared → Prop}
theorem Inv.wish (I : Inv X pins σ H s) (E : Value → Shared → Prop) : Inv (X.wish E) pins σ H s := ⟨I.ok.wish E, I.os, I.bare, I.base, I.loc, I.cell, I.free, I.freeC, I.pin, I.hok, I.len⟩
theorem Inv.unwish (I : Inv (X.wish E) pins σ H s) : Inv X pins σ H s := ⟨I.ok.unwish, I.os, I.bare, I.base, I.loc, I.cell, I.free, I.freeC, I.pin, I.hok, I.len⟩
theorem SP.unwish {D : Ends} {f : Flow} {s' : Shared} (h : SP (X.wish E) pins D f s') : SP X pins D f s' := by
 cases f with
 | next => obtain ⟨σ', H', I, q⟩ := h; exact ⟨σ', H', I.unwish, q⟩
 | brk => obtain ⟨σ', H', I, q⟩ := h; exact ⟨σ', H', I.unwish, q⟩
 | cont => obtain ⟨σ', H', I, q⟩ := h; exact ⟨σ', H', I.unwish, q⟩
 | ret u => obtain ⟨v, σ', H', I, r, q⟩ := h; exact ⟨v, σ', H', I.unwish, r, q⟩
theorem PSs.nox {st : List Stmt} {t : TS} (h : PSs X.nox st t) : PSs X st t := fun pins s σ H D I hw =>
 wpAny_mono (h pins s σ H D (I.wish _) hw) (fun _ _ q => q.unwish) fun _ _ z => False.elim z
end
section
variable {X : Cx} {st : Stmt} {rest : List Stmt} {t u : TS} {e : Expr} {te : TE} {pos : Pos}
def tNext : TS := fun D σ H => D.nx σ H
def tSeq (t u : TS) : TS := fun D σ H => t { D with nx := u D } σ H
theorem pss_nil : PSs X [] tNext := fun _ _ σ H _ I h => wpAny_execs_nil ⟨σ, H, I, h⟩
theorem pss_cons (h1 : PS X st t) (h2 : PSs X rest u) : PSs X (st :: rest) (tSeq t u) := by
 intro pins s σ H D I h
 refine wpAny_execs_cons (thn (h1 pins s σ H { D with nx := u D } I h) fun f s1 q => ?_)
 cases f with
 | next =>
  obtain ⟨σ', H', I', q⟩ := q
  exact h2 pins s1 σ' H' D I' q
 | ret v => exact q
 | brk => exact q
 | cont => exact q
theorem pss_one (h1 : PS X st t) : PSs X [st] t := by
 intro pins s σ H D I h
 refine wpAny_execs_cons (thn (h1 pins s σ H D I h) fun f s1 q => ?_)
 cases f with
 | next => exact wpAny_execs_nil q
 | ret v => exact q
 | brk => exact q
 | cont => exact q
theorem Inv.quiet {pins : List (Addr × Obj)} {σ : St} {H : Hp} {s : Shared} (I : Inv X pins σ H s) : interactive X.env = false := by simp [interactive, I.ok.kind]
def tDrop (te : TE) : TS := fun D σ H => te σ H fun _ H1 => D.nx σ H1
theorem ps_expr (he : PE X e te) (hs : swapsWith e none pos.line X.env = pure false := by rfl) : PS X (.Expr e pos) (tDrop te) := by
 intro pins s σ H D I h
 exact wpAny_Expr_any (thn (he pins s σ H _ I h) fun v s1 ⟨x, H1, I1, r1, q1⟩ => ⟨σ, H1, I1, q1⟩) I.quiet hs
def tRet (te : TE) : TS := fun D σ H => te σ H D.rt
theorem ps_ret (he : PE X e te) : PS X (.Return (some e) pos) (tRet te) := by
 intro pins s σ H D I h
 exact wpAny_Return_some (thn (he pins s σ H _ I h) fun v s1 ⟨x, H1, I1, r1, q1⟩ => ⟨x, σ, H1, I1, r1, q1⟩)
def tIfS (c : TT) (t u : TS) : TS := fun D σ H => c σ H fun b H1 => if b = true then t D σ H1 else u D σ H1
theorem ps_if {c : Expr} {a b : List Stmt} {tc : TT} (hc : PT X c tc) (ha : PSs X a t) (hb : PSs X b u) : PS X (.If c a b pos) (tIfS tc t u) := by
 intro pins s σ H D I h
 refine wpAny_If (thn (hc pins s σ H _ I h) fun d s1 ⟨H1, I1, q1⟩ => ?_)
 cases d with
 | true => exact ha pins s1 σ H1 D I1 q1
 | false => exact hb pins s1 σ H1 D I1 q1
end
abbrev TG := V → St → Hp → (St → Hp → Prop) → Prop
abbrev TGs := List V → St → Hp → (St → Hp → Prop) → Prop
def PG (X : Cx) (target : Expr) (t : TG) : Prop :=
 ∀ (pins : List (Addr × Obj)) (s : Shared) (σ : St) (H : Hp) (v : V) (u : Value) (Q : St → Hp → Prop), Inv X pins σ H s → RelV v u → t v σ H Q →
  wpAny (model X.prog X.w) X.A (assign target X.env u) (fun _ s' => ∃ σ' H', Inv X pins σ' H' s' ∧ Q σ' H') X.xe s
def PGs (X : Cx) (ts : List Expr) (t : TGs) : Prop :=
 ∀ (pins : List (Addr × Obj)) (s : Shared) (σ : St) (H : Hp) (vs : List V) (us : List Value) (Q : St → Hp → Prop), Inv X pins σ H s → Vals vs us → t vs σ H Q →
  wpAny (model X.prog X.w) X.A (assignInOrder ((assignEach ts X.env).map (·.2)) us) (fun _ s' => ∃ σ' H', Inv X pins σ' H' s' ∧ Q σ' H') X.xe s
abbrev TSet := V → V → V → Hp → (Hp → Prop) → Prop
def PSet (X : Cx) (t : TSet) : Prop :=
 ∀ (pins : List (Addr × Obj)) (s : Shared) (σ : St) (H : Hp) (o i v : V) (ov iv u : Value) (Q : Hp → Prop), Inv X pins σ H s → RelV o ov → RelV i iv → RelV v u → t o i v H Q →
  wpAny (model X.prog X.w) X.A (setItem ov iv u) (fun _ s' => ∃ H', Inv X pins σ H' s' ∧ Q H') X.xe s
abbrev TIp := V → V → Hp → VK → Prop
def PIp (X : Cx) (op : Operator) (t : TIp) : Prop :=
 ∀ (pins : List (Addr × Obj)) (s : Shared) (σ : St) (H : Hp) (x y : V) (v u : Value) (Q : VK), Inv X pins σ H s → RelV x v → RelV y u → t x y H Q →
  wpAny (model X.prog X.w) X.A (inplaceOp op v u) (EP X pins σ Q) X.xe s
section
variable {X : Cx} {pos : Pos}
def gName (i : Nat) : TG := fun v σ H Q => Q (σ.set i (some v)) H
theorem pg_name {i : Nat} {x : Str} (hN : X.N.Nodup) (hi : X.N[i]? = some x) (hx : Loc X.env.scope x) (hf : X.fn x = true ∨ X.env.scope.names.lookup x = some .local := by first | exact .inl rfl | exact .inr rfl | assumption) : PG X (.Name x pos) (gName i) := by
 intro pins s σ H v u Q I r h
 exact wpAny_assign_Name (store_ok I hN hi hx r (fun s' I' => ⟨_, H, I', h⟩) hf)
def gNil : TGs := fun vs σ H Q => vs = [] ∧ Q σ H
def gCons (t : TG) (u : TGs) : TGs := fun vs σ H Q => ∃ v r, vs = v :: r ∧ t v σ H fun σ' H' => u r σ' H' Q
theorem pgs_nil : PGs X [] gNil := by
 intro pins s σ H vs us Q I r h
 obtain ⟨e, h⟩ := h
 subst e
 cases r
 exact assignInOrder_nil ⟨σ, H, I, h⟩
theorem pgs_cons {e : Expr} {es : List Expr} {t : TG} {u : TGs} (h1 : PG X e t) (h2 : PGs X es u)
  (hs : (assignEach (e :: es) X.env).map (·.2) = assign e X.env :: (assignEach es X.env).map (·.2) := by rfl) : PGs X (e :: es) (gCons t u) := by
 intro pins s σ H vs us Q I r h
 obtain ⟨v, vr, e1, h⟩ := h
 subst e1
 cases r with
 | cons r rr =>
  rw [hs]
  refine assignInOrder_cons (thn (h1 pins s σ H _ _ _ I r h) fun _ s1 ⟨σ1, H1, I1, q1⟩ => ?_)
  exact h2 pins s1 σ1 H1 _ _ Q I1 rr q1
def gTup (K : PySem.W.Frag) (n : Nat) (t : TGs) : TG := fun v σ H Q => ∃ a xs, v = .ref a ∧ SqT K H a xs ∧ xs.length = n ∧ t xs σ H Q
theorem pg_tup {es : List Expr} {k : Nat} {t : TGs} {n : Nat} (hc : X.calm = true) (h : PGs X es t)
  (hn : (assignEach es X.env).length = n := by rfl) (hst : (assignEach es X.env).findIdx? (·.1) = none := by rfl) : PG X (.Tuple es k pos) (gTup X.K n t) := by
 intro pins s σ H v u Q I r hw
 obtain ⟨a, xs, e1, hq, hl, hw⟩ := hw
 subst e1
 cases r
 obtain ⟨its, rv, ht, hz⟩ := I.tuple hq
 refine assign_Tuple_tuple (I.ok.hd hc) ht (by simp [hn, ← hl, rv.length]) hst fun h' hx => ?_
 have I1 : Inv X pins σ H { s with heap := h' } := I.kept (t' := s.toks) fun b o e => hx b o (Nat.ne_of_lt (Heap.lt_size e)) e
 exact h pins _ σ H xs _ Q I1 (by simpa using rv) hw
def tAsg (te : TE) (g : TG) : TS := fun D σ H => te σ H fun x H1 => g x σ H1 D.nx
theorem ps_set {i : Nat} {x : Str} {e : Expr} {te : TE} {pos' : Pos} (hN : X.N.Nodup) (hi : X.N[i]? = some x) (hx : Loc X.env.scope x) (he : PE X e te) (hs : swapsWith e (some (.Name x pos')) pos.line X.env = pure false := by rfl) (hf : X.fn x = true ∨ X.env.scope.names.lookup x = some .local := by first | exact .inl rfl | exact .inr rfl | assumption) :
  PS X (.Assign [.Name x pos'] e pos) (tAsg te (gName i)) := by
 intro pins s σ H D I h
 refine wpAny_Assign_Name (thn (he pins s σ H _ I h) fun v s1 ⟨y, H1, I1, r1, q1⟩ => ?_) hs
 exact store_ok I1 hN hi hx r1 (fun s2 I2 => ⟨_, H1, I2, q1⟩) hf
end
section
variable {X : Cx} {pos : Pos}
end
structure It where
 go : Nat → Hp → Prop
 yld : Nat → Hp → V → Hp → Prop
 stop : Nat → Hp → Prop
def FpOk (X : Cx) (pins : List (Addr × Obj)) (H : Hp) (b : Addr) : Prop :=
 H b = none ∧ b ≠ X.env.locals ∧ b ∉ X.fs ∧ (b ∈ X.ex ∨ X.s₀.heap.objs.size ≤ b) ∧ (∀ x c, X.env.cells.lookup x = some c → c ≠ b) ∧ ∀ p ∈ X.pn ++ pins, p.1 ≠ b
theorem Inv.fpOk {X : Cx} {pins : List (Addr × Obj)} {σ : St} {H H' : Hp} {s : Shared} {b : Addr} (I : Inv X pins σ H s) (hb : s.heap.objs.size ≤ b) (hn : H' b = none) : FpOk X pins H' b := by
 refine ⟨hn, Nat.ne_of_gt (Nat.lt_of_lt_of_le I.lt hb), I.nofs hb, .inr (Nat.le_trans I.sz hb), fun x c e z => ?_, fun p hp z => ?_⟩
 ·obtain ⟨v, q⟩ := I.cell x c e
  exact absurd (Nat.lt_of_lt_of_le q.lt (by rw [z]; exact hb)) (Nat.lt_irrefl _)
 ·exact absurd (Nat.lt_of_lt_of_le (Heap.lt_size (I.pin p hp).1) (by rw [z]; exact hb)) (Nat.lt_irrefl _)
structure Turn (P : Program) (w : World) (K : PySem.W.Frag) (tg : Expr) (J : It) (fp : List Addr) (it : Addr) (tn : Nat → Heap → Prop) : Prop where
 mem : it ∈ fp
 obj : ∀ i h, tn i h → ∀ b ∈ fp, ∃ o, h.get? b = some o ∧ ∀ v, o.data ≠ .cell v
 keep : ∀ i h h', tn i h → (∀ b ∈ fp, ∀ o, h.get? b = some o → h'.get? b = some o) → tn i h'
 item : ∀ (X : Cx), X.prog = P → X.w = w → X.K = K → X.calm = true → ∀ (i : Nat) (pins : List (Addr × Obj)) (s : Shared) (σ : St) (H : Hp) (E : Value → Shared → Prop), Inv X pins σ H s → (∀ b ∈ fp, FpOk X pins H b) → tn i s.heap → J.go i H →
  wpAny (model P w) X.A (pyNext (.ref it)) (fun r s1 => ∃ u, r = some u ∧
   wpAny (model P w) X.A (letOwnedTupleGo tg (.ref it) u) (fun _ s2 => ∃ x H', Inv X pins σ H' s2 ∧ RelV x u ∧ J.yld i H x H' ∧ tn (i + 1) s2.heap ∧ ∀ b ∈ fp, H' b = none) E s1) E s
 done : ∀ (X : Cx), X.prog = P → X.w = w → X.K = K → X.calm = true → ∀ (i : Nat) (pins : List (Addr × Obj)) (s : Shared) (σ : St) (H : Hp) (E : Value → Shared → Prop), Inv X pins σ H s → (∀ b ∈ fp, FpOk X pins H b) → tn i s.heap → J.stop i H →
  wpAny (model P w) X.A (pyNext (.ref it)) (fun r s1 => r = none ∧ Inv X pins σ H s1) E s
 self : ∀ (A : Around) (i : Nat) (s : Shared) (Q : Value → Shared → Prop) (E : Value → Shared → Prop), tn i s.heap → Q (.ref it) s → wpAny (model P w) A (pyIter (.ref it)) Q E s
abbrev TI := St → Hp → (It → Hp → Prop) → Prop
def PIE (X : Cx) (pins : List (Addr × Obj)) (σ : St) (tg : Expr) (R : It → Hp → Prop) (itv : Value) (s2 : Shared) : Prop :=
 ∃ (it : Addr) (fp : List Addr) (tn : Nat → Heap → Prop) (J : It) (H' : Hp), itv = .ref it ∧ Inv X pins σ H' s2 ∧ Turn X.prog X.w X.K tg J fp it tn ∧ tn 0 s2.heap ∧ (∀ b ∈ fp, FpOk X pins H' b) ∧ R J H'
def PI (X : Cx) (tg iter : Expr) (wi : TI) : Prop :=
 ∀ (pins : List (Addr × Obj)) (s : Shared) (σ : St) (H : Hp) (R : It → Hp → Prop), Inv X pins σ H s → wi σ H R →
  wpAny (model X.prog X.w) X.A (eval iter X.env) (fun v s1 => wpAny (model X.prog X.w) X.A (pyIter v) (PIE X pins σ tg R) X.xe s1) X.xe s
theorem go_of {M : Model} {A : Around} {E : Value → Shared → Prop} {s : Shared} {tg : Expr} {it : Addr} {u : Value} {o : Obj} {n : String} {vs : Array Value} {Q : Unit → Shared → Prop} (ho : s.heap.get? it = some o) (hc : o.cls = .type n) (hd : o.data = .fields vs)
    (hn : ["enumerate", "zip", "dict_itemiterator", "dict_reverseitemiterator", "odict_iterator", "itertools.zip_longest", "itertools.pairwise"].contains n = false) (hQ : Q () s) : wpAny M A (letOwnedTupleGo tg (.ref it) u) Q E s := by
  unfold letOwnedTupleGo
  cases tg <;> first
    | exact wpAny_pure hQ
    | (cases u <;> first
        | exact wpAny_pure hQ
        | (refine wpAny_bind (wpAny_load ho ?_)
           rw [hc, hd]
           show wpAny M A (if (["enumerate", "zip", "dict_itemiterator", "dict_reverseitemiterator", "odict_iterator", "itertools.zip_longest", "itertools.pairwise"].contains n && vs[0]? == some (rawInt _)) = true then _ else _) Q E s
           rw [if_neg (by intro h; rw [hn, Bool.false_and] at h; cases h)]
           exact wpAny_pure hQ))
def Itl (K : PySem.W.Frag) (a : Addr) : It :=
 ⟨fun i H => ∃ xs x, SqL K H a xs ∧ xs[i]? = some x, fun i H x H' => H' = H ∧ ∀ xs, SqL K H a xs → xs[i]? = some x, fun i H => ∃ xs, SqL K H a xs ∧ xs.length ≤ i⟩
def Itt (K : PySem.W.Frag) (a : Addr) : It :=
 ⟨fun i H => ∃ xs x, SqT K H a xs ∧ xs[i]? = some x, fun i H x H' => H' = H ∧ ∀ xs, SqT K H a xs → xs[i]? = some x, fun i H => ∃ xs, SqT K H a xs ∧ xs.length ≤ i⟩
def Itr (lo : Int) (n : Nat) : It := ⟨fun i _ => i < n, fun i H x H' => H' = H ∧ x = .int (lo + i), fun i _ => n ≤ i⟩
theorem turn_list {P : Program} {w : World} {K : PySem.W.Frag} {tg : Expr} (a it : Addr) : Turn P w K tg (Itl K a) [it] it (fun i h => h.IsListIter it a i) where
 mem := by simp
 obj := fun i h st b hb => by
  have e : b = it := by simpa using hb
  subst e
  obtain ⟨o, e, c, d⟩ := st
  exact ⟨o, e, fun v z => by rw [d] at z; cases z⟩
 keep := fun i h h' st k => st.at fun o e => k it (by simp) o e
 item := by
  intro X hP hw hK hc i pins s σ H E I hf st hg
  subst hP hw hK
  obtain ⟨xs, x, hq, hx⟩ := hg
  obtain ⟨its, rv, p, hz⟩ := I.list hq
  obtain ⟨u, hu, ru⟩ := rv.get hx
  obtain ⟨f0, f1, f2, f3, f4, f5⟩ := hf it (by simp)
  refine wpAny_pyNext_list_item st p.isList (x := u) (by simpa using hu) fun h' st' sb => ?_
  have I1 : Inv X pins σ H { s with heap := h' } := I.turned (t' := s.toks) (fun b o hb e => (sb.2 b hb).trans e) f0 f1 f3 f4 f5
  obtain ⟨o, e, c, d⟩ := id st'
  exact ⟨u, rfl, go_of (s := { s with heap := h' }) e c d (by decide) ⟨x, H, I1, ru, ⟨rfl, fun ys hy => by rw [I.list_inj hy hq]; exact hx⟩, st', fun b hb => (hf b hb).1⟩⟩
 done := by
  intro X hP hw hK hc i pins s σ H E I hf st hg
  subst hP hw hK
  obtain ⟨xs, hq, hx⟩ := hg
  obtain ⟨its, rv, p, hz⟩ := I.list hq
  obtain ⟨f0, f1, f2, f3, f4, f5⟩ := hf it (by simp)
  have hl := rv.length
  exact wpAny_pyNext_list_end (I.ok.hd hc) st p.isList (by simp; omega) fun h' eb => ⟨rfl, I.turned (t' := s.toks) (fun b o hb e => eb b o hb e) f0 f1 f3 f4 f5⟩
 self := fun _ _ _ _ _ st h => wpAny_pyIter_listiter st h
theorem turn_tuple {P : Program} {w : World} {K : PySem.W.Frag} {tg : Expr} (a it : Addr) : Turn P w K tg (Itt K a) [it] it (fun i h => h.IsTupleIter it a i) where
 mem := by simp
 obj := fun i h st b hb => by
  have e : b = it := by simpa using hb
  subst e
  obtain ⟨o, e, c, d⟩ := st
  exact ⟨o, e, fun v z => by rw [d] at z; cases z⟩
 keep := fun i h h' st k => st.at fun o e => k it (by simp) o e
 item := by
  intro X hP hw hK hc i pins s σ H E I hf st hg
  subst hP hw hK
  obtain ⟨xs, x, hq, hx⟩ := hg
  obtain ⟨its, rv, p, hz⟩ := I.tuple hq
  obtain ⟨u, hu, ru⟩ := rv.get hx
  obtain ⟨f0, f1, f2, f3, f4, f5⟩ := hf it (by simp)
  refine wpAny_pyNext_tuple_item st (show s.heap.IsTuple a its.toArray from p) (x := u) (by simpa using hu) fun h' st' sb => ?_
  have I1 : Inv X pins σ H { s with heap := h' } := I.turned (t' := s.toks) (fun b o hb e => (sb.2 b hb).trans e) f0 f1 f3 f4 f5
  obtain ⟨o, e, c, d⟩ := id st'
  exact ⟨u, rfl, go_of (s := { s with heap := h' }) e c d (by decide) ⟨x, H, I1, ru, ⟨rfl, fun ys hy => by rw [I.tuple_inj hy hq]; exact hx⟩, st', fun b hb => (hf b hb).1⟩⟩
 done := by
  intro X hP hw hK hc i pins s σ H E I hf st hg
  subst hP hw hK
  obtain ⟨xs, hq, hx⟩ := hg
  obtain ⟨its, rv, p, hz⟩ := I.tuple hq
  obtain ⟨f0, f1, f2, f3, f4, f5⟩ := hf it (by simp)
  have hl := rv.length
  exact wpAny_pyNext_tuple_end (I.ok.hd hc) st (show s.heap.IsTuple a its.toArray from p) (by simp; omega) fun h' eb => ⟨rfl, I.turned (t' := s.toks) (fun b o hb e => eb b o hb e) f0 f1 f3 f4 f5⟩
 self := fun _ _ _ _ _ st h => wpAny_pyIter_tupleiter st h
theorem turn_range {P : Program} {w : World} {K : PySem.W.Frag} {tg : Expr} (it : Addr) (lo : Int) (n : Nat) : Turn P w K tg (Itr lo n) [it] it (fun i h => IsRangeIter h it (lo + (i : Nat) * 1) ((n : Int) - (i : Nat)) 1) where
 mem := by simp
 obj := fun i h st b hb => by
  have e : b = it := by simpa using hb
  subst e
  exact ⟨_, st, fun v z => by
   have z' : Data.fields _ = Data.cell v := z
   cases z'⟩
 keep := fun i h h' st k => k it (by simp) _ st
 item := by
  intro X hP hw hK hc i pins s σ H E I hf st hg
  subst hP hw hK
  obtain ⟨f0, f1, f2, f3, f4, f5⟩ := hf it (by simp)
  have W := Walks.range (prog := X.prog) (w := X.w) (I.ok.hd hc) it lo 1 n
  refine W.item i s _ _ hg st fun v h' tk hv st' kk => ?_
  obtain ⟨t, rfl⟩ := hv
  have I1 : Inv X pins σ H { s with heap := h', toks := tk } := I.turned (fun b o hb e => kk b o (by simpa using hb) e) f0 f1 f3 f4 f5
  refine ⟨_, rfl, go_of (s := { s with heap := h', toks := tk }) (n := "range_iterator") st' rfl rfl (by decide) ⟨.int (lo + i), H, I1, ⟨t, ?_⟩, ⟨rfl, rfl⟩, st', fun b hb => (hf b hb).1⟩⟩
  rw [Int.mul_one]
 done := by
  intro X hP hw hK hc i pins s σ H E I hf st hg
  subst hP hw hK
  obtain ⟨f0, f1, f2, f3, f4, f5⟩ := hf it (by simp)
  exact wpAny_pyNext_range_end (I.ok.hd hc) st (by have : n ≤ i := hg; omega) fun h' eb => ⟨rfl, I.turned (t' := s.toks) (fun b o hb e => eb b o hb e) f0 f1 f3 f4 f5⟩
 self := fun _ _ _ _ _ st h => wpAny_pyIter_rangeiter st h
section
variable {X : Cx} {tg : Expr}
def iList (K : PySem.W.Frag) (tl : TE) : TI := fun σ H R => tl σ H fun x H1 => ∃ a, x = .ref a ∧ (∃ xs, SqL K H1 a xs) ∧ R (Itl K a) H1
def iTup (K : PySem.W.Frag) (tl : TE) : TI := fun σ H R => tl σ H fun x H1 => ∃ a, x = .ref a ∧ (∃ xs, SqT K H1 a xs) ∧ R (Itt K a) H1
theorem pi_list {l : Expr} {tl : TE} (hl : PE X l tl) : PI X tg l (iList X.K tl) := by
 intro pins s σ H R I h
 refine thn (hl pins s σ H _ I h) fun v s1 ⟨x, H1, I1, r1, q1⟩ => ?_
 obtain ⟨a, e, ⟨xs, hq⟩, q⟩ := q1
 subst e
 cases r1
 obtain ⟨its, rv, p, hz⟩ := I1.list hq
 refine wpAny_pyIter_list p.isList ?_
 refine ⟨s1.heap.objs.size, [s1.heap.objs.size], _, _, H1, rfl, I1.kept (t' := s1.toks) fun b o e => Heap.get?_push_of_some _ e, turn_list a _, ⟨_, Heap.get?_push_size _ rfl, rfl, rfl⟩, fun b hb => ?_, q⟩
 have e : b = s1.heap.objs.size := by simpa using hb
 subst e
 exact I1.fpOk (Nat.le_refl _) (I1.hok.fresh (Nat.le_refl _))
theorem pi_tup {l : Expr} {tl : TE} (hl : PE X l tl) : PI X tg l (iTup X.K tl) := by
 intro pins s σ H R I h
 refine thn (hl pins s σ H _ I h) fun v s1 ⟨x, H1, I1, r1, q1⟩ => ?_
 obtain ⟨a, e, ⟨xs, hq⟩, q⟩ := q1
 subst e
 cases r1
 obtain ⟨its, rv, p, hz⟩ := I1.tuple hq
 refine wpAny_pyIter_tuple (show s1.heap.IsTuple a its.toArray from p) ?_
 refine ⟨s1.heap.objs.size, [s1.heap.objs.size], _, _, H1, rfl, I1.kept (t' := s1.toks) fun b o e => Heap.get?_push_of_some _ e, turn_tuple a _, ⟨_, Heap.get?_push_size _ rfl, rfl, rfl⟩, fun b hb => ?_, q⟩
 have e : b = s1.heap.objs.size := by simpa using hb
 subst e
 exact I1.fpOk (Nat.le_refl _) (I1.hok.fresh (Nat.le_refl _))
theorem range_it {pins : List (Addr × Obj)} {σ : St} {H : Hp} {s : Shared} {R : It → Hp → Prop} {E : Value → Shared → Prop} {lo hi : Int} {t u v : Tok} {tk : Nat} (I : Inv X pins σ H s) (h1 : -(2 ^ 62) ≤ lo) (h2 : lo < 2 ^ 62) (h3 : -(2 ^ 62) ≤ hi) (h4 : hi < 2 ^ 62)
  (q : R (Itr lo (hi - lo).toNat) H) : wpAny (model X.prog X.w) X.A (pyIter (.ref s.heap.objs.size)) (PIE X pins σ tg R) E { s with heap := s.heap.push { cls := .type "range", data := .fields #[.int lo t, .int hi u, .int 1 v] }, toks := tk } := by
 refine wpAny_pyIter_range (IsRange.new ..) (small_one h1 h2 h3 h4) ?_
 have I1 : Inv X pins σ H { s with heap := s.heap.push { cls := .type "range", data := .fields #[.int lo t, .int hi u, .int 1 v] }, toks := tk } := I.kept fun b o e => Heap.get?_push_of_some _ e
 refine ⟨(s.heap.push { cls := .type "range", data := .fields #[.int lo t, .int hi u, .int 1 v] }).objs.size, [(s.heap.push { cls := .type "range", data := .fields #[.int lo t, .int hi u, .int 1 v] }).objs.size], _, _, H, rfl,
  I1.kept (t' := tk) fun b o e => Heap.get?_push_of_some _ e, turn_range _ lo (hi - lo).toNat, ?_, fun b hb => ?_, q⟩
 ·have e1 : lo + ((0 : Nat) : Int) * 1 = lo := by simp
  have e2 : (((hi - lo).toNat : Nat) : Int) - ((0 : Nat) : Int) = Builtin.Range.rangeSize lo hi 1 := by rw [rangeSize_one]; split <;> omega
  show IsRangeIter _ _ (lo + ((0 : Nat) : Int) * 1) ((((hi - lo).toNat : Nat) : Int) - ((0 : Nat) : Int)) 1
  rw [e1, e2]
  exact Heap.get?_push_size _ rfl
 ·have e : b = (s.heap.push { cls := .type "range", data := .fields #[.int lo t, .int hi u, .int 1 v] }).objs.size := by simpa using hb
  subst e
  exact I1.fpOk (Nat.le_refl _) (I1.hok.fresh (Nat.le_refl _))
def iRng1 (ta : TA) : TI := fun σ H R => ta σ H fun vs H1 => ∃ j : Int, vs = [.int j] ∧ -(2 ^ 62) ≤ j ∧ j < 2 ^ 62 ∧ R (Itr 0 j.toNat) H1
def iRng2 (ta : TA) : TI := fun σ H R => ta σ H fun vs H1 => ∃ i j : Int, vs = [.int i, .int j] ∧ (-(2 ^ 62) ≤ i ∧ i < 2 ^ 62 ∧ -(2 ^ 62) ≤ j ∧ j < 2 ^ 62) ∧ R (Itr i (j - i).toNat) H1
theorem pi_range1 {a : Expr} {ta : TA} {p pos : Pos} (hg : Gl X "range") (hm : X.mg "range" = none) (ha : PA X [a] ta) (hs : starEach [a] X.env = [(false, eval a X.env)] := by rfl) : PI X tg (.Call (.Name "range" p) [a] [] pos) (iRng1 ta) := by
 intro pins s σ H R I h
 refine Call_ (ld_blt I hg hm boot_range (PyProof.Rows.callWith_type1 (thn (ha pos pins s σ H _ I h) fun us s1 ⟨vs, H1, I1, r1, q1⟩ => ?_) hs rfl))
 obtain ⟨j, e, q1, q2, q⟩ := q1
 subst e
 cases r1 with
 | cons r rr =>
  cases rr
  obtain ⟨t, rfl⟩ := r
  exact call_range_1 (range_it I1 (by omega) (by omega) q1 q2 (by simpa using q))
theorem pi_range2 {a b : Expr} {ta : TA} {p pos : Pos} (hg : Gl X "range") (hm : X.mg "range" = none) (ha : PA X [a, b] ta) (hs : starEach [a, b] X.env = [(false, eval a X.env), (false, eval b X.env)] := by rfl) (hs2 : starEach [b] X.env = [(false, eval b X.env)] := by rfl) :
  PI X tg (.Call (.Name "range" p) [a, b] [] pos) (iRng2 ta) := by
 intro pins s σ H R I h
 refine Call_ (ld_blt I hg hm boot_range (PyProof.Rows.callWith_type1 (thn (ha pos pins s σ H _ I h) fun us s1 ⟨vs, H1, I1, r1, q1⟩ => ?_) (by rw [hs, hs2]) (by rw [hs2]; rfl)))
 obtain ⟨i, j, e, ⟨q1, q2, q3, q4⟩, q⟩ := q1
 subst e
 cases r1 with
 | cons r rr =>
  cases rr with
  | cons r' rr =>
   cases rr
   obtain ⟨t, rfl⟩ := r
   obtain ⟨t', rfl⟩ := r'
   exact call_range_2 (range_it I1 q1 q2 q3 q4 q)
def tFor (wi : TI) (g : TG) (tb : TS) : TS := fun D σ H => wi σ H fun J H1 => ∃ W : Nat → Nat → St → Hp → Prop, (∃ m, W 0 m σ H1) ∧ ∀ i m σ H, W i m σ H →
 (J.stop i H ∧ D.nx σ H) ∨ (J.go i H ∧ ∃ N : St → Hp → Prop, (∀ σ' H', N σ' H' → ∃ m', m' < m ∧ W (i + 1) m' σ' H') ∧ ∀ x H', J.yld i H x H' → g x σ H' fun σ2 H2 => tb { D with nx := N, ct := N, bk := D.nx } σ2 H2)
def pinsAt (fp : List Addr) (h : Heap) : List (Addr × Obj) := fp.filterMap fun b => (h.get? b).map fun o => (b, o)
theorem mem_pinsAt {fp : List Addr} {h : Heap} {b : Addr} {o : Obj} (hb : b ∈ fp) (e : h.get? b = some o) : (b, o) ∈ pinsAt fp h := List.mem_filterMap.mpr ⟨b, hb, by rw [e]; rfl⟩
theorem of_pinsAt {fp : List Addr} {h : Heap} {p : Addr × Obj} (hp : p ∈ pinsAt fp h) : p.1 ∈ fp ∧ h.get? p.1 = some p.2 := by
 obtain ⟨b, hb, e⟩ := List.mem_filterMap.mp hp
 cases q : h.get? b with
 | none => rw [q] at e; cases e
 | some o =>
  rw [q] at e
  have e' : (b, o) = p := Option.some.inj e
  subst e'
  exact ⟨hb, q⟩
theorem Inv.pinned {pins : List (Addr × Obj)} {σ : St} {H : Hp} {s : Shared} {fp : List Addr} (I : Inv X pins σ H s) (hf : ∀ b ∈ fp, FpOk X pins H b) (ho : ∀ b ∈ fp, ∃ o, s.heap.get? b = some o ∧ ∀ v, o.data ≠ .cell v) : Inv X (pins ++ pinsAt fp s.heap) σ H s :=
 I.pins_of fun p hp => (List.mem_append.mp hp).elim (fun z => I.pin p (List.mem_append_right _ z)) fun z => by
  obtain ⟨hb, e⟩ := of_pinsAt z
  obtain ⟨f0, f1, f2, _⟩ := hf p.1 hb
  obtain ⟨o, e', d⟩ := ho p.1 hb
  rw [e] at e'; cases e'
  exact ⟨e, f0, f1, f2, d⟩
theorem Inv.unpinned {pins pl : List (Addr × Obj)} {σ : St} {H : Hp} {s : Shared} (I : Inv X (pins ++ pl) σ H s) : Inv X pins σ H s := I.pins_of fun p hp => I.pin p (List.mem_append_right _ (List.mem_append_left _ hp))
theorem ps_for {iter : Expr} {body : List Stmt} {wi : TI} {g : TG} {tb : TS} {pos : Pos} (hp : PassesOwn (model X.prog X.w) X.A X.env X.xe) (hc : X.calm = true) (hi : PI X tg iter wi) (hg : PG X tg g) (hb : PSs X body tb)
  (hs : ∀ x, foldedSetIterable iter X.env x = pure x := by intro _; rfl) : PS X (.For tg iter body [] pos) (tFor wi g tb) := by
 intro pins s σ H D I h
 refine wpAny_For (thn (hi pins s σ H _ I h) fun v s1 h1 => thn h1 fun itv s2 h2 => ?_) hs
 obtain ⟨it, fp, tn, J, H2, e, I2, T, st2, f2, W, ⟨m0, w0⟩, turn⟩ := h2
 subst e
 -- what stays true of the iterator's objects through the loop
 have stat : ∀ {H' : Hp}, (∀ b ∈ fp, H' b = none) → ∀ b ∈ fp, FpOk X pins H' b := fun hn b hb => ⟨hn b hb, (f2 b hb).2⟩
 refine codeAny_forLoop_any (fun n s' => ∃ i σ' H', Inv X pins σ' H' s' ∧ tn i s'.heap ∧ (∀ b ∈ fp, H' b = none) ∧ W i n σ' H') ?_ m0 ⟨0, σ, H2, I2, st2, fun b hb => (f2 b hb).1, w0⟩
 rintro n s3 ⟨i, σ3, H3, I3, st3, fr3, w3⟩
 rcases turn i n σ3 H3 w3 with ⟨stop, qn⟩ | ⟨go, N, hN, step⟩
 ·refine wpAny_passesOwn hp (thn (T.done X rfl rfl rfl hc i pins s3 σ3 H3 X.xe I3 (stat fr3) st3 stop) fun r s4 ⟨hr, I4⟩ => ?_)
  subst hr
  exact wpAny_execs_nil ⟨σ3, H3, I4, qn⟩
 ·refine wpAny_passesOwn hp (thn (T.item X rfl rfl rfl hc i pins s3 σ3 H3 X.xe I3 (stat fr3) st3 go) fun r s4 ⟨u, hr, h4⟩ => ?_)
  subst hr
  refine wpAny_passesOwn hp (thn h4 fun _ s5 ⟨x, H5, I5, r5, y5, st5, fr5⟩ => ?_)
  have I5' := I5.pinned (stat fr5) (T.obj _ _ st5)
  refine wpAny_passesOwn hp (thn (hg _ s5 σ3 H5 x u _ I5' r5 (step x H5 y5)) fun _ s6 ⟨σ6, H6, I6, q6⟩ => ?_)
  refine wpAny_passesOwn hp (thn (hb _ s6 σ6 H6 _ I6 q6) fun f s7 q7 => ?_)
  have again : ∀ {σ7 : St} {H7 : Hp}, Inv X (pins ++ pinsAt fp s5.heap) σ7 H7 s7 → N σ7 H7 → ∃ m, m < n ∧ ∃ i σ' H', Inv X pins σ' H' s7 ∧ tn i s7.heap ∧ (∀ b ∈ fp, H' b = none) ∧ W i m σ' H' := fun {σ7 H7} I7 n7 => by
   obtain ⟨m', hm, w7⟩ := hN σ7 H7 n7
   refine ⟨m', hm, i + 1, σ7, H7, I7.unpinned, T.keep _ _ _ st5 fun b hb o e => (I7.pin (b, o) (List.mem_append_right _ (List.mem_append_right _ (mem_pinsAt hb e)))).1, fun b hb => ?_, w7⟩
   obtain ⟨o, e, d⟩ := T.obj _ _ st5 b hb
   exact (I7.pin (b, o) (List.mem_append_right _ (List.mem_append_right _ (mem_pinsAt hb e)))).2.1
  cases f with
  | next => obtain ⟨σ7, H7, I7, n7⟩ := q7; exact again I7 n7
  | cont => obtain ⟨σ7, H7, I7, n7⟩ := q7; exact again I7 n7
  | brk => obtain ⟨σ7, H7, I7, q7⟩ := q7; exact ⟨σ7, H7, I7.unpinned, q7⟩
  | ret v => obtain ⟨x7, σ7, H7, I7, r7, q7⟩ := q7; exact ⟨x7, σ7, H7, I7.unpinned, r7, q7⟩
end
theorem for_list {K : PySem.W.Frag} {a : Addr} {xs : List V} {g : TG} {tb : TS} {D : Ends} {σ : St} {H : Hp} (Pv : Nat → St → Hp → Prop) (h0 : Pv 0 σ H) (hl : ∀ i σ H, i ≤ xs.length → Pv i σ H → SqL K H a xs)
  (hs : ∀ i x σ H, xs[i]? = some x → Pv i σ H → g x σ H fun σ2 H2 => tb { D with nx := Pv (i + 1), ct := Pv (i + 1), bk := D.nx } σ2 H2) (hd : ∀ σ H, Pv xs.length σ H → D.nx σ H) :
  ∃ W : Nat → Nat → St → Hp → Prop, (∃ m, W 0 m σ H) ∧ ∀ i m σ H, W i m σ H →
   ((Itl K a).stop i H ∧ D.nx σ H) ∨ ((Itl K a).go i H ∧ ∃ N : St → Hp → Prop, (∀ σ' H', N σ' H' → ∃ m', m' < m ∧ W (i + 1) m' σ' H') ∧ ∀ x H', (Itl K a).yld i H x H' → g x σ H' fun σ2 H2 => tb { D with nx := N, ct := N, bk := D.nx } σ2 H2) := by
 refine ⟨fun i m σ H => m = xs.length - i ∧ i ≤ xs.length ∧ Pv i σ H, ⟨xs.length, by simp, Nat.zero_le _, h0⟩, ?_⟩
 rintro i m σ H ⟨rfl, hi, p⟩
 have q := hl i σ H hi p
 by_cases hlt : i < xs.length
 ·refine .inr ⟨⟨xs, xs[i], q, by simp [hlt]⟩, Pv (i + 1), fun σ' H' p' => ⟨xs.length - (i + 1), by omega, rfl, hlt, p'⟩, fun x H' y => ?_⟩
  obtain ⟨e, y⟩ := y
  subst e
  exact hs i x σ _ (y xs q) p
 ·have e : i = xs.length := by omega
  subst e
  exact .inl ⟨⟨xs, q, Nat.le_refl _⟩, hd σ H p⟩
theorem for_range {lo : Int} {n : Nat} {g : TG} {tb : TS} {D : Ends} {σ : St} {H : Hp} (Pv : Nat → St → Hp → Prop) (h0 : Pv 0 σ H)
  (hs : ∀ i σ H, i < n → Pv i σ H → g (.int (lo + i)) σ H fun σ2 H2 => tb { D with nx := Pv (i + 1), ct := Pv (i + 1), bk := D.nx } σ2 H2) (hd : ∀ σ H, Pv n σ H → D.nx σ H) :
  ∃ W : Nat → Nat → St → Hp → Prop, (∃ m, W 0 m σ H) ∧ ∀ i m σ H, W i m σ H →
   ((Itr lo n).stop i H ∧ D.nx σ H) ∨ ((Itr lo n).go i H ∧ ∃ N : St → Hp → Prop, (∀ σ' H', N σ' H' → ∃ m', m' < m ∧ W (i + 1) m' σ' H') ∧ ∀ x H', (Itr lo n).yld i H x H' → g x σ H' fun σ2 H2 => tb { D with nx := N, ct := N, bk := D.nx } σ2 H2) := by
 refine ⟨fun i m σ H => m = n - i ∧ i ≤ n ∧ Pv i σ H, ⟨n, by simp, Nat.zero_le _, h0⟩, ?_⟩
 rintro i m σ H ⟨rfl, hi, p⟩
 by_cases hlt : i < n
 ·refine .inr ⟨hlt, Pv (i + 1), fun σ' H' p' => ⟨n - (i + 1), by omega, rfl, hlt, p'⟩, fun x H' y => ?_⟩
  obtain ⟨e, y⟩ := y
  subst e y
  exact hs i σ _ hlt p
 ·have e : i = n := by omega
  subst e
  exact .inl ⟨Nat.le_refl _, hd σ H p⟩
abbrev R2 := V → V → Hp → VK → Prop
def OpR (X : Cx) (f : Value → Value → Sem Value) (r : R2) : Prop :=
 ∀ (pins : List (Addr × Obj)) (s : Shared) (σ : St) (H : Hp) (x y : V) (v u : Value) (Q : VK), Inv X pins σ H s → RelV x v → RelV y u → r x y H Q →
  wpAny (model X.prog X.w) X.A (f v u) (EP X pins σ Q) X.xe s
def UnR (X : Cx) (f : Value → Sem Value) (r : V → Hp → VK → Prop) : Prop :=
 ∀ (pins : List (Addr × Obj)) (s : Shared) (σ : St) (H : Hp) (x : V) (v : Value) (Q : VK), Inv X pins σ H s → RelV x v → r x H Q →
  wpAny (model X.prog X.w) X.A (f v) (EP X pins σ Q) X.xe s
def CallR (X : Cx) (f : Value) (r : List V → Hp → VK → Prop) : Prop :=
 ∀ (pins : List (Addr × Obj)) (s : Shared) (σ : St) (H : Hp) (xs : List V) (us : List Value) (Q : VK), Inv X pins σ H s → Vals xs us → r xs H Q →
  wpAny (model X.prog X.w) X.A (call f us) (EP X pins σ Q) X.xe s
def TruR (X : Cx) (r : V → Hp → (Bool → Hp → Prop) → Prop) : Prop :=
 ∀ (pins : List (Addr × Obj)) (s : Shared) (σ : St) (H : Hp) (x : V) (v : Value) (Q : Bool → Hp → Prop), Inv X pins σ H s → RelV x v → r x H Q →
  wpAny (model X.prog X.w) X.A (truthy v) (TP X pins σ Q) X.xe s
def tOp (r : R2) (ta tb : TE) : TE := fun σ H Q => ta σ H fun x H1 => tb σ H1 fun y H2 => r x y H2 Q
def tUn (r : V → Hp → VK → Prop) (ta : TE) : TE := fun σ H Q => ta σ H fun x H1 => r x H1 Q
def rI (C : Int → Int → Prop) (g : Int → Int → V) : R2 := fun x y H Q => ∃ i j, x = .int i ∧ y = .int j ∧ C i j ∧ Q (g i j) H
def rI0 (g : Int → Int → V) : R2 := fun x y H Q => ∃ i j, x = .int i ∧ y = .int j ∧ Q (g i j) H
def rU (g : Int → V) : V → Hp → VK → Prop := fun x H Q => ∃ i, x = .int i ∧ Q (g i) H
section
variable {X : Cx} {a b c : Expr} {ta tb tc : TE} {pos : Pos}
theorem binT (ha : PE X a ta) (hb : PE X b tb) {pins : List (Addr × Obj)} {s : Shared} {σ : St} {H : Hp} {R : V → V → Hp → Prop} (I : Inv X pins σ H s)
  (h : ta σ H fun x H1 => tb σ H1 fun y H2 => R x y H2) {Q : Value → Shared → Prop} {f : Value → Value → Sem Value}
  (hf : ∀ v u s2 x y H2, Inv X pins σ H2 s2 → RelV x v → RelV y u → R x y H2 → wpAny (model X.prog X.w) X.A (f v u) Q X.xe s2) :
  wpAny (model X.prog X.w) X.A (eval a X.env) (fun v s₁ => wpAny (model X.prog X.w) X.A (eval b X.env) (fun u s₂ => wpAny (model X.prog X.w) X.A (f v u) Q X.xe s₂) X.xe s₁) X.xe s := by
 refine thn (ha pins s σ H _ I h) fun v s1 ⟨x, H1, I1, r1, q1⟩ => ?_
 refine thn (hb pins s1 σ H1 _ I1 q1) fun u s2 ⟨y, H2, I2, r2, q2⟩ => ?_
 exact hf v u s2 x y H2 I2 r1 r2 q2
theorem pe_op {op : Operator} {r : R2} (ho : OpR X (binaryOp op) r) (ha : PE X a ta) (hb : PE X b tb) : PE X (.BinOp a op b pos) (tOp r ta tb) := by
 intro pins s σ H Q I h
 exact wpAny_BinOp (binT ha hb I h fun v u s2 x y H2 I2 rx ry q => ho pins s2 σ H2 x y v u Q I2 rx ry q)
theorem pe_un {op : UnaryOp} {r : V → Hp → VK → Prop} (ho : UnR X (unaryOp op) r) (ha : PE X a ta) : PE X (.UnaryOp op a pos) (tUn r ta) := by
 intro pins s σ H Q I h
 exact UnaryOp_ (thn (ha pins s σ H _ I h) fun v s1 ⟨x, H1, I1, r1, q1⟩ => ho pins s1 σ H1 x v Q I1 r1 q1)
theorem opI {f : Value → Value → Sem Value} {C : Int → Int → Prop} {g : Int → Int → Int}
  (rule : ∀ (i j : Int) (t u : Tok) (s : Shared) (Q : Value → Shared → Prop) (E : Value → Shared → Prop), C i j → Q (.int (g i j) s.toks) { s with toks := s.toks + 1 } → wpAny (model X.prog X.w) X.A (f (.int i t) (.int j u)) Q E s) :
  OpR X f (rI C fun i j => .int (g i j)) := by
 intro pins s σ H x y v u Q I rx ry h
 obtain ⟨i, j, rfl, rfl, hc, q⟩ := h
 obtain ⟨t, rfl⟩ := rx
 obtain ⟨t', rfl⟩ := ry
 exact rule i j t t' s _ _ hc ⟨.int (g i j), H, I.tok _, ⟨_, rfl⟩, q⟩
theorem opI0 {f : Value → Value → Sem Value} {g : Int → Int → Int}
  (rule : ∀ (i j : Int) (t u : Tok) (s : Shared) (Q : Value → Shared → Prop) (E : Value → Shared → Prop), Q (.int (g i j) s.toks) { s with toks := s.toks + 1 } → wpAny (model X.prog X.w) X.A (f (.int i t) (.int j u)) Q E s) :
  OpR X f (rI0 fun i j => .int (g i j)) := by
 intro pins s σ H x y v u Q I rx ry h
 obtain ⟨i, j, rfl, rfl, q⟩ := h
 obtain ⟨t, rfl⟩ := rx
 obtain ⟨t', rfl⟩ := ry
 exact rule i j t t' s _ _ ⟨.int (g i j), H, I.tok _, ⟨_, rfl⟩, q⟩
theorem opB0 {f : Value → Value → Sem Value} {g : Int → Int → Bool}
  (rule : ∀ (i j : Int) (t u : Tok) (s : Shared) (Q : Value → Shared → Prop) (E : Value → Shared → Prop), Q (.bool (g i j)) s → wpAny (model X.prog X.w) X.A (f (.int i t) (.int j u)) Q E s) :
  OpR X f (rI0 fun i j => .bl (g i j)) := by
 intro pins s σ H x y v u Q I rx ry h
 obtain ⟨i, j, rfl, rfl, q⟩ := h
 obtain ⟨t, rfl⟩ := rx
 obtain ⟨t', rfl⟩ := ry
 exact rule i j t t' s _ _ ⟨.bl (g i j), H, I, rfl, q⟩
def CDiv (i j : Int) : Prop := 0 < j ∧ j < 1073741824
def CPow (i j : Int) : Prop := 0 ≤ j ∧ j ≤ 1000000 ∧ i.natAbs < 2 ^ 64
def CMul (i j : Int) : Prop := (-(2 ^ 64) < i ∧ i < 2 ^ 64) ∨ (-(2 ^ 64) < j ∧ j < 2 ^ 64)
theorem CMul.ok {i j : Int} (h : CMul i j) : IntMulOk i j := by
 rcases h with ⟨h1, h2⟩ | ⟨h1, h2⟩
 ·exact .of_left (intBits_le_64 h1 h2)
 ·exact .of_right (intBits_le_64 h1 h2)
theorem two_pow_nn (k : Nat) : (0 : Int) ≤ 2 ^ k := by
 rw [two_pow_cast]
 exact Int.natCast_nonneg _
theorem op_add : OpR X (binaryOp .Add) (rI0 fun i j => .int (i + j)) := opI0 fun _ _ _ _ _ _ _ q => add_int q
theorem op_sub : OpR X (binaryOp .Sub) (rI0 fun i j => .int (i - j)) := opI0 fun _ _ _ _ _ _ _ q => sub_int q
theorem op_mul : OpR X (binaryOp .Mult) (rI CMul fun i j => .int (i * j)) := opI fun _ _ _ _ _ _ _ hc q => mul_int q hc.ok
theorem op_fdiv : OpR X (binaryOp .FloorDiv) (rI CDiv fun i j => .int (i / j)) := opI fun i j _ _ _ _ _ hc q => by
 have h1 : (0 : Int) < j := hc.1
 have h2 : j < 1073741824 := hc.2
 exact floordiv_int (by omega) (by rw [Int.fdiv_eq_ediv_of_nonneg i (by omega)]; exact q) (.inl (PyProof.noPylong_small (by omega)))
theorem op_mod : OpR X (binaryOp .Mod) (rI (fun _ j => 0 < j) fun i j => .int (i % j)) := opI fun i j _ _ _ _ _ hc q => by
 have h1 : (0 : Int) < j := hc
 exact mod_int' (by omega) (by rw [Int.fmod_eq_emod_of_nonneg i (by omega)]; exact q)
theorem op_pow : OpR X (binaryOp .Pow) (rI CPow fun i j => .int (i ^ j.toNat)) := opI fun _ _ _ _ _ _ _ hc q => pow_int_small hc.1 hc.2.1 hc.2.2 q
theorem op_shl : OpR X (binaryOp .LShift) (rI CPow fun i j => .int (i * 2 ^ j.toNat)) := opI fun _ _ _ _ _ _ _ hc q => lshift_int_small hc.1 hc.2.1 hc.2.2 q
theorem op_shr : OpR X (binaryOp .RShift) (rI (fun _ j => 0 ≤ j) fun i j => .int (i / 2 ^ j.toNat)) := opI fun i j _ _ _ _ _ hc q =>
 rshift_int hc (by rw [Int.fdiv_eq_ediv_of_nonneg i (two_pow_nn _)]; exact q)
theorem op_and : OpR X (binaryOp .BitAnd) (rI0 fun i j => .int (Builtin.bitAnd i j)) := opI0 fun _ _ _ _ _ _ _ q => and_int q
theorem unI {f : Value → Sem Value} {g : Int → Int}
  (rule : ∀ (i : Int) (t : Tok) (s : Shared) (Q : Value → Shared → Prop) (E : Value → Shared → Prop), Q (.int (g i) s.toks) { s with toks := s.toks + 1 } → wpAny (model X.prog X.w) X.A (f (.int i t)) Q E s) :
  UnR X f (rU fun i => .int (g i)) := by
 intro pins s σ H x v Q I rx h
 obtain ⟨i, rfl, q⟩ := h
 obtain ⟨t, rfl⟩ := rx
 exact rule i t s _ _ ⟨.int (g i), H, I.tok _, ⟨_, rfl⟩, q⟩
theorem un_neg : UnR X (unaryOp .USub) (rU fun i => .int (-i)) := unI fun _ _ _ _ _ q => neg_int q
end
def scal : V → V → Bool
 | .non, .non => true | .non, .int _ => true | .int _, .non => true | .non, .bl _ => true | .bl _, .non => true | .non, .str _ => true | .str _, .non => true
 | .int _, .int _ => true | .bl _, .bl _ => true | .str _, .str _ => true | .byt _, .byt _ => true
 | .int _, .str _ => true | .str _, .int _ => true | .bl _, .str _ => true | .str _, .bl _ => true
 | _, _ => false
def rEq : R2 := fun x y H Q => scal x y = true ∧ Q (.bl (decide (x = y))) H
def rNe : R2 := fun x y H Q => scal x y = true ∧ Q (.bl (!decide (x = y))) H
theorem dec_int {i j : Int} : decide (V.int i = V.int j) = (i == j) := by
 rw [Bool.eq_iff_iff]
 simp
theorem dec_bl {i j : Bool} : decide (V.bl i = V.bl j) = (i == j) := by
 rw [Bool.eq_iff_iff]
 simp
theorem dec_str {i j : Str} : decide (V.str i = V.str j) = (i == j) := by
 rw [Bool.eq_iff_iff]
 simp
theorem dec_byt {i j : Array UInt8} : decide (V.byt i = V.byt j) = (i.toList == j.toList) := by
 rw [Bool.eq_iff_iff]
 cases i
 cases j
 simp
section
variable {X : Cx} {a b c : Expr} {ta tb tc : TE} {pos : Pos}
theorem fin_bl {pins : List (Addr × Obj)} {σ : St} {H : Hp} {s : Shared} {Q : VK} {k k' : Bool} (I : Inv X pins σ H s) (q : Q (.bl k) H) (e : k = k') : EP X pins σ Q (.bool k') s := by
 subst e
 exact ⟨.bl k, H, I, rfl, q⟩
theorem op_eq : OpR X (compareOp .Eq) rEq := by
 intro pins s σ H x y v u Q I rx ry h
 obtain ⟨hs, q⟩ := h
 cases x with
 | non =>
  cases rx
  cases y with
  | non => cases ry; exact PySem.EqNone.eq_none_none (fin_bl I q (by simp))
  | bl j => cases ry; exact PySem.EqNone.eq_none_bool (fin_bl I q (by simp))
  | int j => obtain ⟨t', rfl⟩ := ry; exact PySem.EqNone.eq_none_int (fin_bl I q (by simp))
  | str j => obtain ⟨t', rfl⟩ := ry; exact PySem.EqNone.eq_none_str (fin_bl I q (by simp))
  | _ => exact absurd (show false = true from hs) Bool.false_ne_true
 | bl i =>
  cases rx
  cases y with
  | non => cases ry; exact PySem.EqNone.eq_bool_none (fin_bl I q (by simp))
  | bl j => cases ry; exact eq_bool (fin_bl I q dec_bl)
  | str j => obtain ⟨t', rfl⟩ := ry; exact PySem.EqMixed.eq_bool_str (fin_bl I q (by simp))
  | _ => exact absurd (show false = true from hs) Bool.false_ne_true
 | int i =>
  obtain ⟨t, rfl⟩ := rx
  cases y with
  | non => cases ry; exact PySem.EqNone.eq_int_none (fin_bl I q (by simp))
  | int j => obtain ⟨t', rfl⟩ := ry; exact eq_int (fin_bl I q dec_int)
  | str j => obtain ⟨t', rfl⟩ := ry; exact PySem.EqMixed.eq_int_str (fin_bl I q (by simp))
  | _ => exact absurd (show false = true from hs) Bool.false_ne_true
 | str i =>
  obtain ⟨t, rfl⟩ := rx
  cases y with
  | non => cases ry; exact PySem.EqNone.eq_str_none (fin_bl I q (by simp))
  | bl j => cases ry; exact PySem.EqMixed.eq_str_bool (fin_bl I q (by simp))
  | int j => obtain ⟨t', rfl⟩ := ry; exact PySem.EqMixed.eq_str_int (fin_bl I q (by simp))
  | str j => obtain ⟨t', rfl⟩ := ry; exact eq_str (fin_bl I q dec_str)
  | _ => exact absurd (show false = true from hs) Bool.false_ne_true
 | byt i =>
  obtain ⟨t, rfl⟩ := rx
  cases y with
  | byt j => obtain ⟨t', rfl⟩ := ry; exact PySem.W.eq_bytes (fin_bl I q dec_byt)
  | _ => exact absurd (show false = true from hs) Bool.false_ne_true
 | _ => cases y <;> exact absurd (show false = true from hs) Bool.false_ne_true
theorem op_ne : OpR X (compareOp .NotEq) rNe := by
 intro pins s σ H x y v u Q I rx ry h
 obtain ⟨hs, q⟩ := h
 cases x with
 | non =>
  cases rx
  cases y with
  | non => cases ry; exact PySem.EqNone.ne_none_none (fin_bl I q (by simp))
  | bl j => cases ry; exact PySem.EqNone.ne_none_bool (fin_bl I q (by simp))
  | int j => obtain ⟨t', rfl⟩ := ry; exact PySem.EqNone.ne_none_int (fin_bl I q (by simp))
  | str j => obtain ⟨t', rfl⟩ := ry; exact PySem.EqNone.ne_none_str (fin_bl I q (by simp))
  | _ => exact absurd (show false = true from hs) Bool.false_ne_true
 | bl i =>
  cases rx
  cases y with
  | non => cases ry; exact PySem.EqNone.ne_bool_none (fin_bl I q (by simp))
  | bl j => cases ry; exact ne_bool (fin_bl I q (congrArg not dec_bl))
  | str j => obtain ⟨t', rfl⟩ := ry; exact PySem.EqMixed.ne_bool_str (fin_bl I q (by simp))
  | _ => exact absurd (show false = true from hs) Bool.false_ne_true
 | int i =>
  obtain ⟨t, rfl⟩ := rx
  cases y with
  | non => cases ry; exact PySem.EqNone.ne_int_none (fin_bl I q (by simp))
  | int j => obtain ⟨t', rfl⟩ := ry; exact ne_int (fin_bl I q (congrArg not dec_int))
  | str j => obtain ⟨t', rfl⟩ := ry; exact PySem.EqMixed.ne_int_str (fin_bl I q (by simp))
  | _ => exact absurd (show false = true from hs) Bool.false_ne_true
 | str i =>
  obtain ⟨t, rfl⟩ := rx
  cases y with
  | non => cases ry; exact PySem.EqNone.ne_str_none (fin_bl I q (by simp))
  | bl j => cases ry; exact PySem.EqMixed.ne_str_bool (fin_bl I q (by simp))
  | int j => obtain ⟨t', rfl⟩ := ry; exact PySem.EqMixed.ne_str_int (fin_bl I q (by simp))
  | str j => obtain ⟨t', rfl⟩ := ry; exact ne_str (fin_bl I q (congrArg not dec_str))
  | _ => exact absurd (show false = true from hs) Bool.false_ne_true
 | byt i =>
  obtain ⟨t, rfl⟩ := rx
  cases y with
  | byt j => obtain ⟨t', rfl⟩ := ry; exact PySem.W.ne_bytes (fin_bl I q (congrArg not dec_byt))
  | _ => exact absurd (show false = true from hs) Bool.false_ne_true
 | _ => cases y <;> exact absurd (show false = true from hs) Bool.false_ne_true
theorem op_lt : OpR X (compareOp .Lt) (rI0 fun i j => .bl (decide (i < j))) := opB0 fun _ _ _ _ _ _ _ q => lt_int q
theorem op_le : OpR X (compareOp .LtE) (rI0 fun i j => .bl (decide (i ≤ j))) := opB0 fun _ _ _ _ _ _ _ q => le_int q
theorem op_gt : OpR X (compareOp .Gt) (rI0 fun i j => .bl (decide (j < i))) := opB0 fun _ _ _ _ _ _ _ q => gt_int q
theorem nomark (b : Expr) {op : CmpOp} (h : op ≠ .In := by decide) (h2 : op ≠ .NotIn := by decide) : behindInMarks op b = false := by
 have e1 : (op == CmpOp.In) = false := by cases op <;> first | rfl | exact absurd rfl h
 have e2 : (op == CmpOp.NotIn) = false := by cases op <;> first | rfl | exact absurd rfl h2
 cases b <;> simp [behindInMarks, e1, e2]
theorem pe_cmpR {op : CmpOp} {r : R2} (ho : OpR X (compareOp op) r) (ha : PE X a ta) (hb : PE X b tb) (hm : behindInMarks op b = false) : PE X (.Compare a [op] [b] pos) (tOp r ta tb) := by
 intro pins s σ H Q I h
 exact wpAny_Compare1 (binT ha hb I h fun v u s2 x y H2 I2 rx ry q => ho pins s2 σ H2 x y v u Q I2 rx ry q) hm
def tTest (t : TE) : TT := fun σ H Q => t σ H fun x H' => ∃ k, x = .bl k ∧ Q k H'
theorem pt_cmpR {op : CmpOp} {r : R2} (ho : OpR X (compareOp op) r) (ha : PE X a ta) (hb : PE X b tb) (hm : behindInMarks op b = false) : PT X (.Compare a [op] [b] pos) (tTest (tOp r ta tb)) := by
 intro pins s σ H Q I h
 refine wpAny_isTrue_Compare1 (thn (ha pins s σ H _ I h) fun v s1 ⟨x, H1, I1, r1, q1⟩ => thn (hb pins s1 σ H1 _ I1 q1) fun u s2 ⟨y, H2, I2, r2, q2⟩ =>
  thn (ho pins s2 σ H2 x y v u _ I2 r1 r2 q2) fun c s3 ⟨z, H3, I3, r3, k, e, q3⟩ => ?_) hm
 subst e
 cases r3
 exact wpAny_truthy_bool ⟨H3, I3, q3⟩
def tChain (r r' : R2) (ta tb tc : TE) : TE := fun σ H Q => ta σ H fun x H1 => tb σ H1 fun y H2 => r x y H2 fun z H3 => ∃ k, z = .bl k ∧
 (if k = true then tc σ H3 fun w' H4 => r' y w' H4 Q else Q (.bl false) H3)
theorem pe_chain {op op' : CmpOp} {r r' : R2} (ho : OpR X (compareOp op) r) (ho' : OpR X (compareOp op') r') (ha : PE X a ta) (hb : PE X b tb) (hc : PE X c tc)
  (hm : lastMarks [op, op'] [b, c] = false := by with_unfolding_all rfl) : PE X (.Compare a [op, op'] [b, c] pos) (tChain r r' ta tb tc) := by
 intro pins s σ H Q I h
 refine Compare_chain (thn (ha pins s σ H _ I h) fun v s1 ⟨x, H1, I1, r1, q1⟩ => chain_link (thn (hb pins s1 σ H1 _ I1 q1) fun u s2 ⟨y, H2, I2, r2, q2⟩ =>
  thn (ho pins s2 σ H2 x y v u _ I2 r1 r2 q2) fun d s3 ⟨z, H3, I3, r3, k, e, q3⟩ => ?_)) hm
 subst e
 cases r3
 refine wpAny_truthy_bool ?_
 cases k with
 | false => exact ite_ff ⟨.bl false, H3, I3, rfl, q3⟩
 | true => exact ite_tt (chain_last (thn (hc pins s3 σ H3 _ I3 q3) fun w' s4 ⟨z', H4, I4, r4, q4⟩ => ho' pins s4 σ H4 y z' u w' Q I4 r2 r4 q4))
def TruV (K : PySem.W.Frag) (x : V) (H : Hp) (k : Bool) : Prop :=
 match x with
 | .non => k = false
 | .bl b => k = b
 | .int i => k = (i != 0)
 | .str y => y.length ≤ sizeLine ∧ k = ((y.length : Int) != 0)
 | .byt y => y.size ≤ sizeLine ∧ k = ((y.size : Int) != 0)
 | .ref p => (∃ xs, SqL K H p xs ∧ k = !xs.isEmpty) ∨ (∃ xs, SqT K H p xs ∧ k = !xs.isEmpty) ∨ ∃ kvs, H p = some (.dK kvs) ∧ k = !kvs.isEmpty
 | _ => False
theorem isEmpty_kv {κ : Type} {kvs : List (κ × V)} {vs : List (κ × Value)} (r : KV kvs vs) : (!vs.isEmpty) = !kvs.isEmpty := by
 cases r <;> rfl
theorem isEmpty_of {xs : List V} {its : List Value} (r : Vals xs its) : (!its.toArray.isEmpty) = !xs.isEmpty := by
 cases r <;> simp
theorem line63 : (sizeLine : Nat) < 2 ^ 63 := by rw [sizeLine_eq]; decide
theorem tru_ok : TruR X (fun x H Q => ∃ k, TruV X.K x H k ∧ Q k H) := by
 intro pins s σ H x v Q I rx h
 obtain ⟨k, e, q⟩ := h
 have hl := line63
 have hs : sizeLine = 16777216 := sizeLine_eq
 cases x with
 | non =>
  cases rx
  have e' : k = false := e
  subst e'
  exact truthy_none ⟨H, I, q⟩
 | bl b =>
  cases rx
  have e' : k = b := e
  subst e'
  exact wpAny_truthy_bool ⟨H, I, q⟩
 | int i =>
  obtain ⟨t, rfl⟩ := rx
  have e' : k = (i != 0) := e
  subst e'
  exact PySem.P.truthy_int ⟨H, I, q⟩
 | str y =>
  obtain ⟨t, rfl⟩ := rx
  obtain ⟨hy, e'⟩ : y.length ≤ sizeLine ∧ k = ((y.length : Int) != 0) := e
  subst e'
  exact PySem.P.truthy_str (by omega) ⟨H, I.tok _, q⟩
 | byt y =>
  obtain ⟨t, rfl⟩ := rx
  obtain ⟨hy, e'⟩ : y.size ≤ sizeLine ∧ k = ((y.size : Int) != 0) := e
  subst e'
  exact PySem.W.truthy_bytes (by omega) ⟨H, I.tok _, q⟩
 | ref p =>
  cases rx
  have e' : (∃ xs, SqL X.K H p xs ∧ k = !xs.isEmpty) ∨ (∃ xs, SqT X.K H p xs ∧ k = !xs.isEmpty) ∨ ∃ kvs, H p = some (.dK kvs) ∧ k = !kvs.isEmpty := e
  rcases e' with ⟨xs, hx, e'⟩ | ⟨xs, hx, e'⟩ | ⟨kvs, hx, e'⟩
  ·subst e'
   obtain ⟨its, r, pl, hz⟩ := I.list hx
   have hlen := r.length
   exact wpAny_truthy_list pl.isList (by simp only [List.size_toArray]; omega) ⟨H, I.tok _, by rw [isEmpty_of r]; exact q⟩
  ·subst e'
   obtain ⟨its, r, pl, hz⟩ := I.tuple hx
   have hlen := r.length
   exact truthy_tuple pl (by simp only [List.size_toArray]; omega) ⟨H, I.tok _, by rw [isEmpty_of r]; exact q⟩
  ·subst e'
   obtain ⟨hz, hS, vs, r, m⟩ : kvs.length ≤ sizeLine ∧ (p == sysModules) = false ∧ ∃ vs, KV kvs vs ∧ s.heap.DictOf (mixKind X.prog X.w) p vs := I.hok p _ hx
   have hlen : kvs.length = vs.length := Paired.length r
   exact wpAny_truthy_dict hS m (by omega) ⟨H, I.tok _, by rw [isEmpty_kv r]; exact q⟩
 | _ => exact (show False from e).elim
theorem pt_truth (ha : PE X a ta) (he : ∀ whole, isTrue a X.env whole = (do let v ← whole; standAt a.pos; holding [v] (truthy v))) :
  PT X a (fun σ H Q => ta σ H fun x H' => ∃ k, TruV X.K x H' k ∧ Q k H') := by
 intro pins s σ H Q I h
 exact isTrue_plain (thn (ha pins s σ H _ I h) fun v s1 ⟨x, H1, I1, r1, q1⟩ => tru_ok pins s1 σ H1 x v Q I1 r1 q1) (he _)
theorem op_add_str : OpR X (binaryOp .Add) (fun x y H Q => ∃ i j, x = .str i ∧ y = .str j ∧ i.length + j.length ≤ sizeLine ∧ Q (.str (i ++ j)) H) := by
 intro pins s σ H x y v u Q I rx ry h
 obtain ⟨i, j, rfl, rfl, hz, q⟩ := h
 obtain ⟨t, rfl⟩ := rx
 obtain ⟨t', rfl⟩ := ry
 exact add_str (fun t' tk => ⟨.str (i ++ j), H, I.tok _, ⟨_, rfl⟩, q⟩) hz
theorem vals1 {x : V} {us : List Value} (r : Vals [x] us) : ∃ u, us = [u] ∧ RelV x u := by
 cases r with
 | cons r1 r2 => cases r2; exact ⟨_, rfl, r1⟩
theorem vals2 {x y : V} {us : List Value} (r : Vals [x, y] us) : ∃ u w', us = [u, w'] ∧ RelV x u ∧ RelV y w' := by
 cases r with
 | cons r1 r2 =>
  cases r2 with
  | cons r3 r4 => cases r4; exact ⟨_, _, rfl, r1, r3⟩
theorem call_max2 (hc : X.calm = true) : CallR X (.builtin "max") (fun xs H Q => ∃ i j, xs = [.int i, .int j] ∧ Q (.int (if j > i then j else i)) H) := by
 intro pins s σ H xs us Q I r h
 obtain ⟨i, j, rfl, q⟩ := h
 obtain ⟨u, w', rfl, ⟨t, rfl⟩, ⟨t', rfl⟩⟩ := vals2 r
 refine max_two_ints (I.ok.hd hc) fun h' tk k => ⟨_, H, I.kept k, ?_, q⟩
 by_cases hj : j > i
 ·rw [if_pos hj, if_pos hj]; exact ⟨_, rfl⟩
 ·rw [if_neg hj, if_neg hj]; exact ⟨_, rfl⟩
theorem call_min2 (hc : X.calm = true) : CallR X (.builtin "min") (fun xs H Q => ∃ i j, xs = [.int i, .int j] ∧ Q (.int (if j < i then j else i)) H) := by
 intro pins s σ H xs us Q I r h
 obtain ⟨i, j, rfl, q⟩ := h
 obtain ⟨u, w', rfl, ⟨t, rfl⟩, ⟨t', rfl⟩⟩ := vals2 r
 refine min_two_ints (I.ok.hd hc) fun h' tk k => ⟨_, H, I.kept k, ?_, q⟩
 by_cases hj : j < i
 ·rw [if_pos hj, if_pos hj]; exact ⟨_, rfl⟩
 ·rw [if_neg hj, if_neg hj]; exact ⟨_, rfl⟩
theorem call_str_int : CallR X (.type "str") (fun xs H Q => ∃ i, xs = [.int i] ∧ i.natAbs.log2 < 1920 ∧ Q (.str (toString i)) H) := by
 intro pins s σ H xs us Q I r h
 obtain ⟨i, rfl, hz, q⟩ := h
 obtain ⟨u, rfl, t, rfl⟩ := vals1 r
 exact PySem.P.str_of_int hz ⟨.str _, H, I.tok _, ⟨_, rfl⟩, q⟩
end
structure ObjM (h : Heap) (x dx C : Addr) (mA : Str → Option Value) : Prop where
 obj : h.get? x = some (PySem.W.instObj C dx)
 ns : h.Ns1 dx mA
 ne : dx ≠ x
theorem lookIn_ns {h : Heap} {dx : Addr} {mA : Str → Option Value} (n : h.Ns1 dx mA) : ∃ od, h.get? dx = some od ∧ ∀ name, PySem.W.lookIn name od = some (mA name) := by
 obtain ⟨o, es, ep, ho, hd, hk, _, hm⟩ := n
 refine ⟨o, ho, fun name => ?_⟩
 have e := hm name
 unfold nsFind findBy at e
 rw [← Array.find?_toList] at e
 unfold PySem.W.lookIn
 rw [hd]
 dsimp only
 split
 ·rename_i y q
  rw [q] at e
  exact congrArg some e
 ·rename_i q
  rw [q] at e
  have a : es.toList.any (·.refKey) = false := by
   rw [List.any_eq_false]
   intro y hy
   obtain ⟨z, t, hkey⟩ := hk y (Array.mem_toList_iff.mp hy)
   simp [DictEntry.refKey, hkey]
  have a' : ¬ es.toList.any (·.refKey) = true := by rw [a]; exact Bool.false_ne_true
  rw [if_neg a']
  exact congrArg some e
theorem ObjM.look {h : Heap} {x dx C : Addr} {mA : Str → Option Value} (I : ObjM h x dx C mA) : ∃ od, PySem.W.InstAt h x (PySem.W.instObj C dx) C (some od) ∧ ∀ name, PySem.W.lookIn name od = some (mA name) :=
 let ⟨od, ho, hl⟩ := lookIn_ns I.ns
 ⟨od, ⟨I.obj, rfl, rfl, ho⟩, hl⟩
section
variable {prog : Program} {w : World} {A : Around} {E : Value → Shared → Prop} {s : Shared} {K : PySem.W.Frag} {x dx C f : Addr} {mA : Str → Option Value} {name : Str} {v : Value}
theorem get_map {expr : Bool} {Q : Value → Shared → Prop} (X : K.In s.heap) (I : ObjM s.heap x dx C mA) (hg : PySem.W.plainGet K C name = true) (hh : PySem.W.hasDictIn K C = true)
  (ha : PySem.W.findIn K (.ref C) name = some none) (hv : mA name = some v) (hv' : PySem.W.handedIn v = true) (h : Q v { s with toks := s.toks + 1 }) :
  wpAny (model prog w) A (getAttr (.ref x) name expr) Q E s := by
 obtain ⟨od, J, hl⟩ := I.look
 exact PySem.W.get_value X J (PySem.W.plainGet_of hg).1 (PySem.W.findObj_own hh ha rfl (by rw [hl, hv])) hv' h
theorem get_meth {pl : Sem Bool} {Q : Value × List Value → Shared → Prop} (X : K.In s.heap) (I : ObjM s.heap x dx C mA) (hg : PySem.W.plainGet K C name = true)
  (hf : PySem.W.findIn K (.ref C) name = some (some (.ref f))) (ht : PySem.W.isFn K (.ref f) = true) (hv : mA name = none) (h : Q (.ref f, [.ref x]) s) :
  wpAny (model prog w) A (getMethod (.ref x) name pl) Q E s := by
 obtain ⟨od, J, hl⟩ := I.look
 exact PySem.W.method_fn X J (PySem.W.plainGet_of hg).1 (PySem.W.plainGet_of hg).2 hf (beq_iff_eq.mp ht) (by show (PySem.W.lookIn name od).map (·.isSome) = some false; rw [hl, hv]; rfl) h
theorem set_map {ns : List Str} {Q : Unit → Shared → Prop} (X : K.In s.heap) (I : ObjM s.heap x dx C mA)
  (hs : PySem.W.findIn K (.ref C) "__setattr__" = some (some (.builtin "object.__setattr__"))) (hp : PySem.W.plainOver K C = true) (ht : PySem.W.takerIn K C name = some none) (hh : PySem.W.hasDictIn K C = true)
  (hw : PySem.Within mA ns) (hsz : ns.length ≤ sizeLine)
  (h : ∀ h', ObjM h' x dx C (fun y => if y = name then some v else mA y) → Heap.SameBut dx s.heap h' → Q () { s with heap := h', toks := s.toks + 2 }) :
  wpAny (model prog w) A (setAttr (.ref x) name v) Q E s := by
 obtain ⟨od, J, hl⟩ := I.look
 refine PySem.W.set_plain X J hs (PySem.W.osa_open (s := { s with toks := s.toks + 1 }) (r := none) X J hp ht fun b => ?_)
 obtain ⟨cd, hc, hd'⟩ := PySem.W.any_some hh
 have hx : s.heap.get? x = some ⟨.ref C, some dx, .plain, #[]⟩ := I.obj
 refine wpAny_bind (wpAny_pure (wpAny_bind (wpAny_bind (wpAny_loadPart hx (wpAny_bind (PySem.W.Looks.here (s := { s with toks := s.toks + 1 }) (PySem.W.looks_clsIn X hc) ?_))))))
 rw [hd']
 refine wpAny_pure (a := some dx) (wpAny_bind (wpAny_pure (wpAny_bind ?_)))
 refine wpAny_nsSet1 (s := { s with toks := s.toks + 1 }) I.ns fun h' hn2 hs2 => ?_
 obtain ⟨oD, esD, epD, hoD, hdD, hcD⟩ := hn2.count (PySem.Within.cons name v hw)
 refine wpAny_bind (wpAny_lookBehind hoD (by rw [hdD]; exact pastItsLine_dict (Nat.le_trans hcD (by rw [List.length_cons]; omega))) ?_)
 exact wpAny_pure (h _ ⟨(hs2.2 _ (Ne.symm I.ne)).trans I.obj, hn2, I.ne⟩ hs2)
theorem make_map {R : Result → Shared → Prop} {vs : List Value} {kw : List (Str × Value)} (X : K.In s.heap) (hm : PySem.W.makesIn K C = true)
  (hi : PySem.W.findIn K (.ref C) "__init__" = some (some (.ref f))) (hf : PySem.W.typeIn K (.ref f) = some (.type "function"))
  (h : codeAny (model prog w) (A.under (.builtin "type.__call__" ⟨.ref C :: vs, kw⟩)) (.call (.ref f) ⟨.ref (s.heap.objs.size + 1) :: vs, kw⟩) (PySem.W.InitBack (s.heap.objs.size + 1) R)
   { s with heap := (s.heap.push PySem.W.emptyDict).push (PySem.W.instObj C s.heap.objs.size) }) :
  codeAny (model prog w) A (.call (.ref C) ⟨vs, kw⟩) R s := by
 obtain ⟨hh, g, d, t, os⟩ := s
 exact PySem.W.make_core (PySem.W.makes_of X hm) (PySem.W.looks_findIn X hi) (fun self => PySem.W.bind_fn X self hf) (.inl rfl) h
end
def putF (f : Str) (v : V) : List (Str × V) → List (Str × V)
 | [] => [(f, v)]
 | (g, x) :: r => if g = f then (g, v) :: r else (g, x) :: putF f v r
theorem lookup_putF (f g : Str) (v : V) : ∀ fs : List (Str × V), (putF f v fs).lookup g = if g = f then some v else fs.lookup g
 | [] => by
  show List.lookup g [(f, v)] = _
  by_cases h : g = f
  ·have hb : (g == f) = true := beq_iff_eq.mpr h
   simp only [List.lookup, hb, if_pos h]
  ·have hb : (g == f) = false := beq_eq_false_iff_ne.mpr h
   simp only [List.lookup, hb, if_neg h]
 | (k, x) :: r => by
  have ih := lookup_putF f g v r
  rw [show putF f v ((k, x) :: r) = (if k = f then (k, v) :: r else (k, x) :: putF f v r) from rfl]
  by_cases hk : k = f
  ·rw [if_pos hk]
   by_cases h : g = k
   ·have hb : (g == k) = true := beq_iff_eq.mpr h
    simp only [List.lookup, hb, if_pos (h.trans hk)]
   ·have hb : (g == k) = false := beq_eq_false_iff_ne.mpr h
    simp only [List.lookup, hb, if_neg (fun e : g = f => h (e.trans hk.symm))]
  ·rw [if_neg hk]
   by_cases h : g = k
   ·have hb : (g == k) = true := beq_iff_eq.mpr h
    simp only [List.lookup, hb, if_neg (fun e : g = f => hk (h.symm.trans e))]
   ·have hb : (g == k) = false := beq_eq_false_iff_ne.mpr h
    simp only [List.lookup, hb]
    exact ih
theorem keys_putF (f : Str) (v : V) : ∀ fs : List (Str × V), f ∈ (putF f v fs).map (·.1) ∧ ∀ g, g ∈ fs.map (·.1) → g ∈ (putF f v fs).map (·.1)
 | [] => ⟨by simp [putF], fun g h => by simp at h⟩
 | (k, x) :: r => by
  obtain ⟨i1, i2⟩ := keys_putF f v r
  rw [show putF f v ((k, x) :: r) = (if k = f then (k, v) :: r else (k, x) :: putF f v r) from rfl]
  by_cases hk : k = f
  ·rw [if_pos hk]
   subst hk
   exact ⟨by simp, fun g h => by simpa using h⟩
  ·rw [if_neg hk]
   refine ⟨?_, fun g h => ?_⟩
   ·rw [List.map_cons]
    exact List.mem_cons_of_mem _ i1
   ·rw [List.map_cons] at h ⊢
    rcases List.mem_cons.mp h with e | e
    ·exact List.mem_cons.mpr (.inl e)
    ·exact List.mem_cons_of_mem _ (i2 g e)
theorem length_putF (f : Str) (v : V) : ∀ fs : List (Str × V), (putF f v fs).length ≤ fs.length + 1
 | [] => by simp [putF]
 | (k, x) :: r => by
  have ih := length_putF f v r
  rw [show putF f v ((k, x) :: r) = (if k = f then (k, v) :: r else (k, x) :: putF f v r) from rfl]
  by_cases hk : k = f
  ·rw [if_pos hk, List.length_cons, List.length_cons]; omega
  ·rw [if_neg hk, List.length_cons, List.length_cons]; omega
theorem RelO.some_of {v : V} {o : Option Value} (r : RelO (some v) o) : ∃ u, o = some u ∧ RelV v u := by
 cases o with
 | none => exact (show False from r).elim
 | some u => exact ⟨u, rfl, r⟩
theorem RelO.none_of {o : Option Value} (r : RelO none o) : o = none := by
 cases o with
 | none => rfl
 | some u => exact (show False from r).elim
theorem handed_of {v : V} {u : Value} (r : RelV v u) : PySem.W.handedIn u = true := by
 cases v with
 | non => cases (show u = Value.none from r); rfl
 | bl b => cases (show u = Value.bool b from r); rfl
 | int i => obtain ⟨t, e⟩ := (show ∃ t, u = Value.int i t from r); cases e; rfl
 | str x => obtain ⟨t, e⟩ := (show ∃ t, u = Value.str x t from r); cases e; rfl
 | byt b => obtain ⟨t, e⟩ := (show ∃ t, u = Value.bytes b t from r); cases e; rfl
 | flt b => obtain ⟨t, e⟩ := (show ∃ t, u = Value.float b t from r); cases e; rfl
 | ref a => cases (show u = Value.ref a from r); rfl
 | ty n => cases (show u = Value.type n from r); rfl
section
variable {P : Program} {w : World} {H H' : Hp} {h h' : Heap} {a C dx : Addr} {fs fs' : List (Str × V)}
theorem ins_get (hok : HOk P w H h) (e : H a = some (.ins C dx fs)) : ∃ mA, ObjM h a dx C mA ∧ (∀ f, RelO (fs.lookup f) (mA f)) ∧ PySem.Within mA (fs.map (·.1)) ∧ fs.length ≤ 1000 ∧ H dx = some (.own a) := by
 obtain ⟨d, z, ne, ob, mA, n, r, q⟩ := (show ObjOk P w H h a (.ins C dx fs) from hok a _ e)
 exact ⟨mA, ⟨ob, n, ne⟩, r, q, z, d⟩
end
structure Cls (K : PySem.W.Frag) (C : Addr) : Prop where
 pg : PySem.W.plainGet K C Str.empty = true
 hd : PySem.W.hasDictIn K C = true
 po : PySem.W.plainOver K C = true
 sa : PySem.W.findIn K (.ref C) "__setattr__" = some (some (.builtin "object.__setattr__"))
theorem Cls.get {K : PySem.W.Frag} {C : Addr} (c : Cls K C) (f : Str) : PySem.W.plainGet K C f = true := c.pg
def NoAttr (K : PySem.W.Frag) (C : Addr) (f : Str) : Prop := PySem.W.findIn K (.ref C) f = some none
theorem NoAttr.taker {K : PySem.W.Frag} {C : Addr} {f : Str} (n : NoAttr K C f) : PySem.W.takerIn K C f = some none := by
 unfold PySem.W.takerIn
 rw [show PySem.W.findIn K (.ref C) f = some none from n]
 rfl
structure Con (K : PySem.W.Frag) (C : Addr) (f : Str) (v : V) (u : Value) : Prop where
 at_ : PySem.W.findIn K (.ref C) f = some (some u)
 rel : RelV v u
 get : PySem.W.specialIn K u "__get__" = some none
 cp : PySem.W.copiedNames.contains f = false
structure Meth (K : PySem.W.Frag) (C : Addr) (m : Str) (f : Addr) : Prop where
 at_ : PySem.W.findIn K (.ref C) m = some (some (.ref f))
 fn : PySem.W.isFn K (.ref f) = true
 kp : PySem.W.keepIn K (.ref f) = true
section
variable {X : Cx} {pins : List (Addr × Obj)} {σ : St} {H : Hp} {s : Shared} {a C dx : Addr} {fs : List (Str × V)} {f : Str} {v : V} {A : Around} {E : Value → Shared → Prop}
theorem getattr_ok {b : Bool} {Q : Value → Shared → Prop} (I : Inv X pins σ H s) (e : H a = some (.ins C dx fs)) (c : Cls X.K C) (n : NoAttr X.K C f) (l : fs.lookup f = some v)
  (h : ∀ u s', Inv X pins σ H s' → RelV v u → Q u s') : wpAny (model X.prog X.w) A (getAttr (.ref a) f b) Q E s := by
 obtain ⟨mA, O, r, _, _, _⟩ := ins_get I.hok e
 obtain ⟨u, hu, ru⟩ := RelO.some_of (v := v) (o := mA f) (by rw [← l]; exact r f)
 exact get_map I.kIn O (c.get f) c.hd n hu (handed_of ru) (h u _ (I.tok _) ru)
theorem getmeth_ok {m : Str} {g : Addr} {pl : Sem Bool} {Q : Value × List Value → Shared → Prop} (I : Inv X pins σ H s) (e : H a = some (.ins C dx fs)) (c : Cls X.K C) (k : Meth X.K C m g) (l : fs.lookup m = none)
  (h : Q (.ref g, [.ref a]) s) : wpAny (model X.prog X.w) A (getMethod (.ref a) m pl) Q E s := by
 obtain ⟨mA, O, r, _, _, _⟩ := ins_get I.hok e
 have hn : mA m = none := RelO.none_of (by rw [← l]; exact r m)
 exact get_meth I.kIn O (c.get m) k.at_ k.fn hn h
theorem setattr_ok {y : V} {u : Value} {Q : Unit → Shared → Prop} (I : Inv X pins σ H s) (e : H a = some (.ins C dx fs)) (c : Cls X.K C) (n : NoAttr X.K C f) (hl : fs.length < 1000) (ry : RelV y u)
  (h : ∀ s', Inv X pins σ (upd H a (.ins C dx (putF f y fs))) s' → Q () s') : wpAny (model X.prog X.w) A (setAttr (.ref a) f u) Q E s := by
 obtain ⟨mA, O, r, wi, _, ho⟩ := ins_get I.hok e
 have hz : (fs.map (·.1)).length ≤ sizeLine := by rw [List.length_map, sizeLine_eq]; omega
 refine set_map I.kIn O c.sa c.po n.taker c.hd wi hz fun h' O' sb => h _ ?_
 have hd : ∃ o, h'.get? dx = some o := let ⟨o, _, _, e', _⟩ := O'.ns; ⟨o, e'⟩
 refine I.write (x := a) (e := dx) (by rw [e]; exact True.intro) (.inr ho) (fun b q hb z => (sb.2 b hb).trans z) hd ?_
 refine ⟨by rw [upd_ne O.ne]; exact ho, ?_, O.ne, O'.obj, _, O'.ns, fun g => ?_, fun g hg => ?_⟩
 ·have := length_putF f y fs; omega
 ·show RelO ((putF f y fs).lookup g) (if g = f then some u else mA g)
  rw [lookup_putF]
  by_cases q : g = f
  ·rw [if_pos q, if_pos q]; exact ry
  ·rw [if_neg q, if_neg q]; exact r g
 ·by_cases q : g = f
  ·rw [q]; exact (keys_putF f y fs).1
  ·refine (keys_putF f y fs).2 g (wi g fun z => hg ?_)
   show (if g = f then some u else mA g) = none
   rw [if_neg q]; exact z
theorem Inv.made (I : Inv X pins σ H s) : Inv X pins σ (upd (upd H s.heap.objs.size (.own (s.heap.objs.size + 1))) (s.heap.objs.size + 1) (.ins C s.heap.objs.size []))
  { s with heap := (s.heap.push PySem.W.emptyDict).push (PySem.W.instObj C s.heap.objs.size) } := by
 have e1 : (s.heap.push PySem.W.emptyDict).get? s.heap.objs.size = some PySem.W.emptyDict := Heap.get?_push_size s.heap rfl
 have e2 : ((s.heap.push PySem.W.emptyDict).push (PySem.W.instObj C s.heap.objs.size)).get? (s.heap.objs.size + 1) = some (PySem.W.instObj C s.heap.objs.size) := by
  have := Heap.get?_push_size (s.heap.push PySem.W.emptyDict) (o := PySem.W.instObj C s.heap.objs.size) rfl
  rwa [Heap.size_push] at this
 have e3 : (s.heap.push PySem.W.emptyDict).Ns s.heap.objs.size (fun _ => none) := ⟨PySem.W.emptyDict, #[], _, e1, rfl, (fun e he => absurd he (by simp)), fun _ => rfl⟩
 have I1 := I.laid (a := s.heap.objs.size) (o := .own (s.heap.objs.size + 1)) (h' := s.heap.push PySem.W.emptyDict) (t' := s.toks) (fun b u q => Heap.get?_push_of_some _ q) (Nat.le_refl _) ⟨_, e1⟩
 refine I1.laid (a := s.heap.objs.size + 1) (o := .ins C s.heap.objs.size []) (t' := s.toks) (fun b u q => Heap.get?_push_of_some _ q) (Nat.le_of_eq (Heap.size_push _ _)) ?_
 have ne : s.heap.objs.size ≠ s.heap.objs.size + 1 := Nat.ne_of_lt (Nat.lt_succ_self _)
 refine ⟨by rw [upd_ne ne, upd_same], Nat.zero_le _, ne, e2, fun _ => none, (Heap.Ns1.of_empty e3).at fun o q => Heap.get?_push_of_some _ q, fun _ => True.intro, fun y hy => absurd rfl hy⟩
theorem attr_of {prog : Program} {w : World} {env : Env} {e : Expr} {f : Str} {pos : Pos} {s : Shared} {Q : Value → Shared → Prop} (hb : attributeBase e f env (eval e env) = eval e env)
  (h : wpAny (model prog w) A (eval e env) (fun o s₁ => wpAny (model prog w) A (getAttr o f true) Q E s₁) E s) : wpAny (model prog w) A (eval (.Attribute e f pos) env) Q E s :=
 Attribute_any_ h (by rw [arm_eval_Attribute, hb])
end
def tFld (K : PySem.W.Frag) (ta : TE) (f : Str) : TE := fun σ H Q => ta σ H fun x H1 => ∃ a C dx fs v, x = .ref a ∧ H1 a = some (.ins C dx fs) ∧ Cls K C ∧ NoAttr K C f ∧ fs.lookup f = some v ∧ Q v H1
def sFld (K : PySem.W.Frag) (ta tv : TE) (f : Str) : TS := fun D σ H => tv σ H fun y H1 => ta σ H1 fun x H2 => ∃ a C dx fs, x = .ref a ∧ H2 a = some (.ins C dx fs) ∧ Cls K C ∧ NoAttr K C f ∧ fs.length < 1000 ∧
 D.nx σ (upd H2 a (.ins C dx (putF f y fs)))
section
variable {X : Cx} {o e value : Expr} {f : Str} {pos pos' tpos : Pos} {ta tv : TE}
theorem pe_fld (he : PE X e ta) (hb : attributeBase e f X.env (eval e X.env) = eval e X.env) : PE X (.Attribute e f pos) (tFld X.K ta f) := by
 intro pins s σ H Q I h
 refine attr_of hb (thn (he pins s σ H _ I h) fun u s1 ⟨x, H1, I1, rx, a, C, dx, fs, v, ex, ea, c, n, l, q⟩ => ?_)
 subst ex
 obtain rfl : u = Value.ref a := rx
 exact getattr_ok I1 ea c n l fun u' s2 I2 ru => ⟨v, H1, I2, ru, q⟩
theorem ps_fld (ha : PE X o ta) (hv : PE X value tv) (hs : swapsWith value (some (.Attribute o f pos')) pos.line X.env = pure false) : PS X (.Assign [.Attribute o f pos'] value pos) (sFld X.K ta tv f) := by
 intro pins s σ H D I h
 refine plainObj_wpAny_Assign_Attribute (thn (hv pins s σ H _ I h) fun u s1 ⟨y, H1, I1, ry, q⟩ => thn (ha pins s1 σ H1 _ I1 q) fun ov s2 ⟨x, H2, I2, rx, a, C, dx, fs, ex, ea, c, n, l, q2⟩ => ?_) hs
 subst ex
 obtain rfl : ov = Value.ref a := rx
 exact setattr_ok I2 ea c n l ry fun s3 I3 => ⟨σ, _, I3, q2⟩
theorem methcall_of {pl : Sem Bool} {m : Str} {apos : Pos} {args : List Expr} {pins : List (Addr × Obj)} {s : Shared} {σ : St} {H : Hp} {Q : Value → Shared → Prop} {te : TE} (he : PE X e te) (I : Inv X pins σ H s)
  (h : te σ H fun x H1 => ∃ a C dx fs g, x = .ref a ∧ H1 a = some (.ins C dx fs) ∧ Cls X.K C ∧ Meth X.K C m g ∧ fs.lookup m = none ∧
   ∀ s1, Inv X pins σ H1 s1 → wpAny (model X.prog X.w) X.A (callWith pos (.ref g) [.ref a] (backTo pos (starEach args X.env)) (backToKw pos (keywordEach [] X.env))) Q X.xe s1)
  (ht : eval (.Call (.Attribute e m apos) args [] pos) X.env = (do
   let ov ← eval e X.env
   standAt apos.atName
   let (f, first) ← holding [ov] (getMethod ov m pl)
   callWith pos f first (backTo pos (starEach args X.env)) (backToKw pos (keywordEach [] X.env)))) :
  wpAny (model X.prog X.w) X.A (eval (.Call (.Attribute e m apos) args [] pos) X.env) Q X.xe s := by
 refine PySem.W.methodCall_KW (pl := pl) (thn (he pins s σ H _ I h) fun u s1 ⟨x, H1, I1, rx, a, C, dx, fs, g, ex, ea, c, k, l, q⟩ => ?_) ht
 subst ex
 obtain rfl : u = Value.ref a := rx
 exact getmeth_ok I1 ea c k l (q s1 I1)
end
section
variable {X : Cx} {pins : List (Addr × Obj)} {σ : St} {H : Hp} {s : Shared} {A : Around} {E : Value → Shared → Prop} {Q : Value → Shared → Prop} {c : Value} {b : Bool}
inductive TyOf (K : PySem.W.Frag) (H : Hp) : V → Value → Prop where
 | non : TyOf K H .non (.type "NoneType")
 | bl (x : Bool) : TyOf K H (.bl x) (.type "bool")
 | int (i : Int) : TyOf K H (.int i) (.type "int")
 | str (x : Str) : TyOf K H (.str x) (.type "str")
 | flt (x : UInt64) : TyOf K H (.flt x) (.type "float")
 | lst {a : Addr} {xs : List V} (e : H a = some (.lst xs)) : TyOf K H (.ref a) (.type "list")
 | frz {a : Addr} {o : Obj} {xs : List V} (e : H a = some (.frz o (.lst xs))) : TyOf K H (.ref a) (.type "list")
 | tup {a : Addr} {xs : List V} (e : H a = some (.tup xs)) : TyOf K H (.ref a) (.type "tuple")
 | dK {a : Addr} {kvs : List (Key × V)} (e : H a = some (.dK kvs)) : TyOf K H (.ref a) (.type "dict")
 | dT {a : Addr} {kvs : List (List Key × V)} (e : H a = some (.dT kvs)) : TyOf K H (.ref a) (.type "dict")
 | ins {a C dx : Addr} {fs : List (Str × V)} (e : H a = some (.ins C dx fs)) (cl : Cls K C) (ha : PySem.W.findIn K (.ref C) "__class__" = some (some (.builtin "object.__class__")))
   (hn : PySem.W.specialIn K (.builtin "object.__class__") "__get__" = some (some (.builtin "getset_descriptor.__get__"))) (htk : PySem.W.takesIn K (.builtin "object.__class__") = some true)
   (hm : PySem.W.mroIn K C (.type "object") = some true) : TyOf K H (.ref a) (.ref C)
theorem isinst_ok {x : V} {u t : Value} (I : Inv X pins σ H s) (rx : RelV x u) (ty : TyOf X.K H x t) (e : PySem.W.kitOne X.K t c = some b) (h : ∀ tk, Q (.bool b) { s with toks := tk }) :
  wpAny (model X.prog X.w) A (call (.builtin "isinstance") [u, c]) Q E s := by
 cases ty with
 | non => cases (show u = Value.none from rx); exact PySem.W.kia_one PySem.W.kitx_none I.kIn True.intro e (fun z => nomatch z) h
 | bl y => cases (show u = Value.bool y from rx); exact PySem.W.kia_one PySem.W.kitx_bool I.kIn True.intro e (fun z => nomatch z) h
 | int i => obtain ⟨t, q⟩ := (show ∃ t, u = Value.int i t from rx); cases q; exact PySem.W.kia_one PySem.W.kitx_int I.kIn True.intro e (fun z => nomatch z) h
 | str y => obtain ⟨t, q⟩ := (show ∃ t, u = Value.str y t from rx); cases q; exact PySem.W.kia_one PySem.W.kitx_str I.kIn True.intro e (fun z => nomatch z) h
 | flt y => obtain ⟨t, q⟩ := (show ∃ t, u = Value.float y t from rx); cases q; exact PySem.W.kia_one PySem.W.kitx_float I.kIn True.intro e (fun z => nomatch z) h
 | @lst a xs ea =>
  cases (show u = Value.ref a from rx)
  obtain ⟨_, _, n, _, h1⟩ := (show ObjOk X.prog X.w H s.heap a (.lst xs) from I.hok a _ ea)
  exact PySem.W.kia_one PySem.W.kitx_list I.kIn ⟨_, h1, rfl⟩ e (fun z => nomatch z) h
 | @frz a ob xs ea =>
  cases (show u = Value.ref a from rx)
  obtain ⟨_, _, _, n, _, h1⟩ := (show ObjOk X.prog X.w H s.heap a (.frz ob (.lst xs)) from I.hok a _ ea)
  exact PySem.W.kia_one PySem.W.kitx_list I.kIn ⟨_, h1, rfl⟩ e (fun z => nomatch z) h
 | @tup a xs ea =>
  cases (show u = Value.ref a from rx)
  obtain ⟨_, _, _, p⟩ := (show ObjOk X.prog X.w H s.heap a (.tup xs) from I.hok a _ ea)
  obtain ⟨o, h1, h2, _⟩ := p
  exact PySem.W.kia_one PySem.W.kitx_tuple I.kIn ⟨o, h1, h2⟩ e (fun z => nomatch z) h
 | @dK a kvs ea =>
  cases (show u = Value.ref a from rx)
  obtain ⟨_, _, vs, _, p⟩ := (show ObjOk X.prog X.w H s.heap a (.dK kvs) from I.hok a _ ea)
  obtain ⟨o, es, ep, h1, h2, _⟩ := p
  exact PySem.W.kia_one PySem.W.kitx_dict I.kIn ⟨o, h1, h2.1⟩ e (fun z => nomatch z) h
 | @dT a kvs ea =>
  cases (show u = Value.ref a from rx)
  obtain ⟨_, _, xs, _, o, es, ep, h1, h2, _⟩ := (show ObjOk X.prog X.w H s.heap a (.dT kvs) from I.hok a _ ea)
  exact PySem.W.kia_one PySem.W.kitx_dict I.kIn ⟨o, h1, h2.1⟩ e (fun z => nomatch z) h
 | @ins a C dx fs ea cl ha hn htk hm =>
  cases (show u = Value.ref a from rx)
  obtain ⟨mA, O, _⟩ := ins_get I.hok ea
  obtain ⟨od, J, _⟩ := O.look
  exact PySem.W.kia_one (PySem.W.kitx_own (cl.get _) cl.hd ha hn htk hm) I.kIn J e (fun z => nomatch z) h
end
structure Room (k : Nat) (A : Around) : Prop where
 hd : A.handled = none
 dp : A.depth + 3 * k + 5 < recursionLimit
 un : A.units + 16 * k + 200 < cLine
theorem Room.mono {j k : Nat} {A : Around} (r : Room k A) (h : j ≤ k) : Room j A := ⟨r.hd, by have := r.dp; omega, by have := r.un; omega⟩
theorem Room.deeper {k : Nat} {A : Around} (r : Room (k + 1) A) (env : Env) : Room k (A.deeper env) :=
 ⟨r.hd, by have := r.dp; show A.depth + 1 + 3 * k + 5 < _; omega, by have := r.un; show A.units + 3 + 16 * k + 200 < _; omega⟩
theorem Room.in1 {k : Nat} {A : Around} (r : Room (k + 1) A) : Room k A.in1 :=
 ⟨r.hd, by have := r.dp; show A.depth + 3 * k + 5 < _; omega, by have := r.un; show A.units + 1 + 16 * k + 200 < _; omega⟩
theorem make_depth {A : Around} {C : Addr} {us : List Value} {kw : List (Str × Value)} : (A.under (.builtin "type.__call__" ⟨.ref C :: us, kw⟩)).depth = A.depth + 1 := by
 first | rfl | simp [Around.under, Code.weight, Code.isCreation, Code.isGuard, Code.isCaller, Code.frames, Code.isFrame, guardIds]
theorem make_units {A : Around} {C : Addr} {us : List Value} {kw : List (Str × Value)} : (A.under (.builtin "type.__call__" ⟨.ref C :: us, kw⟩)).units = A.units + 1 := by
 first | rfl | simp [Around.under, Code.cUnits, Code.frames, Code.isFrame]
theorem Room.make {k : Nat} {A : Around} (r : Room (k + 1) A) (C : Addr) (us : List Value) (kw : List (Str × Value)) : Room k (A.under (.builtin "type.__call__" ⟨.ref C :: us, kw⟩)) :=
 ⟨r.hd, by have := r.dp; rw [make_depth]; omega, by have := r.un; rw [make_units]; omega⟩
theorem Room.depth {k : Nat} {A : Around} (r : Room k A) : A.depth < recursionLimit := by have := r.dp; omega
theorem Room.units {k : Nat} {A : Around} (r : Room k A) : A.units + 64 < cLine := by have := r.un; omega
def tNil : TA := fun _ H Q => Q [] H
def tCons (ta : TE) (tr : TA) : TA := fun σ H Q => ta σ H fun x H1 => tr σ H1 fun xs H2 => Q (x :: xs) H2
section
variable {X : Cx} {e : Expr} {es : List Expr} {te : TE} {t : TA} {pos : Pos}
theorem pa_nil : PA X [] tNil := fun _ _ _ _ H Q I h => Calls.spliced_nil ⟨[], H, I, .nil, h⟩
theorem pa_cons (ha : PE X e te) (hr : PA X es t) (hs : starEach (e :: es) X.env = (false, eval e X.env) :: starEach es X.env := by rfl) : PA X (e :: es) (tCons te t) := by
 intro pos pins s σ H Q I h
 rw [hs]
 show wpAny _ _ (spliced ((false, eval e X.env) :: backTo pos (starEach es X.env))) _ _ s
 refine Calls.spliced_cons (thn (ha pins s σ H _ I h) fun u s1 ⟨x, H1, I1, r1, q1⟩ => ?_)
 exact thn (hr pos pins s1 σ H1 _ I1 q1) fun us s2 ⟨xs, H2, I2, r2, q2⟩ => ⟨x :: xs, H2, I2, .cons r1 r2, q2⟩
def tTup (t : TA) : TE := fun σ H Q => t σ H fun xs H1 => xs.length ≤ sizeLine ∧ ∀ p, H1 p = none → Q (.ref p) (upd H1 p (.tup xs))
def tLst (t : TA) : TE := fun σ H Q => t σ H fun xs H1 => xs.length ≤ sizeLine ∧ ∀ p, H1 p = none → Q (.ref p) (upd H1 p (.lst xs))
theorem pe_tup {x1} (h : PA X es t) : PE X (.Tuple es x1 pos) (tTup t) := by
 intro pins s σ H Q I hq
 refine wpAny_Tuple_spliced (thn (h pos pins s σ H _ I hq) fun us s1 ⟨xs, H1, I1, r, z, q⟩ => ⟨by rw [← r.length]; exact z, ?_⟩)
 have hf : H1 s1.heap.objs.size = none := I1.hok.fresh (Nat.le_refl _)
 refine ⟨.ref s1.heap.objs.size, upd H1 s1.heap.objs.size (.tup xs), I1.laid (t' := s1.toks) (fun b u e => Heap.get?_push_of_some _ e) (Nat.le_refl _) ?_, rfl, q _ hf⟩
 exact ⟨z, us, r, ⟨_, Heap.get?_push_size _ rfl, rfl, _, rfl⟩⟩
theorem pe_lst (h : PA X es t) : PE X (.List es pos) (tLst t) := by
 intro pins s σ H Q I hq
 refine wpAny_List_spliced (thn (h pos pins s σ H _ I hq) fun us s1 ⟨xs, H1, I1, r, z, q⟩ => ⟨by rw [← r.length]; exact z, ?_⟩)
 have hf : H1 s1.heap.objs.size = none := I1.hok.fresh (Nat.le_refl _)
 refine ⟨.ref s1.heap.objs.size, upd H1 s1.heap.objs.size (.lst xs), I1.laid (t' := s1.toks) (fun b u e => Heap.get?_push_of_some _ e) (Nat.le_refl _) ?_, rfl, q _ hf⟩
 exact ⟨z, us, 0, r, Heap.get?_push_size _ rfl⟩
end
abbrev Sp := List V → Hp → VK → XK → Prop
abbrev CXT := List Env → Hp → Shared → XK → Value → Shared → Prop
structure Env0 (P : Program) (w : World) (K : PySem.W.Frag) (mg : Str → Option Value) (base : Heap) (A : Around) (outer : List Env) (s : Shared) (H : Hp) : Prop where
 frames : A.frames = some outer
 mod : Mod K mg base
 bs : ∀ b o, base.get? b = some o → s.heap.get? b = some o ∧ H b = none
 bsz : base.objs.size ≤ s.heap.objs.size
 funs : s.heap.FunFrames base outer
 frf : ∀ b ∈ frs outer, H b = none
 hok : HOk P w H s.heap
 bare : AllBare s.gens
def CE (outer : List Env) (P : Program) (w : World) (H : Hp) (s : Shared) (Q : VK) (u : Value) (s' : Shared) : Prop :=
 ∃ v H', s'.os = s.os ∧ AllBare s'.gens ∧ Un (frs outer) [] H H' s.heap s'.heap ∧ HOk P w H' s'.heap ∧ RelV v u ∧ Q v H'
def CR (CX : CXT) (outer : List Env) (P : Program) (w : World) (H : Hp) (s : Shared) (Q : VK) (E : XK) (r : Result) (s' : Shared) : Prop :=
 match r with
 | .ok (.ret u) => CE outer P w H s Q u s'
 | .ok _ => False
 | .error e => CX outer H s E e s'
structure FnOk (P : Program) (w : World) (K : PySem.W.Frag) (mg : Str → Option Value) (base : Heap) (CX : CXT) (k : Nat) (f : Addr) (fd : FuncData) (ps : List Str) (sp : Sp) : Prop where
 len : ∀ vs H Q E, sp vs H Q E → vs.length = ps.length
 run : ∀ (A : Around) (outer : List Env) (s : Shared) (H : Hp) (args : Args) (us : List Value) (vs : List V) (Q : VK) (E : XK), Room k A → Env0 P w K mg base A outer s H → BindsTo s fd args (ps.zip us) → Vals vs us → sp vs H Q E →
  codeAny (model P w) A (.call (.ref f) args) (CR CX outer P w H s Q E) s
theorem Env0.make {P : Program} {w : World} {K : PySem.W.Frag} {mg : Str → Option Value} {base : Heap} {A : Around} {outer : List Env} {s : Shared} {H : Hp} (e : Env0 P w K mg base A outer s H) (C : Addr) (us : List Value) (kw : List (Str × Value)) :
  Env0 P w K mg base (A.under (.builtin "type.__call__" ⟨.ref C :: us, kw⟩)) outer s H := ⟨by first | exact e.frames | (simpa [Around.under, Code.envs, Code.isFrame, pushEnvs] using e.frames), e.mod, e.bs, e.bsz, e.funs, e.frf, e.hok, e.bare⟩
theorem Env0.in1 {P : Program} {w : World} {K : PySem.W.Frag} {mg : Str → Option Value} {base : Heap} {A : Around} {outer : List Env} {s : Shared} {H : Hp} (e : Env0 P w K mg base A outer s H) :
  Env0 P w K mg base A.in1 outer s H := ⟨e.frames, e.mod, e.bs, e.bsz, e.funs, e.frf, e.hok, e.bare⟩
section
variable {X : Cx} {pins : List (Addr × Obj)} {σ : St} {H : Hp} {s s' : Shared}
theorem Inv.env0 (I : Inv X pins σ H s) : Env0 X.prog X.w X.K X.mg X.base X.A X.stack s H :=
 ⟨I.ok.frames, I.ok.mod, I.bs, Nat.le_trans I.ok.bsz I.sz, I.stack, I.stkFree, I.hok, I.bare⟩
theorem Inv.after {Q : VK} {u : Value} (I : Inv X pins σ H s) (h : CE X.stack X.prog X.w H s Q u s') : EP X pins σ Q u s' := by
 obtain ⟨v, H', os, bare, un, hok, r, q⟩ := h
 obtain ⟨hh, g, d, t, os'⟩ := s'
 obtain rfl : os' = s.os := os
 exact ⟨v, H', I.call (h' := hh) (g' := g) (d' := d) (t' := t) (ch := []) un hok bare (fun b z => absurd z (by simp)), r, q⟩
end
def tCall (sp : Sp) (dvs : List V) (E : XK) (t : TA) : TE := fun σ H Q => t σ H fun vs H1 => sp (vs ++ dvs) H1 Q E
def tMeth (C : Addr) (m : Str) (sp : Sp) (dvs : List V) (E : XK) (ta : TE) (t : TA) : TE := fun σ H Q => ta σ H fun x H1 => ∃ a dx fs, x = .ref a ∧ H1 a = some (.ins C dx fs) ∧ fs.lookup m = none ∧
 t σ H1 fun vs H2 => sp (x :: (vs ++ dvs)) H2 Q E
def tMake (C : Addr) (sp : Sp) (dvs : List V) (E : XK) (t : TA) : TE := fun σ H Q => t σ H fun vs H1 => ∀ x dx, H1 x = none → H1 dx = none → dx ≠ x →
 sp (.ref x :: (vs ++ dvs)) (upd (upd H1 dx (.own x)) x (.ins C dx [])) (fun v H2 => v = .non ∧ Q (.ref x) H2) E
def Binds (K : PySem.W.Frag) (fd : FuncData) (ps : List Str) (ds : List Value) : Prop :=
 ∀ (s : Shared) (us : List Value), K.In s.heap → (us ++ ds).length = ps.length → BindsTo s fd ⟨us, []⟩ (ps.zip (us ++ ds))
theorem Binds.all {K : PySem.W.Frag} {fd : FuncData} {ps : List Str} (h : ∀ us : List Value, us.length = ps.length → bindArgs fd ⟨us, []⟩ = pure (ps.zip us)) : Binds K fd ps [] := fun s us _ hl => by
 rw [List.append_nil] at hl ⊢
 exact .of_eq (h us hl)
def Passes (CX : CXT) (X : Cx) (E : XK) : Prop := ∀ (pins : List (Addr × Obj)) (σ : St) (H : Hp) (s : Shared) (e : Value) (s' : Shared), Inv X pins σ H s → CX X.stack H s E e s' → X.xe e s'
section
variable {X : Cx} {CX : CXT} {k : Nat} {f C : Addr} {fd : FuncData} {ps : List Str} {sp : Sp} {dvs : List V} {ds : List Value} {E : XK} {x m : Str} {p pos apos : Pos} {e o : Expr} {es : List Expr} {ta : TE} {t : TA}
theorem run_fn {pins : List (Addr × Obj)} {σ : St} {H : Hp} {s : Shared} {Q : VK} {us : List Value} {vs : List V} (F : FnOk X.prog X.w X.K X.mg X.base CX k f fd ps sp) (hr : Room k X.A) (hb : Binds X.K fd ps ds) (hd : Vals dvs ds) (hx : Passes CX X E)
  (I : Inv X pins σ H s) (r : Vals vs us) (h : sp (vs ++ dvs) H Q E) : wpAny (model X.prog X.w) X.A (call (.ref f) us) (EP X pins σ Q) X.xe s := by
 have r2 : Vals (vs ++ dvs) (us ++ ds) := r.append hd
 have hl : (us ++ ds).length = ps.length := by rw [← r2.length]; exact F.len _ _ _ _ h
 refine wpAny_call (codeAny_mono (F.run X.A X.stack s H ⟨us, []⟩ (us ++ ds) (vs ++ dvs) Q E hr I.env0 (hb s us I.kIn hl) r2 h) fun r s' hq => ?_)
 cases r with
 | error e => exact hx pins σ H s e s' I hq
 | ok fl =>
  cases fl with
  | ret u => exact I.after hq
  | next => exact False.elim hq
  | brk => exact False.elim hq
  | cont => exact False.elim hq
theorem pe_call (F : FnOk X.prog X.w X.K X.mg X.base CX k f fd ps sp) (hr : Room k X.A) (hg : Gl X x) (hm : X.mg x = some (.ref f)) (hk : PySem.W.keepIn X.K (.ref f) = true) (hb : Binds X.K fd ps ds) (hd : Vals dvs ds) (hx : Passes CX X E)
  (ha : PA X (e :: es) t) (hdb : (x == ("__debug__" : Str)) = false := by decide) (he : starEach (e :: es) X.env = (false, eval e X.env) :: starEach es X.env := by rfl) (hpl : (backTo pos (starEach es X.env)).any (·.1) = false := by rfl) :
  PE X (.Call (.Name x p) (e :: es) [] pos) (tCall sp dvs E t) := by
 intro pins s σ H Q I h
 refine wpAny_Call_Name_kw (ld_glob I hg hm ?_ hdb)
 refine PySem.W.callWith_K (h₀ := X.base) I.ok.mod.kin hk (thn (ha pos pins s σ H _ I h) fun us s1 ⟨vs, H1, I1, r, q⟩ => ⟨I1.kIn, ?_⟩) he hpl
 exact run_fn F hr hb hd hx I1 r q
theorem pe_meth0 {pl : Sem Bool} (he : PE X o ta) (c : Cls X.K C) (hm : Meth X.K C m f) (F : FnOk X.prog X.w X.K X.mg X.base CX k f fd ps sp) (hr : Room k X.A) (hb : Binds X.K fd ps ds) (hd : Vals dvs ds) (hx : Passes CX X E)
  (ht : eval (.Call (.Attribute o m apos) [] [] pos) X.env = (do
   let ov ← eval o X.env
   standAt apos.atName
   let (f, first) ← holding [ov] (getMethod ov m pl)
   callWith pos f first (backTo pos (starEach [] X.env)) (backToKw pos (keywordEach [] X.env))) := by rfl) :
  PE X (.Call (.Attribute o m apos) [] [] pos) (tMeth C m sp dvs E ta tNil) := by
 intro pins s σ H Q I h
 refine PySem.W.methodCall_KW (pl := pl) (thn (he pins s σ H _ I h) fun u s1 ⟨x, H1, I1, rx, a, dx, fs, ex, ea, l, q⟩ => ?_) ht
 subst ex
 obtain rfl : u = Value.ref a := rx
 refine getmeth_ok I1 ea c hm l ?_
 exact PySem.W.callWith_K0 (first := [.ref a]) I1.kIn hm.kp (run_fn (us := [.ref a]) (vs := [.ref a]) F hr hb hd hx I1 (.cons rfl .nil) q)
structure Mk (K : PySem.W.Frag) (C f : Addr) : Prop where
 makes : PySem.W.makesIn K C = true
 init : PySem.W.findIn K (.ref C) "__init__" = some (some (.ref f))
 fn : PySem.W.isFn K (.ref f) = true
 kp : PySem.W.keepIn K (.ref C) = true
theorem run_make {pins : List (Addr × Obj)} {σ : St} {H : Hp} {s : Shared} {Q : VK} {us : List Value} {vs : List V} (M : Mk X.K C f) (F : FnOk X.prog X.w X.K X.mg X.base CX k f fd ps sp) (hr : Room (k + 1) X.A) (hb : Binds X.K fd ps ds) (hd : Vals dvs ds)
  (hx : Passes CX X E) (I : Inv X pins σ H s) (r : Vals vs us)
  (h : ∀ x dx, H x = none → H dx = none → dx ≠ x → sp (.ref x :: (vs ++ dvs)) (upd (upd H dx (.own x)) x (.ins C dx [])) (fun v H2 => v = .non ∧ Q (.ref x) H2) E) :
  wpAny (model X.prog X.w) X.A (call (.ref C) us) (EP X pins σ Q) X.xe s := by
 have hq := h (s.heap.objs.size + 1) s.heap.objs.size (I.hok.fresh (Nat.le_succ _)) (I.hok.fresh (Nat.le_refl _)) (Nat.ne_of_lt (Nat.lt_succ_self _))
 have I2 := Inv.made (C := C) I
 have r2 : Vals (V.ref (s.heap.objs.size + 1) :: (vs ++ dvs)) (Value.ref (s.heap.objs.size + 1) :: (us ++ ds)) := .cons rfl (r.append hd)
 have hl : (Value.ref (s.heap.objs.size + 1) :: us ++ ds).length = ps.length := by
  have e := r2.length
  rw [F.len _ _ _ _ hq] at e
  exact e.symm
 refine wpAny_call (make_map (f := f) I.kIn M.makes M.init (beq_iff_eq.mp M.fn) (codeAny_mono (F.run _ X.stack _ _ ⟨Value.ref (s.heap.objs.size + 1) :: us, []⟩ (Value.ref (s.heap.objs.size + 1) :: (us ++ ds)) _ _ E (hr.make C us [])
  (I2.env0.make C us []) (hb _ (Value.ref (s.heap.objs.size + 1) :: us) I2.kIn hl) r2 hq) fun r s' hq' => ?_))
 cases r with
 | error e => exact hx pins σ _ _ e s' I2 hq'
 | ok fl =>
  cases fl with
  | ret u =>
   obtain ⟨v, H', I3, rv, ev, q3⟩ := I2.after hq'
   subst ev
   exact ⟨rv, ⟨V.ref (s.heap.objs.size + 1), H', I3, rfl, q3⟩⟩
  | next => exact False.elim hq'
  | brk => exact False.elim hq'
  | cont => exact False.elim hq'
theorem pe_make (M : Mk X.K C f) (F : FnOk X.prog X.w X.K X.mg X.base CX k f fd ps sp) (hr : Room (k + 1) X.A) (hg : Gl X x) (hm : X.mg x = some (.ref C)) (hb : Binds X.K fd ps ds) (hd : Vals dvs ds) (hx : Passes CX X E)
  (ha : PA X (e :: es) t) (hdb : (x == ("__debug__" : Str)) = false := by decide) (he : starEach (e :: es) X.env = (false, eval e X.env) :: starEach es X.env := by rfl) (hpl : (backTo pos (starEach es X.env)).any (·.1) = false := by rfl) :
  PE X (.Call (.Name x p) (e :: es) [] pos) (tMake C sp dvs E t) := by
 intro pins s σ H Q I h
 refine wpAny_Call_Name_kw (ld_glob I hg hm ?_ hdb)
 refine PySem.W.callWith_K (h₀ := X.base) I.ok.mod.kin M.kp (thn (ha pos pins s σ H _ I h) fun us s1 ⟨vs, H1, I1, r, q⟩ => ⟨I1.kIn, ?_⟩) he hpl
 exact run_make M F hr hb hd hx I1 r q
end
def PK (X : Cx) (kws : List Keyword) (t : TA) : Prop :=
 ∀ (pos : Pos) (pins : List (Addr × Obj)) (s : Shared) (σ : St) (H : Hp) (Q : List V → Hp → Prop), Inv X pins σ H s → t σ H Q → wpAny (model X.prog X.w) X.A (evalAll ((backToKw pos (keywordEach kws X.env)).map (·.2))) (AP X pins σ Q) X.xe s
section
variable {X : Cx} {CX : CXT} {k : Nat} {f C : Addr} {fd : FuncData} {ps ks : List Str} {sp : Sp} {E : XK} {x m : Str} {p pos apos kpos : Pos} {e o : Expr} {es : List Expr} {kws : List Keyword} {te ta : TE} {t tk : TA} {nm : Option Str}
structure KBinds (K : PySem.W.Frag) (fd : FuncData) (ps ks : List Str) (g : List Value → List Value → List Value) (gV : List V → List V → List V) : Prop where
 to : ∀ (s : Shared) (us ws : List Value), K.In s.heap → (g us ws).length = ps.length → BindsTo s fd ⟨us, ks.zip ws⟩ (ps.zip (g us ws))
 rel : ∀ {vs : List V} {us : List Value} {zs : List V} {ws : List Value}, Vals vs us → Vals zs ws → Vals (gV vs zs) (g us ws)
variable {g : List Value → List Value → List Value} {gV : List V → List V → List V}
end
structure FnScope (N P : List Str) (sc : Scope) : Prop where
 kind : sc.kind = .function
 co : sc.isCoroutine = false
 gen : sc.isGenerator = false
 nd : N.Nodup
 pre : N.take P.length = P
 par : ∀ x ∈ P, sc.names.lookup x = some .local ∨ sc.names.lookup x = some .cell
 nofree : ∀ y ∈ sc.names, y.2 ≠ .free
theorem bindL_out {kindOf : Str → Option NameKind} {x : Str} : ∀ {binds : List (Str × Value)} {m : Str → Option Value}, (∀ v, (x, v) ∉ binds) → bindL kindOf binds m x = m x
 | [], _, _ => rfl
 | (n, v) :: r, m, h => by
  unfold bindL
  rw [bindL_out fun w hw => h w (List.mem_cons_of_mem _ hw)]
  split
  ·have : x ≠ n := by rintro rfl; exact h v List.mem_cons_self
   simp [this]
  ·rfl
theorem bindC_out {kindOf : Str → Option NameKind} {x : Str} : ∀ {binds : List (Str × Value)} {m : Str → Option Value}, (∀ v, (x, v) ∉ binds) → bindC kindOf binds m x = m x
 | [], _, _ => rfl
 | (n, v) :: r, m, h => by
  unfold bindC
  rw [bindC_out fun w hw => h w (List.mem_cons_of_mem _ hw)]
  split
  ·rfl
  ·have : x ≠ n := by rintro rfl; exact h v List.mem_cons_self
   simp [this]
theorem bindL_get {kindOf : Str → Option NameKind} {x : Str} {v : Value} : ∀ {P : List Str} {vs : List Value} {i : Nat} {m : Str → Option Value}, P.Nodup → P[i]? = some x → vs[i]? = some v → kindOf x = some .local →
  bindL kindOf (P.zip vs) m x = some v
 | [], _, _, _, _, h, _, _ => by simp at h
 | _ :: _, [], _, _, _, _, h, _ => by simp at h
 | p :: P, w :: vs, 0, m, nd, h1, h2, hk => by
  simp at h1 h2; subst h1; subst h2
  show bindL kindOf ((p, w) :: P.zip vs) m p = _
  unfold bindL
  rw [bindL_out fun v hv => (List.nodup_cons.mp nd).1 (List.of_mem_zip hv).1, if_pos hk]
  simp
 | p :: P, w :: vs, i + 1, m, nd, h1, h2, hk => by
  show bindL kindOf ((p, w) :: P.zip vs) m x = _
  unfold bindL
  exact bindL_get (i := i) (List.nodup_cons.mp nd).2 (by simpa using h1) (by simpa using h2) hk
theorem bindC_get {kindOf : Str → Option NameKind} {x : Str} {v : Value} : ∀ {P : List Str} {vs : List Value} {i : Nat} {m : Str → Option Value}, P.Nodup → P[i]? = some x → vs[i]? = some v → kindOf x ≠ some .local →
  bindC kindOf (P.zip vs) m x = some v
 | [], _, _, _, _, h, _, _ => by simp at h
 | _ :: _, [], _, _, _, _, h, _ => by simp at h
 | p :: P, w :: vs, 0, m, nd, h1, h2, hk => by
  simp at h1 h2; subst h1; subst h2
  show bindC kindOf ((p, w) :: P.zip vs) m p = _
  unfold bindC
  rw [bindC_out fun v hv => (List.nodup_cons.mp nd).1 (List.of_mem_zip hv).1, if_neg hk]
  simp
 | p :: P, w :: vs, i + 1, m, nd, h1, h2, hk => by
  show bindC kindOf ((p, w) :: P.zip vs) m x = _
  unfold bindC
  exact bindC_get (i := i) (List.nodup_cons.mp nd).2 (by simpa using h1) (by simpa using h2) hk
def start (N : List Str) (vs : List V) : St := vs.map some ++ List.replicate (N.length - vs.length) none
def cxOf (CX : CXT) (P : Program) (w : World) (K : PySem.W.Frag) (mg : Str → Option Value) (base : Heap) (N : List Str) (qual : Str) (scope : Scope) (f : Addr) (cd : Value) (A : Around) (outer : List Env) (s : Shared) (H : Hp) (E : XK) : Cx where
 prog := P
 w := w
 K := K
 mg := mg
 base := base
 A := A.deeper (envOfC qual scope s.heap.objs.size f cd)
 N := N
 s₀ := s
 H₀ := H
 env := envOfC qual scope s.heap.objs.size f cd
 outer := outer
 stack := envOfC qual scope s.heap.objs.size f cd :: outer
 ex := []
 calm := true
 fn := fun _ => true
 pn := []
 xe := fun e s' => wpAny (model P w) (A.deeper (envOfC qual scope s.heap.objs.size f cd)) (leaving (envOfC qual scope s.heap.objs.size f cd) e) (fun _ s'' => CX outer H s E e s'') (fun e' s'' => CX outer H s E e' s'') s'
theorem cell_has {sc : Scope} {n : Nat} {x : Str} (h : sc.names.lookup x = some .cell) : ∃ c, (cellsFrom n sc.names []).lookup x = some c := by
 have q := PySem.W.cellsFrom_some sc.names n [] (.inl h)
 exact Option.isSome_iff_exists.mp q
theorem inv_start {CX : CXT} {P : Program} {w : World} {K : PySem.W.Frag} {mg : Str → Option Value} {base : Heap} {N ps : List Str} {qual : Str} {scope : Scope} {f : Addr} {cd : Value} {A : Around} {outer : List Env} {s s1 : Shared} {H : Hp} {E : XK} {us : List Value} {vs : List V}
  (S : FnScope N ps scope) (hd : A.handled = none) (e0 : Env0 P w K mg base A outer s H) (hl : vs.length = ps.length) (r : Vals vs us)
  (x : InCallC s s.heap.objs.size (bindL (envOfC qual scope s.heap.objs.size f cd).kindOf (ps.zip us) fun _ => none) (cellsFrom (s.heap.objs.size + 1) scope.names []) (bindC (envOfC qual scope s.heap.objs.size f cd).kindOf (ps.zip us) fun _ => none) s1) :
  Inv (cxOf CX P w K mg base N qual scope f cd A outer s H E) [] (start N vs) H s1 := by
 have hpl : ps.length ≤ N.length := by have := congrArg List.length S.pre; rw [List.length_take] at this; omega
 obtain ⟨h1, tk, rfl, hk⟩ := x.done
 have noA : ∀ b : Addr, b ∉ (cxOf CX P w K mg base N qual scope f cd A outer s H E).ex := fun b z => absurd (show b ∈ ([] : List Addr) from z) (by simp)
 refine ⟨⟨e0.mod, S.kind, rfl, rfl, Nat.le_refl _, fun y z c h1 h2 => ?_, fun y hy => ?_, fun y c _ h => ?_, fun _ => hd, Around.frames_deeper e0.frames, .inr ⟨rfl, rfl⟩, fun b z => absurd z (noA b), e0.bs, e0.bsz, fun b _ _ => noA b, fun b z => absurd z (noA b), e0.funs, e0.frf⟩,
  rfl, e0.bare, Un.kept hk, ⟨_, x.toInCall.ns, fun i y v h1 h2 h3 => ?_⟩, fun y c h => ⟨_, x.cell y c h⟩, e0.hok.fresh (Nat.le_refl _), fun y c h => ?_, fun p hp => absurd (show p ∈ ([] : List (Addr × Obj)) from hp) (by simp), e0.hok.kept hk, ?_⟩
 ·exact name_of_addr x.apart (PySem.mem_of_lookup h1) (PySem.mem_of_lookup h2)
 ·have hy : scope.names.lookup y = some .cell ∨ scope.names.lookup y = some .free := hy
  rcases hy with hy | hy
  ·exact cell_has hy
  ·exact absurd rfl (S.nofree _ (PySem.mem_of_lookup hy))
 ·exact Nat.le_of_lt (x.above y c (PySem.mem_of_lookup h))
 ·have hi : i < vs.length := by
   unfold start at h2
   by_cases hi : i < vs.length
   ·exact hi
   ·rw [List.getElem?_append_right (by simpa using hi)] at h2
    rw [List.getElem?_replicate] at h2
    split at h2 <;> cases h2
  have ha : vs[i]? = some v := by
   unfold start at h2
   rw [List.getElem?_append_left (by simpa using hi), List.getElem?_map] at h2
   cases e : vs[i]? with
   | none => rw [e] at h2; cases h2
   | some a => rw [e] at h2; cases h2; rfl
  obtain ⟨u, hu, rv⟩ := r.get ha
  have hp : ps[i]? = some y := by
   rw [← S.pre, List.getElem?_take_of_lt (by omega)]; exact h1
  have ndP : ps.Nodup := by rw [← S.pre]; exact S.nd.sublist (List.take_sublist _ _)
  refine ⟨u, rv, ?_⟩
  rcases S.par y (List.mem_of_getElem? hp) with k | k
  ·exact .inl ⟨k, bindL_get ndP hp hu k⟩
  ·obtain ⟨c, e⟩ := cell_has (n := s.heap.objs.size + 1) k
   refine .inr ⟨.inl k, c, e, ?_⟩
   have q := x.cell y c e
   rw [bindC_get ndP hp hu (by show scope.names.lookup y ≠ _; rw [k]; decide)] at q
   exact q
 ·exact e0.hok.fresh (Nat.le_of_lt (x.above y c (PySem.mem_of_lookup h)))
 ·unfold start
  show _ = N.length
  rw [List.length_append, List.length_map, List.length_replicate]
  omega
theorem fn_of {CX : CXT} {P : Program} {w : World} {K : PySem.W.Frag} {mg : Str → Option Value} {base : Heap} {k : Nat} {f : Addr} {name qual : Str} {params : Arguments} {body : List Stmt} {scope : Scope} {dV kV doc pm cdv ct oc : Value} {an od : Option Addr}
  {osl : Array (Option Value)} {N ps : List Str} {sp : Sp} (lk : K.lookup f = some ⟨oc, od, .func (PySem.W.fnOf name qual params body scope dV kV doc pm an cdv ct), osl⟩) (hcd : PySem.W.codeIn K cdv qual = true) (S : FnScope N ps scope)
  (len : ∀ vs H Q E, sp vs H Q E → vs.length = ps.length)
  (hbody : ∀ (A : Around) (outer : List Env) (s : Shared) (H : Hp) (vs : List V) (Q : VK) (E : XK), Room k (A.deeper (envOfC qual scope s.heap.objs.size f cdv)) → sp vs H Q E →
   ∃ t, PSs (cxOf CX P w K mg base N qual scope f cdv A outer s H E) body t ∧ t { nx := fun _ H' => Q .non H', rt := Q } (start N vs) H) :
  FnOk P w K mg base CX (k + 1) f (PySem.W.fnOf name qual params body scope dV kV doc pm an cdv ct) ps sp := by
 refine ⟨len, fun A outer s H args us vs Q E hr e0 hb r hsp => ?_⟩
 have hl := len _ _ _ _ hsp
 have KX : K.In s.heap := e0.mod.kin.keeps fun b o e => (e0.bs b o e).1
 have lim : s.heap.NoLimit := e0.mod.nolimit.keeps fun b o e => (e0.bs b o e).1
 have hkind : ∀ y ∈ ps.zip us, scope.names.lookup y.1 = some .local ∨ (scope.names.lookup y.1 = some .cell ∧ ((cellsFrom (s.heap.objs.size + 1) scope.names []).lookup y.1).isSome = true) := fun ⟨n, v⟩ hy => by
  rcases S.par n (List.of_mem_zip hy).1 with q | q
  ·exact .inl q
  ·exact .inr ⟨q, PySem.W.cellsFrom_some _ _ _ (.inl q)⟩
 refine codeAny_call_function hr.depth (KX _ _ lk) rfl S.co S.gen rfl (PySem.W.codeRec_of KX hcd) (hb _ _ _ _ ?_)
 refine wpAny_newFunctionEnv_cells S.kind hkind fun env he s1 x => ?_
 subst he
 refine ⟨lim.keeps x.toInCall.keep, codeAny_func ?_⟩
 obtain ⟨t, ht, hq⟩ := hbody A outer s H vs Q E (hr.deeper _) hsp
 have I : Inv (cxOf CX P w K mg base N qual scope f cdv A outer s H E) [] (start N vs) H s1 := inv_start S hr.hd e0 hl r x
 refine wpAny_mono (ht [] s1 (start N vs) H _ I hq) (fun fl s' hs => ?_) fun e s' hs => hs
 have fin : ∀ {σ' : St} {H' : Hp} {v : V} {u : Value}, Inv (cxOf CX P w K mg base N qual scope f cdv A outer s H E) [] σ' H' s' → RelV v u → Q v H' → CE outer P w H s Q u s' :=
  fun {σ' H' v u} J rv q => ⟨v, H', J.os, J.bare, J.base, J.hok, rv, q⟩
 cases fl with
 | ret u =>
  obtain ⟨v, σ', H', J, rv, q⟩ := hs
  exact fin J rv q
 | next =>
  obtain ⟨σ', H', J, q⟩ := hs
  exact fin (v := V.non) (u := Value.none) J rfl q
 | brk =>
  obtain ⟨_, _, _, q⟩ := hs
  exact False.elim q
 | cont =>
  obtain ⟨_, _, _, q⟩ := hs
  exact False.elim q
section
variable {X : Cx} {x : Str} {p pos : Pos} {e : Expr} {es : List Expr} {t : TA} {id T : String} {r : List V → Hp → VK → Prop}
def tCB (r : List V → Hp → VK → Prop) (t : TA) : TE := fun σ H Q => t σ H fun vs H1 => r vs H1 Q
theorem pe_callB (hc : CallR X (.builtin id) r) (hg : Gl X x) (hm : X.mg x = none) (hv : bootBuiltins x = some (.builtin id)) (ha : PA X (e :: es) t) (hn : x ≠ "__name__" := by decide) (hdb : (x == ("__debug__" : Str)) = false := by decide)
  (he : starEach (e :: es) X.env = (false, eval e X.env) :: starEach es X.env := by rfl) (hpl : (backTo pos (starEach es X.env)).any (·.1) = false := by rfl) : PE X (.Call (.Name x p) (e :: es) [] pos) (tCB r t) := by
 intro pins s σ H Q I h
 refine wpAny_Call_Name_kw (ld_blt I hg hm hv ?_ hn hdb)
 exact PyProof.Rows.callWith_builtin1 (thn (ha pos pins s σ H _ I h) fun us s1 ⟨vs, H1, I1, r1, q1⟩ => hc pins s1 σ H1 vs us Q I1 r1 q1) he hpl
theorem pe_callTy (hc : CallR X (.type T) r) (hg : Gl X x) (hm : X.mg x = none) (hv : bootBuiltins x = some (.type T)) (ha : PA X (e :: es) t) (hn : x ≠ "__name__" := by decide) (hdb : (x == ("__debug__" : Str)) = false := by decide)
  (he : starEach (e :: es) X.env = (false, eval e X.env) :: starEach es X.env := by rfl) (hpl : (backTo pos (starEach es X.env)).any (·.1) = false := by rfl) : PE X (.Call (.Name x p) (e :: es) [] pos) (tCB r t) := by
 intro pins s σ H Q I h
 refine wpAny_Call_Name_kw (ld_blt I hg hm hv ?_ hn hdb)
 exact PyProof.Rows.callWith_type1 (thn (ha pos pins s σ H _ I h) fun us s1 ⟨vs, H1, I1, r1, q1⟩ => hc pins s1 σ H1 vs us Q I1 r1 q1) he hpl
end
end L2
namespace HT
open PySem PyProof.Rows
section
open PySem.SeqAt
open PySem.AutoSeq1 (wpAny_loadPart')
open PySem.MeetsSeq PySem.MeetsSeq2 PySem.MeetsSeq3
end
section
variable {prog : Program} {w : World} {A : Around} {E : Value → Shared → Prop} {s : Shared}
def sIx (n d : Nat) : Option Int → Nat
 | none => d
 | some v => if v < 0 then (v + (n : Int)).toNat else min v.toNat n
theorem sIx_nat (n d k : Nat) : sIx n d (some (k : Int)) = min k n := by
 show (if (k : Int) < 0 then ((k : Int) + (n : Int)).toNat else min (k : Int).toNat n) = min k n
 rw [if_neg (by omega), Int.toNat_natCast]
end
end HT
namespace L2
open PySem PySem.Spec PyProof.Rows
abbrev TO := St → Hp → (Option Int → Hp → Prop) → Prop
def PO (X : Cx) (e : Option Expr) (t : TO) : Prop :=
 ∀ (pins : List (Addr × Obj)) (s : Shared) (σ : St) (H : Hp) (Q : Option Int → Hp → Prop), Inv X pins σ H s → t σ H Q →
  wpAny (model X.prog X.w) X.A (evalPart e X.env) (fun u s' => ∃ o H', Inv X pins σ H' s' ∧ IsPart u o ∧ Q o H') X.xe s
def tNoPart : TO := fun _ H Q => Q none H
def tPart (t : TE) : TO := fun σ H Q => t σ H fun x H1 => ∃ i, x = .int i ∧ Q (some i) H1
theorem intsAre_of {ns : List Int} : ∀ {us : List Value}, Vals (ns.map V.int) us → IntsAre us ns := by
 induction ns with
 | nil => intro us r; rw [List.map_nil] at r; cases r; exact .nil
 | cons n ns ih =>
  intro us r
  rw [List.map_cons] at r
  cases r with
  | cons r1 r2 =>
   obtain ⟨t, e⟩ := r1
   subst e
   exact .cons n t (ih r2)
section
variable {X : Cx} {e : Expr} {te : TE} {lo hi : Option Expr} {tl th : TO} {pos p2 : Pos}
theorem po_none : PO X none tNoPart := by
 intro pins s σ H Q I h
 rw [evalPart_none]
 exact wpAny_pure ⟨none, H, I, .none, h⟩
theorem po_some (h : PE X e te) : PO X (some e) (tPart te) := by
 intro pins s σ H Q I hw
 rw [evalPart_some]
 refine thn (h pins s σ H _ I hw) fun u s1 ⟨x, H1, I1, r1, q1⟩ => ?_
 obtain ⟨i, rfl, q⟩ := q1
 obtain ⟨t, rfl⟩ := r1
 exact ⟨some i, H1, I1, .int i t, q⟩
def SlR (X : Cx) (r : V → Option Int → Option Int → Hp → VK → Prop) : Prop :=
 ∀ (pins : List (Addr × Obj)) (s : Shared) (σ : St) (H : Hp) (x : V) (v vl vu : Value) (lo hi : Option Int) (sl : Addr) (Q : VK), Inv X pins σ H s → RelV x v → s.heap.IsSliceOf sl vl vu .none → IsPart vl lo → IsPart vu hi → r x lo hi H Q →
  ∃ T id, typeLookup (.type T) "__getitem__" = pure (some (.builtin id)) ∧ s.TypeIs v T ∧ wpAny (model X.prog X.w) X.A (getItem v (.ref sl)) (EP X pins σ Q) X.xe s
def tSl (r : V → Option Int → Option Int → Hp → VK → Prop) (te : TE) (tl th : TO) : TE := fun σ H Q => te σ H fun x H1 => tl σ H1 fun l H2 => th σ H2 fun u H3 => r x l u H3 Q
theorem pe_slice {r : V → Option Int → Option Int → Hp → VK → Prop} (hr : SlR X r) (he : PE X e te) (hl : PO X lo tl) (hu : PO X hi th) : PE X (.Subscript e (.Slice lo hi none p2) pos) (tSl r te tl th) := by
 intro pins s σ H Q I h
 refine Subscript_ (thn (he pins s σ H _ I h) fun v s1 ⟨x, H1, I1, r1, q1⟩ => ?_)
 refine wpAny_Slice (thn (hl pins s1 σ H1 _ I1 q1) fun vl s2 ⟨l, H2, I2, pl, q2⟩ => thn (hu pins s2 σ H2 _ I2 q2) fun vu s3 ⟨u, H3, I3, pu, q3⟩ => ?_)
 rw [evalPart_none]
 refine wpAny_pure ?_
 have I4 : Inv X pins σ H3 { s3 with heap := s3.heap.push { cls := .type "slice", data := .fields #[vl, vu, .none] } } := I3.kept (t' := s3.toks) fun b ob q => Heap.get?_push_of_some _ q
 obtain ⟨T, id, hT, ht, hg⟩ := hr pins { s3 with heap := s3.heap.push { cls := .type "slice", data := .fields #[vl, vu, .none] } } σ H3 x v vl vu l u s3.heap.objs.size Q I4 r1 (Heap.IsSliceOf.new ..) pl pu q3
 show wpAny (model X.prog X.w) X.A (subscriptTail e (.Slice lo hi none p2) v (.ref s3.heap.objs.size)) (EP X pins σ Q) X.xe { s3 with heap := s3.heap.push { cls := .type "slice", data := .fields #[vl, vu, .none] } }
 exact tail_any (ops := [.ref s3.heap.objs.size, v]) ht hT hg (by with_unfolding_all rfl)
def cutV (xs : List V) (lo hi : Option Int) : List V := (xs.drop (HT.sIx xs.length 0 lo)).take (HT.sIx xs.length xs.length hi - HT.sIx xs.length 0 lo)
theorem cutV_length (xs : List V) (lo hi : Option Int) : (cutV xs lo hi).length ≤ xs.length := by
 unfold cutV
 rw [List.length_take, List.length_drop]
 omega
end
def ixN (n : Nat) (i : Int) : Option Nat := if 0 ≤ i then (if i < n then some i.toNat else none) else if -(n : Int) ≤ i then some (i + n).toNat else none
def atI {α : Type} (xs : List α) (i : Int) : Option α := (ixN xs.length i).bind fun j => xs[j]?
theorem ixN_seq {n : Nat} {i : Int} {j : Nat} (h : ixN n i = some j) : seqIndex? i n = some j ∧ j < n ∧ -(n : Int) ≤ i ∧ i < n := by
 unfold ixN at h
 by_cases h0 : 0 ≤ i
 ·rw [if_pos h0] at h
  by_cases h1 : i < n
  ·rw [if_pos h1] at h
   have e : i.toNat = j := Option.some.inj h
   exact ⟨by rw [seqIndex_of h0 h1, e], by omega, by omega, h1⟩
  ·rw [if_neg h1] at h; cases h
 ·rw [if_neg h0] at h
  by_cases h1 : -(n : Int) ≤ i
  ·rw [if_pos h1] at h
   have e : (i + n).toNat = j := Option.some.inj h
   exact ⟨by rw [seqIndex_neg (by omega) h1, e], by omega, h1, by omega⟩
  ·rw [if_neg h1] at h; cases h
theorem atI_get {α : Type} {xs : List α} {i : Int} {v : α} (h : atI xs i = some v) : ∃ j, seqIndex? i xs.length = some j ∧ xs[j]? = some v ∧ j < xs.length ∧ -(xs.length : Int) ≤ i ∧ i < xs.length := by
 unfold atI at h
 cases e : ixN xs.length i with
 | none => rw [e] at h; cases h
 | some j =>
  rw [e] at h
  obtain ⟨h1, h2, h3, h4⟩ := ixN_seq e
  exact ⟨j, h1, h, h2, h3, h4⟩
theorem atI_nat {α : Type} {xs : List α} {j : Nat} {v : α} (h : xs[j]? = some v) : atI xs (j : Int) = some v := by
 have hj : j < xs.length := (List.getElem?_eq_some_iff.mp h).1
 have e : ixN xs.length (j : Int) = some j := by
  unfold ixN
  rw [if_pos (by omega), if_pos (by omega)]; simp
 unfold atI; rw [e]; exact h
def PlainIx (b : Expr) : Prop := ∀ o i, subscripted b false o i = operate [o, i] (getItem o i)
def IxR (X : Cx) (r : R2) : Prop :=
 ∀ (value slice : Expr) (pins : List (Addr × Obj)) (s : Shared) (σ : St) (H : Hp) (x y : V) (v u : Value) (Q : VK), Inv X pins σ H s → RelV x v → RelV y u → r x y H Q →
  subscripted slice false v u = operate [v, u] (getItem v u) → wpAny (model X.prog X.w) X.A (subscriptTail value slice v u) (EP X pins σ Q) X.xe s
def MtR (X : Cx) (id : String) (r : V → List V → Hp → VK → Prop) : Prop :=
 ∀ (pins : List (Addr × Obj)) (s : Shared) (σ : St) (H : Hp) (x : V) (xs : List V) (v : Value) (us : List Value) (Q : VK), Inv X pins σ H s → RelV x v → Vals xs us → r x xs H Q →
  wpAny (model X.prog X.w) X.A (call (.builtin id) (v :: us)) (EP X pins σ Q) X.xe s
section
variable {X : Cx} {a b : Expr} {ta tb : TE} {pos : Pos}
theorem IxR.or {r r' : R2} (h : IxR X r) (h' : IxR X r') : IxR X (fun x y H Q => r x y H Q ∨ r' x y H Q) := by
 intro value slice pins s σ H x y v u Q I rx ry q hs
 rcases q with q | q
 ·exact h value slice pins s σ H x y v u Q I rx ry q hs
 ·exact h' value slice pins s σ H x y v u Q I rx ry q hs
theorem pe_ix {r : R2} (hr : IxR X r) (ha : PE X a ta) (hb : PE X b tb) (hs : PlainIx b) : PE X (.Subscript a b pos) (tOp r ta tb) := by
 intro pins s σ H Q I h
 exact Subscript_ (binT ha hb I h fun v u s2 x y H2 I2 rx ry q => hr a b pins s2 σ H2 x y v u Q I2 rx ry q (hs _ _))
def rIxL (K : PySem.W.Frag) : R2 := fun x y H Q => ∃ p xs i v, x = .ref p ∧ y = .int i ∧ SqL K H p xs ∧ atI xs i = some v ∧ Q v H
def rIxT (K : PySem.W.Frag) : R2 := fun x y H Q => ∃ p xs i v, x = .ref p ∧ y = .int i ∧ SqT K H p xs ∧ atI xs i = some v ∧ Q v H
def rIxS : R2 := fun x y H Q => ∃ z i c, x = .str z ∧ y = .int i ∧ z.length ≤ sizeLine ∧ atI z.cps.toList i = some c ∧ Q (.str ⟨#[c]⟩) H
theorem ix_list : IxR X (rIxL X.K) := by
 intro value slice pins s σ H x y v u Q I rx ry h hs
 obtain ⟨p, xs, i, z, rfl, rfl, hq, he, q⟩ := h
 cases rx
 obtain ⟨t, rfl⟩ := ry
 obtain ⟨its, r, pl, hz⟩ := I.list hq
 obtain ⟨j, h1, h2, h3, h4, h5⟩ := atI_get he
 obtain ⟨w, ew, rw'⟩ := r.get h2
 have hl := r.length
 have hn := line63
 have fin : EP X pins σ Q w s := ⟨z, H, I, rw', q⟩
 by_cases h0 : 0 ≤ i
 ·have hj : i.toNat = j := by
   rw [seqIndex_of h0 h5] at h1
   exact Option.some.inj h1
  exact item_listR pl.isList h0 (by omega) (by rw [hj]; simpa using ew) fin hs
 ·have hj : (i + (its.toArray.size : Int)).toNat = j := by
   rw [seqIndex_neg (by omega) h4] at h1
   rw [List.size_toArray, ← hl]
   exact Option.some.inj h1
  exact subscriptTail_builtinR (x := w) pl.isList.typeIs slot_list_getitem.lookup
   (wpAny_getItem_list_neg (Q := fun r s' => r = w ∧ EP X pins σ Q r s') pl.isList (by omega) (by rw [List.size_toArray] <;> omega) (by omega) (by rw [hj]; simpa using ew) ⟨rfl, fin⟩) hs
theorem ix_tup : IxR X (rIxT X.K) := by
 intro value slice pins s σ H x y v u Q I rx ry h hs
 obtain ⟨p, xs, i, z, rfl, rfl, hq, he, q⟩ := h
 cases rx
 obtain ⟨t, rfl⟩ := ry
 obtain ⟨its, r, pl, hz⟩ := I.tuple hq
 obtain ⟨j, h1, h2, h3, h4, h5⟩ := atI_get he
 obtain ⟨w, ew, rw'⟩ := r.get h2
 have hl := r.length
 have hn := line63
 have fin : EP X pins σ Q w s := ⟨z, H, I, rw', q⟩
 exact subscriptTail_builtinR (x := w) pl.typeIs slot_tuple_getitem.lookup
  (getItem_tuple (j := j) (Q := fun r s' => r = w ∧ EP X pins σ Q r s') pl (by omega) (by omega) (by rw [List.size_toArray, ← hl]; exact h1) (by simpa using ew) ⟨rfl, fin⟩) hs
theorem ix_str : IxR X rIxS := by
 intro value slice pins s σ H x y v u Q I rx ry h hs
 obtain ⟨z, i, c, rfl, rfl, hz, he, q⟩ := h
 obtain ⟨t, rfl⟩ := rx
 obtain ⟨t', rfl⟩ := ry
 obtain ⟨j, h1, h2, h3, h4, h5⟩ := atI_get he
 have hl : z.cps.toList.length = z.length := by simp [Str.length]
 rw [hl] at h1 h4 h5
 have hn := line63
 exact tail_any (typeIs_str s z t) slot_str_getitem.lookup (getItem_str (c := c) (by
  have e1 : decide (i < -(2 ^ 63 : Int)) = false := decide_eq_false (by omega)
  have e2 : decide (i ≥ 2 ^ 63) = false := decide_eq_false (by omega)
  rw [e1, e2, Bool.or_false]) (by rw [h1]; simpa using h2) ⟨.str ⟨#[c]⟩, H, I.tok _, ⟨_, rfl⟩, q⟩) hs
def rIx (K : PySem.W.Frag) : R2 := fun x y H Q => rIxL K x y H Q ∨ rIxT K x y H Q ∨ rIxS x y H Q
theorem ix_seq : IxR X (rIx X.K) := ix_list.or (ix_tup.or ix_str)
theorem Inv.lst {pins : List (Addr × Obj)} {σ : St} {H : Hp} {s : Shared} {p : Addr} {xs : List V} (I : Inv X pins σ H s) (h : H p = some (.lst xs)) :
  ∃ (its : List Value) (n : Nat), Vals xs its ∧ s.heap.get? p = some { cls := .type "list", data := .seq its.toArray n } ∧ xs.length ≤ sizeLine := by
 obtain ⟨z, its, n, r, e⟩ := I.hok p _ h
 exact ⟨its, n, r, e, z⟩
theorem slice_bounds (lo hi : Option Int) (n : Nat) : (sliceBounds lo hi none n).1 = ((HT.sIx n 0 lo : Nat) : Int) ∧ (sliceBounds lo hi none n).2.1 = ((HT.sIx n n hi : Nat) : Int) ∧ (sliceBounds lo hi none n).2.2 = 1 := by
 refine ⟨?_, ?_, rfl⟩
 ·cases lo with
  | none => simp [sliceBounds, HT.sIx]
  | some i =>
   simp only [sliceBounds, HT.sIx, Option.getD_none, show (1 : Int) > 0 by decide, if_true]
   by_cases h : i < 0
   ·simp only [h, if_true] <;> omega
   ·simp only [h, if_false] <;> omega
 ·cases hi with
  | none => simp [sliceBounds, HT.sIx]
  | some i =>
   simp only [sliceBounds, HT.sIx, Option.getD_none, show (1 : Int) > 0 by decide, if_true]
   by_cases h : i < 0
   ·simp only [h, if_true] <;> omega
   ·simp only [h, if_false] <;> omega
theorem slicePick_cut (its : List Value) (lo hi : Option Int) : slicePick its.toArray lo hi none = ((its.drop (HT.sIx its.length 0 lo)).take (HT.sIx its.length its.length hi - HT.sIx its.length 0 lo)).toArray := by
 obtain ⟨h1, h2, h3⟩ := slice_bounds lo hi its.toArray.size
 unfold slicePick
 rw [h1, h2, h3]
 simp only [sliceRange_one, pick_run, List.size_toArray] <;> rfl
def rSlL (K : PySem.W.Frag) : V → Option Int → Option Int → Hp → VK → Prop := fun x lo hi H Q => ∃ a xs, x = .ref a ∧ SqL K H a xs ∧ ∀ p, H p = none → Q (.ref p) (upd H p (.lst (cutV xs lo hi)))
theorem sl_list : SlR X (rSlL X.K) := by
 intro pins s σ H x v vl vu lo hi sl Q I rx hs pl pu h
 obtain ⟨a, xs, rfl, hx, q⟩ := h
 cases rx
 obtain ⟨its, r, ht, hz⟩ := I.list hx
 have hlen := r.length
 refine ⟨"list", _, slot_list_getitem.lookup, ht.isList.typeIs, ?_⟩
 refine wpAny_getItem_list_slice ht.isList hs pl pu .none (by simp) ?_ (by rw [List.size_toArray] <;> omega)
 rw [slicePick_cut, ← hlen]
 refine ⟨.ref s.heap.objs.size, _, I.laid (t' := s.toks) (o := .lst (cutV xs lo hi)) (fun b ob q => Heap.get?_push_of_some _ q) (Nat.le_refl _) ?_, rfl, q _ (I.hok.fresh (Nat.le_refl _))⟩
 exact ⟨Nat.le_trans (cutV_length xs lo hi) hz, _, 0, (r.drop (HT.sIx xs.length 0 lo)).take (HT.sIx xs.length xs.length hi - HT.sIx xs.length 0 lo), Heap.get?_push_size _ rfl⟩
def flatV : V → Bool
 | .non => true
 | .bl _ => true
 | .int _ => true
 | .str _ => true
 | _ => false
def eqV : V → V → Bool
 | .non, .non => true
 | .bl a, .bl b => a == b
 | .bl a, .int b => (if a then 1 else 0) == b
 | .int a, .bl b => a == (if b then 1 else 0)
 | .int a, .int b => a == b
 | .str a, .str b => a == b
 | _, _ => false
theorem eqAt_V {A : Around} {s : Shared} {y x : V} {u v : Value} (ry : RelV y u) (rx : RelV x v) (fy : flatV y = true) (fx : flatV x = true) : SeqAt.EqAt A s u v (eqV y x) := by
 cases y with
 | non =>
  cases ry
  cases x with
  | non => cases rx; exact SeqAt.EqAt.same _
  | bl b => cases rx; exact SeqAt.EqAt.none_bool b
  | int b => obtain ⟨t, rfl⟩ := rx; exact SeqAt.EqAt.none_int b t
  | str b => obtain ⟨t, rfl⟩ := rx; exact SeqAt.EqAt.none_str b t
  | _ => exact absurd (show false = true from fx) Bool.false_ne_true
 | bl a =>
  cases ry
  cases x with
  | non => cases rx; exact SeqAt.EqAt.bool_none a
  | bl b => cases rx; exact SeqAt.EqAt.bool_bool a b
  | int b => obtain ⟨t, rfl⟩ := rx; exact SeqAt.EqAt.bool_int a b t
  | str b => obtain ⟨t, rfl⟩ := rx; exact SeqAt.EqAt.bool_str a b t
  | _ => exact absurd (show false = true from fx) Bool.false_ne_true
 | int a =>
  obtain ⟨t', rfl⟩ := ry
  cases x with
  | non => cases rx; exact SeqAt.EqAt.int_none a t'
  | bl b => cases rx; exact SeqAt.EqAt.int_bool a t' b
  | int b => obtain ⟨t, rfl⟩ := rx; exact SeqAt.EqAt.int_int a t' b t
  | str b => obtain ⟨t, rfl⟩ := rx; exact SeqAt.EqAt.int_str a t' b t
  | _ => exact absurd (show false = true from fx) Bool.false_ne_true
 | str a =>
  obtain ⟨t', rfl⟩ := ry
  cases x with
  | non => cases rx; exact SeqAt.EqAt.str_none a t'
  | bl b => cases rx; exact SeqAt.EqAt.str_bool a t' b
  | int b => obtain ⟨t, rfl⟩ := rx; exact SeqAt.EqAt.str_int a t' b t
  | str b => obtain ⟨t, rfl⟩ := rx; exact SeqAt.EqAt.str_str a t' b t
  | _ => exact absurd (show false = true from fx) Bool.false_ne_true
 | _ => exact absurd (show false = true from fy) Bool.false_ne_true
def eqU (x : V) (u : Value) : Bool := match u with
 | .none => eqV .non x
 | .bool b => eqV (.bl b) x
 | .int i _ => eqV (.int i) x
 | .str z _ => eqV (.str z) x
 | _ => false
theorem eqU_of {x y : V} {u : Value} (r : RelV y u) (f : flatV y = true) : eqU x u = eqV y x := by
 cases y with
 | non => cases r; rfl
 | bl b => cases r; rfl
 | int i => obtain ⟨t, rfl⟩ := r; rfl
 | str z => obtain ⟨t, rfl⟩ := r; rfl
 | _ => exact absurd (show false = true from f) Bool.false_ne_true
theorem any_eqU {x : V} : ∀ {xs : List V} {us : List Value}, Vals xs us → xs.all flatV = true → us.any (eqU x) = xs.any fun y => eqV y x
 | _, _, .nil, _ => rfl
 | y :: xs, u :: us, .cons r t, f => by
  rw [List.all_cons, Bool.and_eq_true] at f
  rw [List.any_cons, List.any_cons, eqU_of r f.1, any_eqU t f.2]
theorem mem_eqAt {A : Around} {s : Shared} {x : V} {v : Value} (rx : RelV x v) (fx : flatV x = true) : ∀ {xs : List V} {us : List Value}, Vals xs us → xs.all flatV = true → ∀ u ∈ us, SeqAt.EqAt A s u v (eqU x u)
 | _, _, .nil, _ => fun u hu => by cases hu
 | y :: xs, u :: us, .cons r t, f => fun u' hu => by
  rw [List.all_cons, Bool.and_eq_true] at f
  rcases List.mem_cons.mp hu with rfl | hu
  ·rw [eqU_of r f.1]; exact eqAt_V r rx f.1 fx
  ·exact mem_eqAt rx fx t f.2 u' hu
def inV (x : V) (xs : List V) : Bool := xs.any fun y => eqV y x
def rIn (K : PySem.W.Frag) (neg : Bool) : R2 := fun x y H Q => ∃ p xs, y = .ref p ∧ (SqL K H p xs ∨ SqT K H p xs) ∧ flatV x = true ∧ xs.all flatV = true ∧ Q (.bl (if neg then !inV x xs else inV x xs)) H
theorem op_notIn_seq : OpR X (compareOp .NotIn) (rIn X.K true) := by
 intro pins s σ H x y v u Q I rx ry h
 obtain ⟨p, xs, rfl, hq, fx, fs, q⟩ := h
 cases ry
 rcases hq with hq | hq
 ·obtain ⟨its, r, pl, hz⟩ := I.list hq
  refine SeqAt.notIn_listAt (eqU x) pl.isList (fun w hw => mem_eqAt rx fx r fs w (by simpa using hw)) ⟨.bl _, H, I, rfl, ?_⟩
  rw [show its.toArray.any (eqU x) = its.any (eqU x) by simp, any_eqU r fs]
  exact q
 ·obtain ⟨its, r, pl, hz⟩ := I.tuple hq
  refine SeqAt.notIn_tupleAt (eqU x) pl (fun w hw => mem_eqAt rx fx r fs w (by simpa using hw)) ⟨.bl _, H, I, rfl, ?_⟩
  rw [show its.toArray.any (eqU x) = its.any (eqU x) by simp, any_eqU r fs]
  exact q
theorem op_notIn_str : OpR X (compareOp .NotIn) (fun x y H Q => ∃ i j, x = .str i ∧ y = .str j ∧ Q (.bl (!(!(Builtin.Str.occurrences j i 0 j.length 1).isEmpty))) H) := by
 intro pins s σ H x y v u Q I rx ry h
 obtain ⟨i, j, rfl, rfl, q⟩ := h
 obtain ⟨t, rfl⟩ := rx
 obtain ⟨t', rfl⟩ := ry
 exact notIn_str ⟨.bl _, H, I, rfl, q⟩
theorem call_len_seq : CallR X (.builtin "len") (fun xs H Q => ∃ p ys, xs = [.ref p] ∧ (SqL X.K H p ys ∨ SqT X.K H p ys) ∧ Q (.int ys.length) H) := by
 intro pins s σ H xs us Q I r h
 obtain ⟨p, ys, rfl, hq, q⟩ := h
 obtain ⟨u, rfl, rx⟩ := vals1 r
 cases rx
 have hn := line63
 rcases hq with hq | hq
 ·obtain ⟨its, r', pl, hz⟩ := I.list hq
  have hlen := r'.length
  exact Calls.call_len_list pl.isList (by simp only [List.size_toArray] <;> omega) ⟨.int ys.length, H, I.tok _, ⟨s.toks + 1, by rw [List.size_toArray, hlen]⟩, q⟩
 ·obtain ⟨its, r', pl, hz⟩ := I.tuple hq
  have hlen := r'.length
  exact len_tuple pl (by simp only [List.size_toArray] <;> omega) ⟨.int ys.length, H, I.tok _, ⟨s.toks + 1, by rw [List.size_toArray, hlen]⟩, q⟩
theorem call_len_str : CallR X (.builtin "len") (fun xs H Q => ∃ z, xs = [.str z] ∧ z.length ≤ sizeLine ∧ Q (.int z.length) H) := by
 intro pins s σ H xs us Q I r h
 obtain ⟨z, rfl, hz, q⟩ := h
 obtain ⟨u, rfl, t, rfl⟩ := vals1 r
 have hn := line63
 exact len_str (by omega) ⟨.int z.length, H, I.tok _, ⟨_, rfl⟩, q⟩
theorem call_list_of : CallR X (.type "list") (fun xs H Q => ∃ p ys, xs = [.ref p] ∧ (SqL X.K H p ys ∨ SqT X.K H p ys) ∧ ∀ l, H l = none → Q (.ref l) (upd H l (.lst ys))) := by
 intro pins s σ H xs us Q I r h
 obtain ⟨p, ys, rfl, hq, q⟩ := h
 obtain ⟨u, rfl, rx⟩ := vals1 r
 cases rx
 have fin : ∀ (its : List Value), Vals ys its → ys.length ≤ sizeLine → ∀ (h' : Heap) (c' : Nat), (∀ b o', s.heap.get? b = some o' → h'.get? b = some o') →
   h'.get? s.heap.objs.size = some { cls := .type "list", dict := none, data := .seq its.toArray c', slots := #[] } → EP X pins σ Q (.ref s.heap.objs.size) { s with heap := h' } := fun its r' hz h' c' kp e =>
  ⟨.ref s.heap.objs.size, _, I.laid (t' := s.toks) kp (Nat.le_refl _) (show ObjOk X.prog X.w _ h' _ (.lst ys) from ⟨hz, its, c', r', e⟩), rfl, q _ (I.hok.fresh (Nat.le_refl _))⟩
 rcases hq with hq | hq
 ·obtain ⟨its, r', pl, hz⟩ := I.list hq
  have hlen := r'.length
  obtain ⟨o, ho, hc, n, hd⟩ := pl.isList
  exact call_list_seq p (.inl rfl) ho hc hd (fun h' c' kp e => fin its r' hz h' c' kp e) (by simp only [List.size_toArray] <;> omega)
 ·obtain ⟨its, r', pl, hz⟩ := I.tuple hq
  have hlen := r'.length
  obtain ⟨o, ho, hc, n, hd⟩ := pl
  exact call_list_seq p (.inr rfl) ho hc hd (fun h' c' kp e => fin its r' hz h' c' kp e) (by simp only [List.size_toArray] <;> omega)
theorem call_tuple_of : CallR X (.type "tuple") (fun xs H Q => ∃ p ys, xs = [.ref p] ∧ ((SqL X.K H p ys ∧ ∀ l, H l = none → Q (.ref l) (upd H l (.tup ys))) ∨ (SqT X.K H p ys ∧ Q (.ref p) H))) := by
 intro pins s σ H xs us Q I r h
 obtain ⟨p, ys, rfl, h⟩ := h
 obtain ⟨u, rfl, rx⟩ := vals1 r
 cases rx
 rcases h with ⟨hq, q⟩ | ⟨hq, q⟩
 ·obtain ⟨its, r', pl, hz⟩ := I.list hq
  have hlen := r'.length
  refine call_tuple_list pl.isList (fun h' kp => ?_) (by simp only [List.size_toArray] <;> omega)
  have I1 : Inv X pins σ H { s with heap := h' } := I.kept (t' := s.toks) kp
  have I2 : Inv X pins σ (upd H h'.objs.size (.tup ys)) { s with heap := h'.push { cls := .type "tuple", data := .seq its.toArray } } :=
   I1.laid (t' := s.toks) (fun b o e => Heap.get?_push_of_some _ e) (Nat.le_refl _) (show ObjOk X.prog X.w _ _ _ (.tup ys) from ⟨hz, its, r', IsTup.new _ _⟩)
  exact ⟨.ref h'.objs.size, _, I2, rfl, q _ (I1.hok.fresh (Nat.le_refl _))⟩
 ·obtain ⟨its, r', pl, hz⟩ := I.tuple hq
  exact call_tuple_same pl ⟨.ref p, H, I, rfl, q⟩
def tyV (K : PySem.W.Frag) (T : String) (x : V) (H : Hp) : Prop := match x with
 | .str _ => T = "str"
 | .int _ => T = "int"
 | .ref p => (T = "list" ∧ ∃ xs, SqL K H p xs) ∨ (T = "tuple" ∧ ∃ o, K.lookup p = some o ∧ o.cls = .type "tuple" ∧ o.dict = none) ∨
   (T = "dict" ∧ ((∃ kvs, H p = some (.dK kvs)) ∨ ∃ kvs, H p = some (.dT kvs))) ∨ (T = "set" ∧ ∃ S n, H p = some (.set S n))
 | _ => False
theorem tyV_is {pins : List (Addr × Obj)} {σ : St} {H : Hp} {s : Shared} {T : String} {x : V} {v : Value} (I : Inv X pins σ H s) (r : RelV x v) (ty : tyV X.K T x H) :
  s.TypeIs v T ∧ ∀ a, v = .ref a → ∃ ob, s.heap.get? a = some ob ∧ ob.dict = none := by
 cases x with
 | str z =>
  obtain ⟨t, rfl⟩ := r
  cases (show T = "str" from ty)
  exact ⟨typeIs_str s z t, fun _ e => nomatch e⟩
 | int i =>
  obtain ⟨t, rfl⟩ := r
  cases (show T = "int" from ty)
  exact ⟨typeIs_int s i t, fun _ e => nomatch e⟩
 | ref p =>
  cases r
  rcases ty with ⟨rfl, xs, hq⟩ | ⟨rfl, o, hk, hc, hd⟩ | ⟨rfl, hk⟩ | ⟨rfl, S, n, hk⟩
  ·obtain ⟨its, _, pl, _⟩ := I.list hq
   refine ⟨pl.isList.typeIs, fun a e => ?_⟩
   cases e
   obtain ⟨o, n, e, c, hd, _⟩ := pl
   exact ⟨o, e, hd⟩
  ·refine ⟨⟨o, I.kIn p o hk, hc⟩, fun a e => ?_⟩
   cases e
   exact ⟨o, I.kIn _ o hk, hd⟩
  ·have z : ∃ o, s.heap.get? p = some o ∧ o.ExactDict := by
    rcases hk with ⟨kvs, hk⟩ | ⟨kvs, hk⟩
    ·obtain ⟨_, _, _, _, o, _, _, e, ex, _⟩ := I.hok p _ hk
     exact ⟨o, e, ex⟩
    ·obtain ⟨_, _, _, _, o, _, _, e, ex, _⟩ := I.hok p _ hk
     exact ⟨o, e, ex⟩
   obtain ⟨o, e, ex⟩ := z
   refine ⟨⟨o, e, ex.1⟩, fun a e2 => ?_⟩
   cases e2
   exact ⟨o, e, ex.2.1⟩
  ·obtain ⟨o, _, _, _, e, ex, _⟩ := I.hok p _ hk
   refine ⟨⟨o, e, ex.1⟩, fun a e2 => ?_⟩
   cases e2
   exact ⟨o, e, ex.2.1⟩
 | _ => exact False.elim ty
def tBM0 (K : PySem.W.Frag) (T : String) (r : V → List V → Hp → VK → Prop) (to : TE) : TE := fun σ H Q => to σ H fun x H1 => tyV K T x H1 ∧ r x [] H1 Q
def tBM (K : PySem.W.Frag) (T : String) (r : V → List V → Hp → VK → Prop) (to : TE) (t : TA) : TE := fun σ H Q => to σ H fun x H1 => tyV K T x H1 ∧ t σ H1 fun xs H2 => r x xs H2 Q
variable {o e : Expr} {es : List Expr} {to : TE} {t : TA} {name : Str} {apos cpos : Pos} {T id : String} {r : V → List V → Hp → VK → Prop}
theorem pe_bm0 (pa : PlainAttrs T) (slot : Slot T name id) (hty : typeOf (.builtin id) = pure (.type "method_descriptor")) (hm : MtR X id r) (ho : PE X o to)
  (hbase : attributeBase o name X.env (eval o X.env) = eval o X.env := by rfl) (hline : (apos.endLine == cpos.line) = true := by rfl) : PE X (.Call (.Attribute o name apos) [] [] cpos) (tBM0 X.K T r to) := by
 intro pins s σ H Q I h
 refine wpAny_Call_method0_late hbase hline (thn (ho pins s σ H _ I h) fun v s1 ⟨x, H1, I1, r1, ty, q1⟩ => ?_)
 obtain ⟨h1, h2⟩ := tyV_is I1 r1 ty
 exact ⟨T, id, pa, slot, hty, h1, h2, Calls.callWith_builtin rfl (PySem.evalArgs_none (hm pins s1 σ H1 x [] v [] Q I1 r1 .nil q1))⟩
theorem pe_bm (pa : PlainAttrs T) (slot : Slot T name id) (hty : typeOf (.builtin id) = pure (.type "method_descriptor")) (hm : MtR X id r) (ho : PE X o to) (ha : PA X (e :: es) t)
  (hbase : attributeBase o name X.env (eval o X.env) = eval o X.env := by rfl)
  (hfew : ((backTo cpos (starEach (e :: es) X.env)).all (fun x => !x.1) && (backToKw cpos (keywordEach [] X.env)).all (fun x => x.1.isSome)
   && decide ((e :: es).length + ([] : List Keyword).length + (if ([] : List Keyword).isEmpty then 0 else 1) < 30)) = true := by rfl)
  (hline : (apos.endLine == cpos.line) = true := by rfl) (hs : starEach (e :: es) X.env = (false, eval e X.env) :: starEach es X.env := by rfl) (hplain : (backTo cpos (starEach es X.env)).any (·.1) = false := by rfl) :
  PE X (.Call (.Attribute o name apos) (e :: es) [] cpos) (tBM X.K T r to t) := by
 intro pins s σ H Q I h
 refine wpAny_Call_method_late hbase hfew hline rfl (thn (ho pins s σ H _ I h) fun v s1 ⟨x, H1, I1, r1, ty, q1⟩ => ?_)
 obtain ⟨h1, h2⟩ := tyV_is I1 r1 ty
 refine ⟨T, id, pa, slot, hty, h1, h2, ?_⟩
 have hA := ha cpos pins s1 σ H1 _ I1 q1
 rw [hs] at hA ⊢
 refine Calls.callWith_builtin (by show (false || (backTo cpos (starEach es X.env)).any (·.1)) = false; rw [hplain] <;> rfl) (Calls.evalArgs_plain ?_)
 exact thn hA fun us s2 ⟨vs, H2, I2, r2, q2⟩ => hm pins s2 σ H2 x vs v us Q I2 r1 r2 q2
/- xs.append(e), list.index on a module's tuple .. are MtR facts of 06m -/
end
def MtM (X : Cx) (id : String) (r : V → List V → Hp → VK → Prop) : Prop :=
 ∀ (pins : List (Addr × Obj)) (s : Shared) (σ : St) (H : Hp) (x : V) (xs : List V) (v : Value) (us : List Value) (Q : VK), Inv X pins σ H s → RelV x v → Vals xs us → r x xs H Q →
  wpAny (model X.prog X.w) X.A (call (.builtin id) (v :: us)) (EP X pins σ Q) X.xe s
theorem Vals.one : ∀ {x : V} {us : List Value}, Vals [x] us → ∃ u, us = [u] ∧ RelV x u
 | _, _, .cons r .nil => ⟨_, rfl, r⟩
theorem Vals.two : ∀ {x y : V} {us : List Value}, Vals [x, y] us → ∃ u v, us = [u, v] ∧ RelV x u ∧ RelV y v
 | _, _, _, .cons r (.cons q .nil) => ⟨_, _, rfl, r, q⟩
theorem Vals.zero : ∀ {us : List Value}, Vals [] us → us = []
 | _, .nil => rfl
theorem Vals.dropLast {xs : List V} {us : List Value} (h : Vals xs us) : Vals xs.dropLast us.dropLast := by
 induction h with
 | nil => exact .nil
 | cons r t ih =>
  cases t with
  | nil => exact .nil
  | cons q t' => exact .cons r ih
theorem Vals.eraseIdx : ∀ {xs : List V} {us : List Value} (i : Nat), Vals xs us → Vals (xs.eraseIdx i) (us.eraseIdx i)
 | _, _, _, .nil => .nil
 | _, _, 0, .cons _ t => t
 | _, _, i + 1, .cons r t => .cons r (Vals.eraseIdx i t)
theorem erase_last {α : Type} (l : List α) : l.eraseIdx (l.length - 1) = l.dropLast := by
 induction l with
 | nil => rfl
 | cons a r ih =>
  cases r with
  | nil => rfl
  | cons b r =>
   have e : (a :: b :: r).length - 1 = ((b :: r).length - 1) + 1 := by
    have h1 : (a :: b :: r).length = r.length + 2 := rfl
    have h2 : (b :: r).length = r.length + 1 := rfl
    omega
   rw [e, List.eraseIdx_cons_succ, ih]
   all_goals rfl
section
variable {X : Cx} {pins : List (Addr × Obj)} {σ : St} {H : Hp} {s : Shared} {l b : Addr} {xs ys zs : List V}
theorem Inv.lset {its its' : List Value} {n : Nat} {f : Array Value → Array Value} {t' : Nat} (I : Inv X pins σ H s) (hH : H l = some (.lst xs))
  (e : s.heap.get? l = some { cls := .type "list", data := .seq its.toArray n }) (hf : f its.toArray = its'.toArray) (hv : Vals ys its') (hz : ys.length ≤ sizeLine) :
  Inv X pins σ (upd H l (.lst ys)) { s with heap := s.heap.update l (Obj.mapSeq f), toks := t' } := by
 have q := PySem.IsL.update e f
 rw [hf] at q
 refine I.write (x := l) (e := l) (by rw [hH]; exact trivial) (.inl rfl) (fun b' u hb hu => (Heap.get?_update_other s.heap (Obj.mapSeq f) (Ne.symm hb)).trans hu) ⟨_, q⟩ ?_
 exact ⟨hz, its', _, hv, q⟩
theorem Inv.lnew {its : List Value} {t' : Nat} (I : Inv X pins σ H s) (hv : Vals ys its) (hz : ys.length ≤ sizeLine) :
  Inv X pins σ (upd H s.heap.objs.size (.lst ys)) { s with heap := s.heap.push { cls := .type "list", data := .seq its.toArray }, toks := t' } :=
 I.laid (fun _ _ q => Heap.get?_push_of_some _ q) (Nat.le_refl _) ⟨hz, its, 0, hv, Heap.get?_push_size _ rfl⟩
theorem Inv.fresh (I : Inv X pins σ H s) : H s.heap.objs.size = none := I.hok.fresh (Nat.le_refl _)
theorem Inv.lstM (I : Inv X pins σ H s) (hH : H l = some (.lst xs)) : xs.length ≤ sizeLine ∧ ∃ (its : List Value) (n : Nat), Vals xs its ∧ xs.length = its.length ∧ s.heap.get? l = some { cls := .type "list", data := .seq its.toArray n } := by
 obtain ⟨z, its, n, r, e⟩ := I.hok l _ hH
 exact ⟨z, its, n, r, r.length, e⟩
theorem notLongL {n : Nat} (h : n ≤ sizeLine) : Builtin.List.listTooLong n = false := by
 unfold Builtin.List.listTooLong
 exact decide_eq_false (by omega)
end
section
variable {X : Cx}
def rAppend : V → List V → Hp → VK → Prop := fun x vs H Q => ∃ l xs y, x = .ref l ∧ vs = [y] ∧ H l = some (.lst xs) ∧ xs.length < sizeLine ∧ Q .non (upd H l (.lst (xs ++ [y])))
theorem mt_append : MtM X "list.append" rAppend := by
 intro pins s σ H x vs v us Q I rx rv h
 obtain ⟨l, xs, y, rfl, rfl, hH, hz, q⟩ := h
 cases rx
 obtain ⟨u, rfl, ru⟩ := rv.one
 obtain ⟨z, its, n, r, hl, e⟩ := I.lstM hH
 refine call_meets F.slot_list_append ⟨_, e, rfl⟩ F.entry_list_append (F.args_list_append_2 _ _) (PySem.list_append l its.toArray n u (by rw [List.size_toArray]; omega)) ⟨e, ?_⟩
 refine ⟨.non, _, I.lset (its' := its ++ [u]) hH e (by simp) (r.append (.cons ru .nil)) ?_, rfl, q⟩
 rw [List.length_append, List.length_singleton]
 omega
def rExtend : V → List V → Hp → VK → Prop := fun x vs H Q => ∃ l b xs zs, x = .ref l ∧ vs = [.ref b] ∧ H l = some (.lst xs) ∧ H b = some (.lst zs) ∧ xs.length + zs.length ≤ sizeLine ∧ Q .non (upd H l (.lst (xs ++ zs)))
theorem mt_extend : MtM X "list.extend" rExtend := by
 intro pins s σ H x vs v us Q I rx rv h
 obtain ⟨l, b, xs, zs, rfl, rfl, hH, hB, hz, q⟩ := h
 cases rx
 obtain ⟨u, rfl, ru⟩ := rv.one
 cases ru
 obtain ⟨z, its, n, r, hl, e⟩ := I.lstM hH
 obtain ⟨z2, its2, n2, r2, hl2, e2⟩ := I.lstM hB
 have hsz : its.toArray.size + its2.toArray.size ≤ sizeLine := by rw [List.size_toArray, List.size_toArray]; omega
 have hlong : ¬ (!its.toArray.isEmpty && Builtin.List.listTooLong (its.toArray.size + its2.toArray.size)) = true := by
  rw [notLongL hsz, Bool.and_false]
  exact Bool.false_ne_true
 refine call_meets F.slot_list_extend ⟨_, e, rfl⟩ F.entry_list_extend (F.args_list_extend_2 _ _)
  (AutoSeq1.list_extend_list_list_0 l its.toArray n b its2.toArray n2 hlong (by rw [List.size_toArray]; omega) (by omega)) ⟨e, e2, ?_⟩
 refine ⟨.non, _, I.lset (its' := its ++ its2) hH e (by simp) (r.append r2) ?_, rfl, q⟩
 rw [List.length_append]
 omega
def rPop : V → List V → Hp → VK → Prop := fun x vs H Q => ∃ l xs y, x = .ref l ∧ vs = [] ∧ H l = some (.lst xs) ∧ xs[xs.length - 1]? = some y ∧ Q y (upd H l (.lst xs.dropLast))
theorem mt_pop : MtM X "list.pop" rPop := by
 intro pins s σ H x vs v us Q I rx rv h
 obtain ⟨l, xs, y, rfl, rfl, hH, hy, q⟩ := h
 cases rx
 have hus := rv.zero
 subst hus
 obtain ⟨z, its, n, r, hl, e⟩ := I.lstM hH
 obtain ⟨u, hu, ru⟩ := r.get hy
 have hy' : its.toArray[its.toArray.size - 1]? = some u := by
  show its.toArray[its.length - 1]? = some u
  rw [← Array.getElem?_toList, ← hl]
  exact hu
 refine call_meets F.slot_list_pop ⟨_, e, rfl⟩ F.entry_list_pop (F.args_list_pop_1 _) (MeetsSeq.list_pop_last l its.toArray n u hy' (by rw [List.size_toArray]; omega)) ⟨e, ?_⟩
 refine ⟨y, _, I.lset (its' := its.dropLast) hH e ?_ r.dropLast ?_, ru, q⟩
 ·show its.toArray.eraseIdxIfInBounds (its.toArray.size - 1) = its.dropLast.toArray
  rw [List.size_toArray, List.eraseIdxIfInBounds_toArray, erase_last]
 ·rw [List.length_dropLast]
  omega
def rClear : V → List V → Hp → VK → Prop := fun x vs H Q => ∃ l xs, x = .ref l ∧ vs = [] ∧ H l = some (.lst xs) ∧ Q .non (upd H l (.lst []))
theorem mt_clear : MtM X "list.clear" rClear := by
 intro pins s σ H x vs v us Q I rx rv h
 obtain ⟨l, xs, rfl, rfl, hH, q⟩ := h
 cases rx
 have hus := rv.zero
 subst hus
 obtain ⟨z, its, n, r, hl, e⟩ := I.lstM hH
 refine call_meets F.slot_list_clear ⟨_, e, rfl⟩ F.entry_list_clear (F.args_list_clear_1 _) (AutoSeq1.list_clear_list_0 l its.toArray n (by rw [List.size_toArray]; omega)) ⟨e, ?_⟩
 exact ⟨.non, _, I.lset (its' := []) (ys := []) hH e rfl .nil (Nat.zero_le _), rfl, q⟩
def rCat : R2 := fun x y H Q => ∃ l b xs zs, x = .ref l ∧ y = .ref b ∧ H l = some (.lst xs) ∧ H b = some (.lst zs) ∧ xs.length + zs.length ≤ sizeLine ∧ ∀ p, H p = none → Q (.ref p) (upd H p (.lst (xs ++ zs)))
theorem op_cat : OpR X (binaryOp .Add) rCat := by
 intro pins s σ H x y v u Q I rx ry h
 obtain ⟨l, b, xs, zs, rfl, rfl, hH, hB, hz, q⟩ := h
 cases rx
 cases ry
 obtain ⟨z, its, n, r, hl, e⟩ := I.lstM hH
 obtain ⟨z2, its2, n2, r2, hl2, e2⟩ := I.lstM hB
 refine PySem.P.add_list e e2 ?_ (by rw [List.size_toArray, List.size_toArray]; omega)
 have ea : its.toArray ++ its2.toArray = (its ++ its2).toArray := by simp
 rw [ea]
 exact ⟨.ref _, _, I.lnew (t' := s.toks) (r.append r2) (by rw [List.length_append]; omega), rfl, q _ I.fresh⟩
end
section
variable {prog : Program} {w : World} {A : Around} {E : Value → Shared → Prop} {s : Shared}
end
section
variable {X : Cx}
end
section
variable {κ : Type} [DecidableEq κ]
def valV (kvs : List (κ × V)) (k : κ) : Option V := (kvs.find? fun kv => decide (kv.1 = k)).map (·.2)
def putK (kvs : List (κ × V)) (k : κ) (v : V) : List (κ × V) :=
 if (kvs.any fun kv => decide (kv.1 = k)) = true then kvs.map (fun kv => if kv.1 = k then (kv.1, v) else kv) else kvs ++ [(k, v)]
theorem valV_pos {p : κ × V} {r : List (κ × V)} {k : κ} (e : p.1 = k) : valV (p :: r) k = some p.2 := by simp [valV, List.find?_cons, e]
theorem valV_neg {p : κ × V} {r : List (κ × V)} {k : κ} (e : ¬ p.1 = k) : valV (p :: r) k = valV r k := by simp [valV, List.find?_cons, e]
theorem valV_any (k : κ) : ∀ kvs : List (κ × V), (kvs.any fun kv => decide (kv.1 = k)) = (valV kvs k).isSome
 | [] => rfl
 | p :: r => by
  rw [List.any_cons]
  by_cases e : p.1 = k
  ·simp only [valV_pos e, decide_eq_true e, Bool.true_or, Option.isSome_some]
  ·rw [valV_neg e, decide_eq_false e, Bool.false_or]; exact valV_any k r
theorem valV_map (k j : κ) (y : V) : ∀ kvs : List (κ × V), valV (kvs.map fun kv => if kv.1 = k then (kv.1, y) else kv) j = (valV kvs j).map fun x => if j = k then y else x
 | [] => rfl
 | p :: r => by
  have ih := valV_map k j y r
  rw [List.map_cons]
  by_cases h : p.1 = k
  ·rw [if_pos h]
   by_cases e : p.1 = j
   ·rw [valV_pos (p := (p.1, y)) e, valV_pos e, Option.map_some, if_pos (e.symm.trans h)]
   ·rw [valV_neg (p := (p.1, y)) e, valV_neg e, ih]
  ·rw [if_neg h]
   by_cases e : p.1 = j
   ·rw [valV_pos (p := p) e, valV_pos e, Option.map_some, if_neg (fun z => h (e.trans z))]
   ·rw [valV_neg (p := p) e, valV_neg e, ih]
theorem valV_snoc (k j : κ) (y : V) : ∀ kvs : List (κ × V), valV kvs k = none → valV (kvs ++ [(k, y)]) j = if j = k then some y else valV kvs j
 | [], _ => by
  by_cases e : k = j
  ·rw [if_pos e.symm]; exact valV_pos (p := (k, y)) e
  ·rw [if_neg (fun z => e z.symm)]; exact valV_neg (p := (k, y)) e
 | p :: r, hn => by
  rw [List.cons_append]
  have hk : ¬ p.1 = k := fun z => by rw [valV_pos z] at hn; cases hn
  rw [valV_neg hk] at hn
  have ih := valV_snoc k j y r hn
  by_cases e : p.1 = j
  ·rw [valV_pos e, valV_pos e, if_neg (fun z => hk (e.trans z))]
  ·rw [valV_neg e, valV_neg e, ih]
theorem valV_put (kvs : List (κ × V)) (k j : κ) (y : V) : valV (putK kvs k y) j = if j = k then some y else valV kvs j := by
 unfold putK
 by_cases a : (kvs.any fun kv => decide (kv.1 = k)) = true
 ·rw [if_pos a, valV_map]
  rw [valV_any] at a
  by_cases e : j = k
  ·obtain ⟨x, hx⟩ := Option.isSome_iff_exists.mp a
   rw [if_pos e, e, hx, Option.map_some, if_pos rfl]
  ·rw [if_neg e]
   cases valV kvs j with
   | none => rfl
   | some x => rw [Option.map_some, if_neg e]
 ·rw [if_neg a]
  refine valV_snoc k j y kvs ?_
  rw [valV_any] at a
  cases q : valV kvs k with
  | none => rfl
  | some x => rw [q] at a; exact (a rfl).elim
theorem length_putK (kvs : List (κ × V)) (k : κ) (v : V) : (putK kvs k v).length ≤ kvs.length + 1 := by
 unfold putK
 split
 ·rw [List.length_map]; omega
 ·rw [List.length_append, List.length_cons, List.length_nil]; omega
theorem RelO.isSome_eq {o : Option V} {u : Option Value} (r : RelO o u) : o.isSome = u.isSome := by
 cases o with
 | none => cases u with
  | none => rfl
  | some _ => exact (show False from r).elim
 | some _ => cases u with
  | none => exact (show False from r).elim
  | some _ => rfl
theorem RelO.getD {o : Option V} {u : Option Value} {d : V} {d' : Value} (r : RelO o u) (rd : RelV d d') : RelV (o.getD d) (u.getD d') := by
 cases o with
 | none => cases u with
  | none => exact rd
  | some _ => exact (show False from r).elim
 | some _ => cases u with
  | none => exact (show False from r).elim
  | some _ => exact r
theorem KV.val {kvs : List (κ × V)} {vs : List (κ × Value)} (r : KV kvs vs) (k : κ) : RelO (valV kvs k) (valueAt vs k) := by
 unfold KV at r
 induction r with
 | nil => exact True.intro
 | @cons p q ps qs h t ih =>
  obtain ⟨h1, h2⟩ := h
  by_cases e : p.1 = k
  ·have e' : q.1 = k := h1.symm.trans e
   have b : valueAt (q :: qs) k = some q.2 := by simp [valueAt, List.find?_cons, e']
   rw [valV_pos e, b]; exact h2
  ·have e' : ¬ q.1 = k := fun z => e (h1.trans z)
   have b : valueAt (q :: qs) k = valueAt qs k := by simp [valueAt, List.find?_cons, e']
   rw [valV_neg e, b]; exact ih
theorem KV.any {kvs : List (κ × V)} {vs : List (κ × Value)} (r : KV kvs vs) (k : κ) : (kvs.any fun kv => decide (kv.1 = k)) = vs.any fun kv => decide (kv.1 = k) := by
 unfold KV at r
 induction r with
 | nil => rfl
 | cons h t ih => rw [List.any_cons, List.any_cons, ih, h.1]
theorem KV.repl {kvs : List (κ × V)} {vs : List (κ × Value)} (r : KV kvs vs) (k : κ) {y : V} {u : Value} (ry : RelV y u) :
  KV (kvs.map fun kv => if kv.1 = k then (kv.1, y) else kv) (vs.map fun kv => if kv.1 = k then (kv.1, u) else kv) := by
 unfold KV at r ⊢
 induction r with
 | nil => exact .nil
 | @cons p q ps qs h t ih =>
  rw [List.map_cons, List.map_cons]
  refine .cons ?_ ih
  obtain ⟨h1, h2⟩ := h
  by_cases e : p.1 = k
  ·rw [if_pos e, if_pos (h1.symm.trans e)]; exact ⟨h1, ry⟩
  ·rw [if_neg e, if_neg (fun z => e (h1.trans z))]; exact ⟨h1, h2⟩
theorem KV.put {kvs : List (κ × V)} {vs : List (κ × Value)} (r : KV kvs vs) (k : κ) {y : V} {u : Value} (ry : RelV y u) : KV (putK kvs k y) (stored vs k u) := by
 unfold putK stored
 rw [r.any k]
 by_cases e : (vs.any fun kv => decide (kv.1 = k)) = true
 ·rw [if_pos e, if_pos e]; exact r.repl k ry
 ·rw [if_neg e, if_neg e]; exact Paired.snoc r ⟨rfl, ry⟩
theorem KV.keys {kvs : List (κ × V)} {vs : List (κ × Value)} (r : KV kvs vs) : kvs.map (·.1) = vs.map (·.1) := by
 unfold KV at r
 induction r with
 | nil => rfl
 | cons h t ih => rw [List.map_cons, List.map_cons, ih, h.1]
theorem KV.length {kvs : List (κ × V)} {vs : List (κ × Value)} (r : KV kvs vs) : kvs.length = vs.length := Paired.length r
end
theorem kV_is {P : Program} {w : World} {k : Key} {u : Value} (r : RelV (kV k) u) : (mixKind P w).is k u = true := by
 cases k with
 | inl i => obtain ⟨t, e⟩ := (show ∃ t, u = Value.int i t from r); subst e; exact mixKind_int P w i t
 | inr x => obtain ⟨t, e⟩ := (show ∃ t, u = Value.str x t from r); subst e; exact mixKind_str P w x t
theorem items_are {P : Program} {w : World} : ∀ {ks : List Key} {us : List Value}, Vals (ks.map kV) us → ItemsAre (mixKind P w) ks us
 | [], _, r => by rw [List.map_nil] at r; cases r; exact .nil
 | k :: ks, _, r => by
  rw [List.map_cons] at r
  cases r with
  | cons h t => exact .cons (kV_is h) (items_are t)
abbrev KT (H : Hp) : List (List Key × V) → List (List Key × Addr × Value) → Prop := Paired fun p q => p.1 = q.1 ∧ H q.2.1 = some (.tup (p.1.map kV)) ∧ RelV p.2 q.2.2
theorem KT.val {H : Hp} {kvs : List (List Key × V)} {xs : List (List Key × Addr × Value)} (r : KT H kvs xs) (k : List Key) : RelO (valV kvs k) ((atKey xs k).map (·.2)) := by
 induction r with
 | nil => exact True.intro
 | @cons p q ps qs h t ih =>
  obtain ⟨h1, _, h2⟩ := h
  by_cases e : p.1 = k
  ·have e' : q.1 = k := h1.symm.trans e
   have b : atKey (q :: qs) k = some q.2 := by simp [atKey, List.find?_cons, e']
   rw [valV_pos e, b]; exact h2
  ·have e' : ¬ q.1 = k := fun z => e (h1.trans z)
   have b : atKey (q :: qs) k = atKey qs k := by simp [atKey, List.find?_cons, e']
   rw [valV_neg e, b]; exact ih
theorem KT.repl {H : Hp} {kvs : List (List Key × V)} {xs : List (List Key × Addr × Value)} (r : KT H kvs xs) (k : List Key) {y : V} {u : Value} (ry : RelV y u) :
  KT H (kvs.map fun kv => if kv.1 = k then (kv.1, y) else kv) (xs.map (putAt k u)) := by
 induction r with
 | nil => exact .nil
 | @cons p q ps qs h t ih =>
  rw [List.map_cons, List.map_cons]
  refine .cons ?_ ih
  obtain ⟨h1, h2, h3⟩ := h
  unfold putAt
  by_cases e : p.1 = k
  ·rw [if_pos e, if_pos (h1.symm.trans e)]; exact ⟨h1, h2, ry⟩
  ·rw [if_neg e, if_neg (fun z => e (h1.trans z))]; exact ⟨h1, h2, h3⟩
theorem KT.put {H : Hp} {kvs : List (List Key × V)} {xs : List (List Key × Addr × Value)} (r : KT H kvs xs) (k : List Key) {b : Addr} {y : V} {u : Value} (hb : H b = some (.tup (k.map kV))) (ry : RelV y u) :
  KT H (putK kvs k y) (storedH xs k b u) := by
 have e : (kvs.any fun kv => decide (kv.1 = k)) = (atKey xs k).isSome := by
  rw [valV_any, (r.val k).isSome_eq, Option.isSome_map]
 unfold putK storedH
 rw [e]
 by_cases q : (atKey xs k).isSome = true
 ·rw [if_pos q, if_pos q]; exact r.repl k ry
 ·rw [if_neg q, if_neg q]; exact Paired.snoc r ⟨rfl, hb, ry⟩
theorem KT.keeps {H H' : Hp} {kvs : List (List Key × V)} {xs : List (List Key × Addr × Value)} (r : KT H kvs xs) (ht : ∀ b ys, H b = some (.tup ys) → H' b = some (.tup ys)) : KT H' kvs xs :=
 Paired.mapP r fun _ _ z => ⟨z.1, ht _ _ z.2.1, z.2.2⟩
section
variable {P : Program} {w : World} {H : Hp} {h : Heap} {a : Addr}
theorem rd_of {u : HO} (ok : HOk P w H h) (e : Rd H a u) : ObjOk P w H h a u := e.ok ok
theorem dk_rd {kvs : List (Key × V)} (ok : HOk P w H h) (e : Rd H a (.dK kvs)) : kvs.length ≤ sizeLine ∧ (a == sysModules) = false ∧ ∃ vs, KV kvs vs ∧ h.DictOf (mixKind P w) a vs :=
 show ObjOk P w H h a (.dK kvs) from rd_of ok e
theorem dk_of {kvs : List (Key × V)} (ok : HOk P w H h) (e : H a = some (.dK kvs)) : kvs.length ≤ sizeLine ∧ (a == sysModules) = false ∧ ∃ vs, KV kvs vs ∧ h.DictOf (mixKind P w) a vs := dk_rd ok (.inl e)
theorem key_of {ks : List Key} (ok : HOk P w H h) (e : H a = some (.tup (ks.map kV))) : (tupleKind (mixKind P w)).is h ks a := by
 obtain ⟨_, its, r, o, h1, h2, n, h3⟩ := (show ObjOk P w H h a (.tup (ks.map kV)) from ok a _ e)
 exact ⟨o, its.toArray, n, h1, h2, h3, by simpa using items_are r⟩
theorem dt_rd {kvs : List (List Key × V)} (ok : HOk P w H h) (e : Rd H a (.dT kvs)) : kvs.length ≤ sizeLine ∧ (a == sysModules) = false ∧
  ∃ xs, KT H kvs xs ∧ h.DictOfH (tupleKind (mixKind P w)) a xs := by
 obtain ⟨z, y, xs, r, o, es, ep, h1, h2, h3, h4, h5⟩ := (show ObjOk P w H h a (.dT kvs) from rd_of ok e)
 refine ⟨z, y, xs, r, o, es, ep, h1, h2, h3, h4, fun x hx => ?_, h5⟩
 have all : ∀ {l : List (List Key × V)} {m : List (List Key × Addr × Value)}, KT H l m → ∀ x ∈ m, (tupleKind (mixKind P w)).is h x.1 x.2.1 := by
  intro l m q
  induction q with
  | nil => intro x hx; exact nomatch hx
  | @cons p q ps qs hq t ih =>
   intro x hx
   rcases List.mem_cons.mp hx with e | hx
   ·subst e
    exact key_of ok (by rw [← hq.1]; exact hq.2.1)
   ·exact ih x hx
 exact all r x hx
theorem dt_of {kvs : List (List Key × V)} (ok : HOk P w H h) (e : H a = some (.dT kvs)) : kvs.length ≤ sizeLine ∧ (a == sysModules) = false ∧
  ∃ xs, KT H kvs xs ∧ h.DictOfH (tupleKind (mixKind P w)) a xs := dt_rd ok (.inl e)
end
def DGet (H : Hp) (a : Addr) (y : V) (r : Option V) : Prop :=
 (∃ kvs k, Rd H a (.dK kvs) ∧ y = kV k ∧ r = valV kvs k) ∨ ∃ kvs k b, Rd H a (.dT kvs) ∧ y = .ref b ∧ H b = some (.tup (k.map kV)) ∧ r = valV kvs k
def DPut (H : Hp) (a : Addr) (y v : V) (H' : Hp) : Prop :=
 (∃ kvs k, H a = some (.dK kvs) ∧ y = kV k ∧ kvs.length < sizeLine ∧ H' = upd H a (.dK (putK kvs k v))) ∨
 ∃ kvs k b, H a = some (.dT kvs) ∧ y = .ref b ∧ H b = some (.tup (k.map kV)) ∧ kvs.length < sizeLine ∧ H' = upd H a (.dT (putK kvs k v))
theorem DGet.k {H : Hp} {a : Addr} {kvs : List (Key × V)} {k : Key} (e : H a = some (.dK kvs)) : DGet H a (kV k) (valV kvs k) := .inl ⟨kvs, k, .inl e, rfl, rfl⟩
theorem DGet.t {H : Hp} {a b : Addr} {kvs : List (List Key × V)} {k : List Key} (e : H a = some (.dT kvs)) (eb : H b = some (.tup (k.map kV))) : DGet H a (.ref b) (valV kvs k) := .inr ⟨kvs, k, b, .inl e, rfl, eb, rfl⟩
theorem DPut.k {H : Hp} {a : Addr} {kvs : List (Key × V)} {k : Key} {v : V} (e : H a = some (.dK kvs)) (hl : kvs.length < sizeLine) : DPut H a (kV k) v (upd H a (.dK (putK kvs k v))) := .inl ⟨kvs, k, e, rfl, hl, rfl⟩
theorem DPut.t {H : Hp} {a b : Addr} {kvs : List (List Key × V)} {k : List Key} {v : V} (e : H a = some (.dT kvs)) (eb : H b = some (.tup (k.map kV))) (hl : kvs.length < sizeLine) :
  DPut H a (.ref b) v (upd H a (.dT (putK kvs k v))) := .inr ⟨kvs, k, b, e, rfl, eb, hl, rfl⟩
section
variable {X : Cx} {pins : List (Addr × Obj)} {σ : St} {H : Hp} {s : Shared} {a : Addr} {y v : V} {u r : Value} {o : Option V} {A : Around} {E : Value → Shared → Prop}
theorem Inv.big (I : Inv X pins σ H s) : sysModules < s.heap.objs.size := by
 have h : mainGlobals < s.heap.objs.size := (I.mod.glob.keeps I.bk).lt
 exact Nat.lt_trans (by decide) h
theorem d_in {Q : Value → Shared → Prop} (hu : A.units + 1 < cLine) (I : Inv X pins σ H s) (g : DGet H a y o) (ry : RelV y u) (h : ∀ s', Inv X pins σ H s' → Q (.bool o.isSome) s') :
  wpAny (model X.prog X.w) A (compareOp .In u (.ref a)) Q E s := by
 rcases g with ⟨kvs, k, e, ey, l⟩ | ⟨kvs, k, b, e, ey, eb, l⟩
 ·subst ey
  obtain ⟨z, hd, vs, rel, dd⟩ := dk_rd I.hok e
  refine wpAny_in_of (kV_is ry) hd dd.mapOf ?_
  rw [← (rel.val k).isSome_eq, ← l]
  exact h _ (I.tok _)
 ·subst ey
  cases (show u = Value.ref b from ry)
  obtain ⟨z, hd, xs, rel, dd⟩ := dt_rd I.hok e
  refine wpAny_in_heap (tupleKind_room_in1 hu) (key_of I.hok eb) hd dd ?_
  have q := (rel.val k).isSome_eq
  rw [Option.isSome_map] at q
  rw [← q, ← l]
  exact h _ (I.tok _)
theorem d_notIn {Q : Value → Shared → Prop} (hu : A.units + 1 < cLine) (I : Inv X pins σ H s) (g : DGet H a y o) (ry : RelV y u) (h : ∀ s', Inv X pins σ H s' → Q (.bool (!o.isSome)) s') :
  wpAny (model X.prog X.w) A (compareOp .NotIn u (.ref a)) Q E s := by
 rcases g with ⟨kvs, k, e, ey, l⟩ | ⟨kvs, k, b, e, ey, eb, l⟩
 ·subst ey
  obtain ⟨z, hd, vs, rel, dd⟩ := dk_rd I.hok e
  refine wpAny_notIn_of (kV_is ry) hd dd.mapOf ?_
  rw [← (rel.val k).isSome_eq, ← l]
  exact h _ (I.tok _)
 ·subst ey
  cases (show u = Value.ref b from ry)
  obtain ⟨z, hd, xs, rel, dd⟩ := dt_rd I.hok e
  refine wpAny_notIn_heap (tupleKind_room_in1 hu) (key_of I.hok eb) hd dd ?_
  have q := (rel.val k).isSome_eq
  rw [Option.isSome_map] at q
  rw [← q, ← l]
  exact h _ (I.tok _)
theorem d_write {h' : Heap} {t' : Nat} {ob : HO} (I : Inv X pins σ H s) (mu : Mut (H a)) (hs : Heap.SameBut a s.heap h') (he : ∃ q, h'.get? a = some q) (new : ObjOk X.prog X.w (upd H a ob) h' a ob) :
  Inv X pins σ (upd H a ob) { s with heap := h', toks := t' } :=
 I.write (x := a) (e := a) mu (.inl rfl) (fun b q hb z => (hs.2 b hb).trans z) he new
theorem dk_new {P : Program} {w : World} {H' : Hp} {h' : Heap} {kvs : List (Key × V)} {vs : List (Key × Value)} (z : kvs.length ≤ sizeLine) (hd : (a == sysModules) = false) (rel : KV kvs vs) (dd : h'.DictOf (mixKind P w) a vs) :
  ObjOk P w H' h' a (.dK kvs) := ⟨z, hd, vs, rel, dd⟩
theorem d_setItem {H' : Hp} {Q : Unit → Shared → Prop} (hu : A.units + 1 < cLine) (I : Inv X pins σ H s) (g : DPut H a y v H') (ry : RelV y u) (rv : RelV v r) (h : ∀ s', Inv X pins σ H' s' → Q () s') :
  wpAny (model X.prog X.w) A (setItem (.ref a) u r) Q E s := by
 rcases g with ⟨kvs, k, e, ey, l, eH⟩ | ⟨kvs, k, b, e, ey, eb, l, eH⟩
 ·subst ey eH
  obtain ⟨z, hd, vs, rel, dd⟩ := dk_of I.hok e
  have hz : vs.length ≤ sizeLine := by rw [← rel.length]; exact z
  have hl : (putK kvs k v).length ≤ sizeLine := by have := length_putK kvs k v; omega
  refine wpAny_setItem_pairs (hsz := hz) (kV_is ry) dd fun h' dd' hs => h _ ?_
  have he : ∃ q, h'.get? a = some q := let ⟨q, _, _, hq, _⟩ := dd'; ⟨q, hq⟩
  exact d_write I (by rw [e]; exact True.intro) hs he (dk_new hl hd (rel.put k rv) dd')
 ·subst ey eH
  cases (show u = Value.ref b from ry)
  obtain ⟨z, hd, xs, rel, dd⟩ := dt_of I.hok e
  have hz : xs.length ≤ sizeLine := by rw [← Paired.length rel]; exact z
  have hl : (putK kvs k v).length ≤ sizeLine := by have := length_putK kvs k v; omega
  refine wpAny_setItem_heap (hsz := hz) (tupleKind_room_in1 hu) (key_of I.hok eb) dd fun h' dd' hs => h _ ?_
  obtain ⟨q, es, ep, hq, h2, h3, h4, _, h5⟩ := dd'
  refine d_write I (by rw [e]; exact True.intro) hs ⟨q, hq⟩ ⟨hl, hd, _, (rel.put k eb rv).keeps fun c ys ec => ?_, q, es, ep, hq, h2, h3, h4, h5⟩
  rw [upd_ne (ne_of ec e (fun z => nomatch z))]
  exact ec
end
section
variable {X : Cx} {pins : List (Addr × Obj)} {σ : St} {H : Hp} {s : Shared} {a : Addr} {kvs : List (Key × V)} {k : Key} {u : Value} {A : Around} {E : Value → Shared → Prop}
theorem d_len {Q : Value → Shared → Prop} (I : Inv X pins σ H s) (e : Rd H a (.dK kvs)) (h : ∀ t s', Inv X pins σ H s' → Q (.int kvs.length t) s') : wpAny (model X.prog X.w) A (call (.builtin "len") [.ref a]) Q E s := by
 obtain ⟨z, hd, vs, rel, dd⟩ := dk_rd I.hok e
 refine call_len_dict hd dd (by rw [← rel.length]; rw [sizeLine_eq] at z; omega) ?_
 rw [← rel.length]
 exact h _ _ (I.tok _)
end
def tDIn (ty td : TE) : TE := fun σ H Q => ty σ H fun y H1 => td σ H1 fun x H2 => ∃ a o, x = .ref a ∧ DGet H2 a y o ∧ Q (.bl o.isSome) H2
def tDNotIn (ty td : TE) : TE := fun σ H Q => ty σ H fun y H1 => td σ H1 fun x H2 => ∃ a o, x = .ref a ∧ DGet H2 a y o ∧ Q (.bl (!o.isSome)) H2
def sDPut (td ty tv : TE) : TS := fun D σ H => tv σ H fun v H1 => td σ H1 fun x H2 => ty σ H2 fun y H3 => ∃ a H4, x = .ref a ∧ DPut H3 a y v H4 ∧ D.nx σ H4
section
variable {X : Cx} {o i e value : Expr} {pos pos' tpos : Pos} {td ty tv : TE}
theorem pc_din (hu : X.A.units + 1 < cLine) (hi : PE X i ty) (ho : PE X o td) : PC X .In i o (tDIn ty td) := by
 intro pins s σ H Q I h
 refine thn (hi pins s σ H _ I h) fun iv s1 ⟨y, H1, I1, ry, q1⟩ => thn (ho pins s1 σ H1 _ I1 q1) fun u s2 ⟨x, H2, I2, rx, a, ov, ex, g, q2⟩ => ?_
 subst ex
 obtain rfl : u = Value.ref a := rx
 exact d_in hu I2 g ry fun s3 I3 => ⟨.bl ov.isSome, H2, I3, rfl, q2⟩
theorem pc_dnotin (hu : X.A.units + 1 < cLine) (hi : PE X i ty) (ho : PE X o td) : PC X .NotIn i o (tDNotIn ty td) := by
 intro pins s σ H Q I h
 refine thn (hi pins s σ H _ I h) fun iv s1 ⟨y, H1, I1, ry, q1⟩ => thn (ho pins s1 σ H1 _ I1 q1) fun u s2 ⟨x, H2, I2, rx, a, ov, ex, g, q2⟩ => ?_
 subst ex
 obtain rfl : u = Value.ref a := rx
 exact d_notIn hu I2 g ry fun s3 I3 => ⟨.bl (!ov.isSome), H2, I3, rfl, q2⟩
theorem ps_dput (hu : X.A.units + 1 < cLine) (ho : PE X o td) (hi : PE X i ty) (hv : PE X value tv) (hs : swapsWith value (some (.Subscript o i pos')) pos.line X.env = pure false) :
  PS X (.Assign [.Subscript o i pos'] value pos) (sDPut td ty tv) := by
 intro pins s σ H D I h
 refine wpAny_Assign_Subscript (thn (hv pins s σ H _ I h) fun r s1 ⟨v, H1, I1, rv, q1⟩ => thn (ho pins s1 σ H1 _ I1 q1) fun u s2 ⟨x, H2, I2, rx, q2⟩ => thn (hi pins s2 σ H2 _ I2 q2) fun iv s3 ⟨y, H3, I3, ry, a, H4, ex, g, q3⟩ => ?_) hs
 subst ex
 obtain rfl : u = Value.ref a := rx
 exact d_setItem hu I3 g ry rv fun s4 I4 => ⟨σ, H4, I4, q3⟩
end
section
variable {X : Cx} {pos : Pos}
end
def tPairs : List (TE × TE) → St → Hp → (List (V × V) → Hp → Prop) → Prop
 | [], _, H, Q => Q [] H
 | (tk, tv) :: r, σ, H, Q => tk σ H fun x H1 => tv σ H1 fun y H2 => tPairs r σ H2 fun ps H3 => Q ((x, y) :: ps) H3
abbrev VV : List (V × V) → List (Value × Value) → Prop := Paired fun p q => RelV p.1 q.1 ∧ RelV p.2 q.2
def PPs (X : Cx) (pos : Pos) (keys : List (Option Expr)) (values : List Expr) (trs : List (TE × TE)) : Prop :=
 ∀ (pins : List (Addr × Obj)) (s : Shared) (σ : St) (H : Hp) (Q : List (V × V) → Hp → Prop), Inv X pins σ H s → tPairs trs σ H Q →
  wpAny (model X.prog X.w) X.A (evalPairs (pairTrees keys values X.env pos)) (fun vs s' => ∃ ps H', Inv X pins σ H' s' ∧ VV ps vs ∧ Q ps H') X.xe s
def mergeK (kvs more : List (Key × V)) : List (Key × V) := more.foldl (fun acc kv => putK acc kv.1 kv.2) kvs
theorem length_mergeK : ∀ (more kvs : List (Key × V)), (mergeK kvs more).length ≤ kvs.length + more.length
 | [], kvs => by show kvs.length ≤ kvs.length + 0; omega
 | p :: r, kvs => by
  have h1 := length_mergeK r (putK kvs p.1 p.2)
  have h2 := length_putK kvs p.1 p.2
  show (mergeK (putK kvs p.1 p.2) r).length ≤ _
  rw [List.length_cons]; omega
structure M1 (X : Cx) (o : Expr) (m : Str) (apos : Pos) (e : Expr) (cpos : Pos) : Prop where
 base : attributeBase o m X.env (eval o X.env) = eval o X.env
 few : ((backTo cpos (starEach [e] X.env)).all (fun x => !x.1) && (backToKw cpos (keywordEach [] X.env)).all (fun x => x.1.isSome)
  && decide (([e] : List Expr).length + ([] : List Keyword).length + (if ([] : List Keyword).isEmpty then 0 else 1) < 30)) = true
 line : (apos.endLine == cpos.line) = true
 trees : backTo cpos (starEach [e] X.env) = [(false, eval e X.env)]
structure M2 (X : Cx) (o : Expr) (m : Str) (apos : Pos) (e f : Expr) (cpos : Pos) : Prop where
 base : attributeBase o m X.env (eval o X.env) = eval o X.env
 few : ((backTo cpos (starEach [e, f] X.env)).all (fun x => !x.1) && (backToKw cpos (keywordEach [] X.env)).all (fun x => x.1.isSome)
  && decide (([e, f] : List Expr).length + ([] : List Keyword).length + (if ([] : List Keyword).isEmpty then 0 else 1) < 30)) = true
 line : (apos.endLine == cpos.line) = true
 trees : backTo cpos (starEach [e, f] X.env) = [(false, eval e X.env), (false, eval f X.env)]
section
variable {X : Cx} {pins : List (Addr × Obj)} {σ : St} {H : Hp} {s : Shared} {a : Addr} {y d : V} {u r : Value} {o : Option V} {A : Around} {E : Value → Shared → Prop}
end
section
variable {X : Cx} {o e f : Expr} {apos cpos : Pos} {td ty tx : TE}
end
section
variable {X : Cx} {pins : List (Addr × Obj)} {σ : St} {H : Hp} {s : Shared} {a : Addr} {kvs : List (Key × V)} {A : Around} {E : Value → Shared → Prop}
end
section
variable {X : Cx} {pins : List (Addr × Obj)} {σ : St} {H : Hp} {s : Shared} {a : Addr} {y : V} {u : Value} {A : Around} {E : Value → Shared → Prop}
end
end L2
namespace Att
open PySem PySem.W PySem.Calls PyProof.Rows
theorem ints_of_wellAll {P : Params} {h : Heap} : ∀ (ns : List Int) (vs : List Value), WellAll P h vs (ns.map WData.int) → IntsAre vs ns := by
 intro ns
 induction ns with
 | nil =>
  intro vs w
  rw [List.map_nil] at w
  cases w
  exact .nil
 | cons n ns ih =>
  intro vs w
  rw [List.map_cons] at w
  cases w with
  | cons a b =>
   cases a
   exact .cons _ _ (ih _ b)
theorem script_of {l : OpenLaw} {n : Nat} (hn : l.most = some n) {P : Params} {h : Heap} {args : List WData} {vals : List Value}
  (hpre : l.row.toRowW.claim.pre args = true) (hwl : WellAll P h vals args) :
  ∃ a vs ns, vals = [Value.ref a] ∧ args = [WData.list (ns.map WData.int)] ∧ h.get? a = some { cls := .type "list", data := .seq vs.toArray } ∧ IntsAre vs ns ∧ ns.length ≤ n := by
 have hsh : WShape.hasAll [] args [.list .int] = true := (pre_splitW hpre).1
 have hc : l.pre.holds [] { args := args } = true := (pre_splitW hpre).2
 obtain ⟨d, r, rfl, h1, h2⟩ := hasAllW_cons hsh
 obtain rfl := hasAllW_nil h2
 obtain ⟨xs, rfl, h3⟩ := hasW_list h1
 obtain ⟨ns, rfl⟩ := items_int h3
 have hlen : ns.length ≤ n := by
  unfold OpenLaw.pre at hc
  have h4 : (WTm.not (.lt (.lit (.int (n : Int))) (.len (.arg 0)))).holds [] { args := [.list (ns.map .int)] } = true := by
   have h4 := (holds_andW hc).1
   rw [hn] at h4
   exact h4
  have h5 := condW_of h4 (w_not (w_lt w_lit (w_len_list (w_arg rfl))))
  rw [List.length_map] at h5
  refine Nat.le_of_not_lt fun q => ?_
  have q' : (n : Int) < ((ns.length : Nat) : Int) := by omega
  first
   | (rw [decide_eq_true q'] at h5; exact absurd h5 (by decide))
   | (simp at h5; omega)
 cases hwl with
 | cons w1 w2 =>
  cases w2
  cases w1 with
  | list ho hall => exact ⟨_, _, ns, rfl, rfl, ho, ints_of_wellAll ns _ hall, hlen⟩
theorem post_true (l : OpenLaw) (args : List WData) : l.row.toRowW.claim.post args (.bool true) args = true :=
 postW_of (r := l.row.toRowW) (X := (true == true))
  (show WShape.has [] (.bool true) .bool = true by first | rfl | decide | simp [WShape.has, WShape.arms, WShape.armsAll])
  (show (WTm.eq .res (.lit (.bool true))).value [] { args := args, res := some (.bool true), after := args } = some (.bool (true == true)) from w_eq_bool (w_res rfl) w_lit) rfl
theorem attach_call {l : OpenLaw} {n : Nat} {q : Program} {loose : List Str} {XP : (Str → Option Value) → Heap → Prop} {YP : World → Heap → Prop} {d : DefRec}
  (hn : l.most = some n) (hdf : d.params.defaults = [])
  (call : ∀ (w : World) (s₀ s₁ : Shared) (mg mb : Str → Option Value) (fa : Addr) (o : Obj) (pm cd doc : Value) (a : Addr) (vs : List Value) (ns : List Int),
   Ground q loose [] XP w s₀ mg mb s₁.heap → YP w s₁.heap →
   s₁.heap.get? fa = some o → o.data = .func (docDef d.name d.params d.body d.scope pm cd doc) → s₁.heap.CodeRec cd d.name → mg d.name = some (.ref fa) →
   s₁.heap.get? a = some { cls := .type "list", data := .seq vs.toArray } → IntsAre vs ns → ns.length ≤ n → s₁.gens = #[] →
   codeAny (model l.prog w) callerA (.call (.ref fa) ⟨[.ref a], []⟩) (fun r s' => r = .ok (.ret (.bool true)) ∧ OldK s₁.heap s'.heap ∧ s'.os = s₁.os ∧ AllBare s'.gens) s₁) :
  WalkO q loose XP YP l.row.toRowW d [] (fun f vs => PySem.call f vs) := by
 intro w s₀ s₁ mg mb G Y fa o pm cd doc dV kV ho hd hcd hD hmg hg args vals as hpre hlay hrd hwl hlo
 obtain rfl : dV = .none := Dflts.none hD hdf
 obtain rfl : kV = .none := Dflts.noKw hD
 obtain ⟨a, vs, ns, rfl, rfl, hobj, hints, hlen⟩ := script_of hn hpre hwl
 refine enter_call (codeAny_mono (call w s₀ s₁ mg mb fa o pm cd doc a vs ns G Y ho (fd_plain hd) hcd hmg hobj hints hlen hg) fun r s' hq => ?_)
 obtain ⟨rfl, h2, h3, h4⟩ := hq
 exact ⟨.inl ⟨.bool true, .bool true, [], rfl, fun _ => rfl, .bool true, post_true l _, fun _ => ⟨List.Pairwise.nil, fun _ hm => (nomatch hm)⟩⟩, h2, h3, h4⟩
section
variable {prog : Program} {w : World} {A : Around} {E : Value → Shared → Prop} {s : Shared} {K : Frag}
def ledger (h : Heap) (L d : Addr) : List (Addr × Obj) := (List.range h.objs.size).filterMap fun a => if a = L ∨ a = d then none else (h.get? a).map fun o => (a, o)
end
end Att
namespace L2
open PySem PySem.Spec PyProof.Rows
theorem vals_ints : ∀ {vs : List Value} {ns : List Int}, IntsAre vs ns → Vals (ns.map V.int) vs
 | _, _, .nil => .nil
 | _, _, .cons n t h => .cons ⟨t, rfl⟩ (vals_ints h)
def Only (H : Hp) : Prop := ∀ b, H b = none ∨ ∃ o xs, H b = some (.frz o (.lst xs))
theorem law_call {P : Program} {w : World} {K : PySem.W.Frag} {mg mb : Str → Option Value} {CX : CXT} {k : Nat} {fa a : Addr} {fd : FuncData} {x : Str} {sp : Sp} {s₁ : Shared} {vs : List Value} {ns : List Int}
  (KX : K.In s₁.heap) (hns : s₁.heap.Ns mainGlobals mg) (hb : s₁.heap.Ns builtinsNs mb) (hbb : ∀ x : Str, x ≠ "__name__" → mb x = bootBuiltins x) (hlim : s₁.heap.NoLimit) (hg : s₁.gens = #[])
  (ha : s₁.heap.get? a = some { cls := .type "list", data := .seq vs.toArray }) (hi : IntsAre vs ns) (hl : ns.length ≤ sizeLine) (hr : Room k callerA)
  (F : ∀ base : Heap, K.In base → base.Ns mainGlobals mg → FnOk P w K mg base CX k fa fd [x] sp) (hbind : ∀ (s : Shared) (u : Value), BindsTo s fd ⟨[u], []⟩ [(x, u)])
  (hsp : ∀ H : Hp, Only H → SqL K H a (ns.map V.int) → sp [.ref a] H (fun v _ => v = .bl true) fun _ _ _ => False)
  (hCX : ∀ H e s', CX [] H s₁ (fun _ _ _ => False) e s' → False) :
  codeAny (model P w) callerA (.call (.ref fa) ⟨[.ref a], []⟩) (fun r s' => r = .ok (.ret (.bool true)) ∧ OldK s₁.heap s'.heap ∧ s'.os = s₁.os ∧ AllBare s'.gens) s₁ := by
 have rv := vals_ints hi
 have lenV := hi.length
 -- from an abstract heap in which nothing but the script may be tracked
 have core : ∀ H : Hp, Only H → SqL K H a (ns.map V.int) → HOk P w H s₁.heap → (∀ b, H b ≠ none → b = a) → (H a ≠ none → K.lookup a = none) →
   codeAny (model P w) callerA (.call (.ref fa) ⟨[.ref a], []⟩) (fun r s' => r = .ok (.ret (.bool true)) ∧ OldK s₁.heap s'.heap ∧ s'.os = s₁.os ∧ AllBare s'.gens) s₁ := by
  intro H hO hS hok hA hK
  have base_of : ∀ {b : Addr} {o : Obj}, s₁.heap.get? b = some o → H b = none → (hidT s₁.heap H).get? b = some o := fun e n => hidT_get e n
  have noA : ∀ {b : Addr} {o : Obj} {es : Array DictEntry} {ep : Nat}, s₁.heap.get? b = some o → o.data = .dict es ep → H b = none := fun {b o es ep} e d => by
   cases q : H b with
   | none => rfl
   | some u =>
    have e' : b = a := hA b (by rw [q]; simp)
    subst e'
    rw [ha] at e; cases e
    have d' : Data.seq vs.toArray _ = Data.dict es ep := d
    cases d'
  have nsK : ∀ {b : Addr} {m : Str → Option Value}, s₁.heap.Ns b m → (hidT s₁.heap H).Ns b m := fun {b m} ⟨o, es, ep, e, d, r⟩ => ⟨o, es, ep, base_of e (noA e d), d, r⟩
  have hKb : K.In (hidT s₁.heap H) := fun b o e => base_of (KX b o e) (by
   cases q : H b with
   | none => rfl
   | some u =>
    have e' : b = a := hA b (by rw [q]; simp)
    subst e'
    rw [hK (by rw [q]; simp)] at e; cases e)
  have hM : Mod K mg (hidT s₁.heap H) := ⟨hKb, nsK hns, ⟨mb, nsK hb, hbb⟩, let ⟨mc, h1, h2⟩ := hlim; ⟨mc, nsK h1, h2⟩⟩
  have e0 : Env0 P w K mg (hidT s₁.heap H) callerA [] s₁ H := ⟨rfl, hM, fun b o e => of_hidT e, Nat.le_of_eq (hidT_size _ _), trivial, fun b hb => absurd (show b ∈ ([] : List Addr) from hb) (by simp), hok, .of_eq hg⟩
  refine codeAny_mono ((F _ hKb (nsK hns)).run callerA [] s₁ H ⟨[.ref a], []⟩ [.ref a] [.ref a] _ _ hr e0 (hbind s₁ (.ref a)) (.cons rfl .nil) (hsp H hO hS)) fun r s' h => ?_
  cases r with
  | error e => exact (hCX H e s' h).elim
  | ok fl =>
   cases fl with
   | next => exact False.elim h
   | brk => exact False.elim h
   | cont => exact False.elim h
   | ret u =>
    obtain ⟨v, H', os, bare, un, hok', r', q⟩ := h
    have q' : v = .bl true := q
    subst q'
    obtain rfl : u = Value.bool true := r'
    refine ⟨rfl, OldK.of_keep fun b o e => ?_, os, bare⟩
    cases q : H b with
    | none => exact un.keep b o e q (by intro z; exact absurd (show b ∈ ([] : List Addr) from z) (by simp)) (by simp)
    | some u =>
     rcases hO b with z | ⟨ob, xs, z⟩
     ·rw [q] at z; cases z
     ·have z2 := un.frzs b ob _ z
      obtain ⟨e1, _⟩ := hok b _ z
      obtain ⟨e2, _⟩ := hok' b _ z2
      rw [e] at e1; cases e1
      exact e2
 cases hk : K.lookup a with
 | some o =>
  -- the script is one of the module's own objects
  have e := KX a o hk
  rw [ha] at e
  cases e
  refine core (fun _ => none) (fun _ => .inl rfl) (.inr ⟨_, vs.toArray, _, hk, rfl, rfl, rfl, by rw [List.size_toArray, lenV]; exact hl, by simpa using rv⟩) (fun b u z => by have z' : (none : Option HO) = some u := z; cases z') (fun b z => absurd rfl z) fun z => absurd rfl z
 | none =>
  refine core (fun b => if b = a then some (.frz { cls := .type "list", data := .seq vs.toArray } (.lst (ns.map V.int))) else none) (fun b => ?_) (.inl (.inr ⟨{ cls := .type "list", data := .seq vs.toArray }, if_pos rfl⟩)) (fun b u z => ?_) (fun b z => ?_) fun _ => hk
  ·by_cases hb : b = a
   ·exact .inr ⟨_, _, if_pos hb⟩
   ·exact .inl (if_neg hb)
  ·by_cases hb : b = a
   ·have z' := (if_pos hb).symm.trans z
    cases z'
    subst hb
    exact ⟨ha, by rw [List.length_map]; exact hl, vs, _, rv, ha⟩
   ·have z' := (if_neg hb).symm.trans z
    cases z'
  ·by_cases hb : b = a
   ·exact hb
   ·exact absurd (if_neg hb) z
abbrev KOf {K : PySem.W.Frag} {h : Heap} (_ : K.In h) : PySem.W.Frag := K
theorem walk_of {l : PySem.W.OpenLaw} {n k : Nat} {q : Program} {loose : List Str} {XP : (Str → Option Value) → Heap → Prop} {YP : World → Heap → Prop} {d : DefRec} {K : Params → PySem.W.Frag} {CX : World → CXT} {sp : World → Sp} {x : Str}
  (hn : l.most = some n) (hn2 : n ≤ sizeLine) (hdf : d.params.defaults = []) (hr : Room k callerA)
  (hY : ∀ (w : World) (h : Heap), YP w h → (K w.params).In h)
  (F : ∀ (w : World) (mg : Str → Option Value) (fa : Addr) (h : Heap), (K w.params).In h → h.Ns mainGlobals mg → mg d.name = some (.ref fa) →
   ∃ fd : FuncData, (∀ (s : Shared) (u : Value), BindsTo s fd ⟨[u], []⟩ [(x, u)]) ∧
    ∀ base : Heap, (K w.params).In base → base.Ns mainGlobals mg → FnOk l.prog w (K w.params) mg base (CX w) k fa fd [x] (sp w))
  (hsp : ∀ (w : World) (H : Hp) (a : Addr) (ns : List Int), ns.length ≤ n → Only H → SqL (K w.params) H a (ns.map V.int) → sp w [.ref a] H (fun v _ => v = .bl true) fun _ _ _ => False)
  (hCX : ∀ (w : World) (H : Hp) (s : Shared) (e : Value) (s' : Shared), CX w [] H s (fun _ _ _ => False) e s' → False) :
  PySem.W.WalkO q loose XP YP l.row.toRowW d [] (fun f vs => PySem.call f vs) := by
 refine Att.attach_call hn hdf fun w s₀ s₁ mg mb fa o pm cd doc a vs ns G Y ho hd hcd hmg hobj hints hlen hg => ?_
 have KX := hY w _ Y
 obtain ⟨fd, hb, hF⟩ := F w mg fa _ KX G.T.g hmg
 exact law_call KX G.T.g G.T.b G.T.builtins G.T.nolimit hg hobj hints (Nat.le_trans hlen hn2) hr hF hb (fun H hO hS => hsp w H a ns hlen hO hS) fun H e s' => hCX w H s₁ e s'
end L2
/- THE LAST THEOREM (shape; LID, My.* are yours):
   My.Adr: a structure of the addresses that your layer names (classes, functions); My.Txt K t: a structure (Prop) of the equations over K;
   My.txt_mk : {K} {implicit addresses ..} (e1 : nsIn K mainGlobals "law" = some (some (.ref f))) (e2 : K.lookup f = some ⟨oc, od, .func (fnOf "law" "law" params body scope dV kV doc pm an cdv ct), sl⟩) (e3 : codeIn K cdv "law" = true) .. : ∃ t, My.Txt K t
set_option maxRecDepth 100000 in
set_option maxHeartbeats 0 in
theorem PySem.Challenge.cw_LID_holds : PySem.Challenge.rw_LID.Holds := by
 w_on; o_law; k_head; (case hw => w_witness2)
 k_fill
 refine L2.walk_of (l := PySem.Challenge.rw_LID) (n := 63) (k := 40) (x := "script") (CX := fun w => ..) (sp := fun _ => My.sp_law) rfl (by decide) rfl ⟨rfl, by decide, by decide⟩ (fun w h Y => PySem.W.kIn_of Y) ?F ?S ?C
 case F =>
  intro w mg fa h KX G hmg
  have T : ∃ t, My.Txt (L2.KOf KX) t := by
   dsimp only [L2.KOf]                          -- K must stand as «<heap const> w.params» for k_is
   refine' My.txt_mk ?e1 ?e2 ?e3 ..
   (case e1 => PySem.W.k_is)                    -- in the order: a name -> its address -> its object -> its parts
   (case e2 => PySem.W.k_is)
   ..
  obtain ⟨t, T⟩ := T
  have e0 := hmg.symm.trans (PySem.W.mg_of KX G T.law)
  cases e0                                       -- fa is the law's own address
  exact ⟨_, fun s u => .of_eq rfl, fun base kb nb => My.law_fn T kb nb⟩     -- if «.of_eq rfl» comes too early: refine' ⟨_, ?b, fun base kb nb => My.law_fn T kb nb⟩; exact fun s u => .of_eq rfl
 case S => exact fun w H a ns hl hO hS => ..
 case C => exact ..
(the tactic k_is has no namespace: write k_is) -/
namespace L2
open PySem PySem.Spec PyProof.Rows
def inClass (s : Stmt) (j : Nat) : Stmt := match s with
 | .ClassDef _ _ _ body _ _ _ _ _ _ _ => body.getD j (.Pass ⟨0, 0, 0, 0⟩)
 | _ => .Pass ⟨0, 0, 0, 0⟩
def defArgs (s : Stmt) : Arguments := match s with
 | .FunctionDef _ a _ _ _ _ _ _ _ _ => a
 | _ => { posonlyargs := [], args := [], vararg := none, kwonlyargs := [], kw_defaults := [], kwarg := none, defaults := [] }
def defBody (s : Stmt) : List Stmt := match s with
 | .FunctionDef _ _ b _ _ _ _ _ _ _ => b
 | _ => []
def defScope (s : Stmt) : Scope := match s with
 | .FunctionDef _ _ _ _ _ _ sc _ _ _ => sc
 | _ => { kind := .function, names := [], isGenerator := false, isCoroutine := false }
abbrev CX0 : CXT := fun _ _ _ _ _ _ => False
abbrev E0 : XK := fun _ _ _ => False
theorem pass0 {X : Cx} : Passes CX0 X E0 := fun _ _ _ _ _ _ _ h => h.elim
structure Fun (K : PySem.W.Frag) (x qual : Str) (st : Stmt) (f : Addr) (fd : FuncData) : Prop where
 ex : ∃ (oc : Value) (od : Option Addr) (kV doc pm : Value) (an : Option Addr) (cdv ct : Value) (osl : Array (Option Value)),
  fd = PySem.W.fnOf x qual (defArgs st) (defBody st) (defScope st) .none kV doc pm an cdv ct ∧ K.lookup f = some ⟨oc, od, .func fd, osl⟩ ∧ PySem.W.codeIn K cdv qual = true
 kp : PySem.W.keepIn K (.ref f) = true
section
variable {P : Program} {w : World} {K : PySem.W.Frag} {mg : Str → Option Value} {base : Heap}
theorem Fun.ok {x qual : Str} {st : Stmt} {f : Addr} {fd : FuncData} {N ps : List Str} {k : Nat} {sp : Sp} (F : Fun K x qual st f fd) (S : FnScope N ps (defScope st)) (len : ∀ vs H Q E, sp vs H Q E → vs.length = ps.length)
  (hbody : ∀ (cdv : Value) (A : Around) (outer : List Env) (s : Shared) (H : Hp) (vs : List V) (Q : VK) (E : XK), Room k (A.deeper (envOfC qual (defScope st) s.heap.objs.size f cdv)) → sp vs H Q E →
   ∃ t, PSs (cxOf CX0 P w K mg base N qual (defScope st) f cdv A outer s H E).nox (defBody st) t ∧ t { nx := fun _ H' => Q .non H', rt := Q } (start N vs) H) : FnOk P w K mg base CX0 (k + 1) f fd ps sp := by
 obtain ⟨oc, od, kV, doc, pm, an, cdv, ct, osl, rfl, lk, hcd⟩ := F.ex
 refine fn_of lk hcd S len fun A outer s H vs Q E hr hsp => ?_
 obtain ⟨t, h, q⟩ := hbody cdv A outer s H vs Q E hr hsp
 exact ⟨t, h.nox, q⟩
theorem Fun.binds {x qual : Str} {st : Stmt} {f : Addr} {fd : FuncData} {ps : List Str} (F : Fun K x qual st f fd)
  (h : ∀ (kV doc pm : Value) (an : Option Addr) (cdv ct : Value) (us : List Value), us.length = ps.length → bindArgs (PySem.W.fnOf x qual (defArgs st) (defBody st) (defScope st) .none kV doc pm an cdv ct) ⟨us, []⟩ = pure (ps.zip us)) : Binds K fd ps [] := by
 obtain ⟨oc, od, kV, doc, pm, an, cdv, ct, osl, rfl, lk, hcd⟩ := F.ex
 exact .all (h kV doc pm an cdv ct)
theorem fun_mk {x qual : Str} {st : Stmt} {f : Addr} {oc : Value} {od an : Option Addr} {osl : Array (Option Value)} {kV doc pm cdv ct : Value} (l : K.lookup f = some ⟨oc, od, .func (PySem.W.fnOf x qual (defArgs st) (defBody st) (defScope st) .none kV doc pm an cdv ct), osl⟩)
  (c : PySem.W.codeIn K cdv qual = true) (k : PySem.W.keepIn K (.ref f) = true) : Fun K x qual st f (PySem.W.fnOf x qual (defArgs st) (defBody st) (defScope st) .none kV doc pm an cdv ct) := ⟨⟨oc, od, kV, doc, pm, an, cdv, ct, osl, rfl, l, c⟩, k⟩
end
theorem hu_of {A : Around} {k : Nat} (hr : Room k A) : A.units + 1 < cLine := Nat.lt_of_le_of_lt (Nat.add_le_add_left (by decide : 1 ≤ 64) _) hr.units
section
variable {X : Cx}
theorem call_lenD : CallR X (.builtin "len") (fun xs H Q => ∃ a kvs, xs = [V.ref a] ∧ H a = some (.dK kvs) ∧ Q (.int kvs.length) H) := by
 intro pins s σ H xs us Q I r h
 obtain ⟨a, kvs, rfl, ha, q⟩ := h
 obtain ⟨u, rfl, ru⟩ := vals1 r
 cases ru
 exact d_len I (.inl ha) fun t s' I' => ⟨.int kvs.length, H, I', ⟨t, rfl⟩, q⟩
end
def Same (H H' : Hp) : Prop := ∀ b o, H b = some o → H' b = some o
theorem Same.refl (H : Hp) : Same H H := fun _ _ h => h
theorem Same.trans {H H1 H2 : Hp} (a : Same H H1) (b : Same H1 H2) : Same H H2 := fun c o h => b c o (a c o h)
theorem Same.free {H H' : Hp} (e : Same H H') {l : Addr} (h : H' l = Option.none) : H l = Option.none := by
 cases q : H l with
 | none => rfl
 | some o =>
  rw [e l o q] at h
  cases h
theorem Same.seq {K : PySem.W.Frag} {H H' : Hp} {a : Addr} {xs : List V} (e : Same H H') (h : SqL K H a xs) : SqL K H' a xs := by
 rcases h with (h | ⟨o, h⟩) | h
 ·exact .inl (.inl (e _ _ h))
 ·exact .inl (.inr ⟨o, e _ _ h⟩)
 ·exact .inr h
section
variable {κ : Type} [DecidableEq κ]
end
def clOf (env : Env) : List (Str × NameKind) → List (Str × Addr) → List (Str × Addr)
 | [], acc => acc
 | (n, k) :: r, acc => if (k == NameKind.free) = true then clOf env r ((n, (env.cells.lookup n).getD 0) :: acc) else clOf env r acc
theorem cellOf_eq {env : Env} {n : Str} {c : Addr} (h : env.cells.lookup n = some c) : cellOf env n = pure c := by
 unfold cellOf
 rw [h]
theorem closure_go {env : Env} : ∀ (names : List (Str × NameKind)) (acc : List (Str × Addr)), (∀ x ∈ names, x.2 = .free → ∃ c, env.cells.lookup x.1 = some c) →
  (forIn names acc fun (x : Str × NameKind) (cs : List (Str × Addr)) => (match x with | (name, kind) => if (kind == NameKind.free) = true then (do let __do_lift ← cellOf env name; pure PUnit.unit; pure (ForInStep.yield ((name, __do_lift) :: cs)) : Sem _) else (do pure PUnit.unit; pure (ForInStep.yield cs)) : Sem (ForInStep (List (Str × Addr))))) = pure (clOf env names acc)
 | [], acc, _ => rfl
 | (n, k) :: r, acc, h => by
  have ih := fun a => closure_go r a fun x hx => h x (List.mem_cons_of_mem _ hx)
  rw [List.forIn_cons]
  by_cases hk : (k == NameKind.free) = true
  ·obtain ⟨c, hc⟩ := h (n, k) List.mem_cons_self (by simpa using hk)
   simp only [hk, if_true, clOf, cellOf_eq hc, hc, Option.getD_some, pure_bind]
   exact ih _
  ·simp only [hk, if_false, clOf, pure_bind]
   exact ih _
theorem closure_of {scope : Scope} {env : Env} (h : ∀ x ∈ scope.names, x.2 = .free → ∃ c, env.cells.lookup x.1 = some c) : closureFor scope env = pure (clOf env scope.names []) := by
 unfold closureFor
 have q := closure_go scope.names [] h
 exact (congrArg (fun m => m >>= pure) q).trans (pure_bind _ _)
theorem clOf_sub {env : Env} : ∀ (names : List (Str × NameKind)) (acc : List (Str × Addr)), (∀ x ∈ names, x.2 = .free → ∃ c, env.cells.lookup x.1 = some c) → (∀ p ∈ acc, env.cells.lookup p.1 = some p.2) →
  ∀ p ∈ clOf env names acc, env.cells.lookup p.1 = some p.2
 | [], acc, _, ha => ha
 | (n, k) :: r, acc, h, ha => by
  by_cases hk : (k == NameKind.free) = true
  ·obtain ⟨c, hc⟩ := h (n, k) List.mem_cons_self (by simpa using hk)
   simp only [clOf, hk, if_true]
   refine clOf_sub r _ (fun x hx => h x (List.mem_cons_of_mem _ hx)) fun p hp => ?_
   rcases List.mem_cons.mp hp with rfl | hp
   ·show env.cells.lookup n = some _
    rw [hc]; rfl
   ·exact ha p hp
  ·simp only [clOf, hk, if_false]
   exact clOf_sub r _ (fun x hx => h x (List.mem_cons_of_mem _ hx)) ha
theorem clOf_acc {env : Env} : ∀ (names : List (Str × NameKind)) (acc : List (Str × Addr)) (p : Str × Addr), p ∈ acc → p ∈ clOf env names acc
 | [], _, _, h => h
 | (n, k) :: r, acc, p, h => by
  by_cases hk : (k == NameKind.free) = true
  ·simp only [clOf, hk, if_true]
   exact clOf_acc r _ p (List.mem_cons_of_mem _ h)
  ·simp only [clOf, hk, if_false]
   exact clOf_acc r _ p h
theorem clOf_has {env : Env} : ∀ (names : List (Str × NameKind)) (acc : List (Str × Addr)) (x : Str), (x, NameKind.free) ∈ names → ∃ c, (x, c) ∈ clOf env names acc
 | (n, k) :: r, acc, x, h => by
  rcases List.mem_cons.mp h with e | h
  ·injection e with e1 e2
   subst e1; subst e2
   simp only [clOf, beq_self_eq_true, if_true]
   exact ⟨_, clOf_acc r _ _ List.mem_cons_self⟩
  ·by_cases hk : (k == NameKind.free) = true
   ·simp only [clOf, hk, if_true]
    exact clOf_has r _ x h
   ·simp only [clOf, hk, if_false]
    exact clOf_has r _ x h
theorem lookup_some_of_mem : ∀ {l : List (Str × Addr)} {x : Str} {c : Addr}, (x, c) ∈ l → ∃ d, l.lookup x = some d
 | (n, d) :: r, x, c, h => by
  by_cases e : x == n
  ·exact ⟨d, by simp [List.lookup_cons, e]⟩
  ·rcases List.mem_cons.mp h with q | q
   ·injection q with q1 _
    subst q1
    simp at e
   ·obtain ⟨d', hd⟩ := lookup_some_of_mem q
    exact ⟨d', by simp [List.lookup_cons, e, hd]⟩
theorem relabel_look {env : Env} : ∀ {names : List (Str × NameKind)} {x : Str} {k : NameKind},
  (names.map fun (n, k) => if (k == NameKind.free && env.scope.kind == .function && env.kindOf n == some .cell) then (n, NameKind.cell) else (n, k)).lookup x = some k →
  ∃ k', names.lookup x = some k' ∧ (k = k' ∨ k' = .free)
 | [], _, _, h => by simp at h
 | (n, j) :: r, x, k, h => by
  have ih := @relabel_look env r x k
  by_cases hc : (j == NameKind.free && env.scope.kind == .function && env.kindOf n == some .cell) = true
  ·simp only [List.map_cons, hc, if_true, List.lookup_cons] at h ⊢
   cases e : x == n with
   | true =>
    rw [e] at h
    refine ⟨j, rfl, .inr ?_⟩
    simp only [Bool.and_eq_true, beq_iff_eq] at hc
    exact hc.1.1
   | false =>
    rw [e] at h
    exact ih h
  ·rw [List.map_cons] at h
   dsimp only at h
   rw [if_neg hc, List.lookup_cons] at h
   rw [List.lookup_cons]
   cases e : x == n with
   | true =>
    rw [e] at h
    exact ⟨j, rfl, .inl (by injection h with h; exact h.symm)⟩
   | false =>
    rw [e] at h
    exact ih h
theorem relabel_free {env : Env} : ∀ {names : List (Str × NameKind)} {x : Str}, names.lookup x = some .free →
  (names.map fun (n, k) => if (k == NameKind.free && env.scope.kind == .function && env.kindOf n == some .cell) then (n, NameKind.cell) else (n, k)).lookup x = some .cell ∨
  (names.map fun (n, k) => if (k == NameKind.free && env.scope.kind == .function && env.kindOf n == some .cell) then (n, NameKind.cell) else (n, k)).lookup x = some .free
 | [], _, h => by simp at h
 | (n, j) :: r, x, h => by
  have ih := @relabel_free env r x
  cases e : x == n with
  | true =>
   rw [List.lookup_cons, e] at h
   injection h with h
   subst h
   rw [List.map_cons]
   dsimp only
   split
   ·exact .inl (by simp [List.lookup_cons, e])
   ·exact .inr (by simp [List.lookup_cons, e])
  | false =>
   rw [List.lookup_cons, e] at h
   rcases ih h with q | q
   ·left
    rw [List.map_cons]
    dsimp only
    split <;> simp only [List.lookup_cons, e] <;> exact q
   ·right
    rw [List.map_cons]
    dsimp only
    split <;> simp only [List.lookup_cons, e] <;> exact q
def ccx (X : Cx) (scope : Scope) (N : List Str) (C : Addr) (s : Shared) (H : Hp) (fp : List Addr) : Cx :=
 { X with N := N, s₀ := s, H₀ := H, env := compEnvC scope (clOf X.env scope.names []) C X.env, outer := X.stack, stack := X.stack, ex := fp, fn := fun _ => false, pn := [], xe := fun _ _ => False }
structure CScope (X : Cx) (scope : Scope) : Prop where
 kind : scope.kind = .function
 nocell : ∀ y ∈ scope.names, y.2 ≠ .cell
 names : ∀ y ∈ scope.names, y.2 = .local → scope.names.lookup y.1 = some .local
 free : ∀ y ∈ scope.names, y.2 = .free → X.env.kindOf y.1 = some .cell ∨ X.env.kindOf y.1 = some .free
section
variable {X : Cx} {pins : List (Addr × Obj)} {σ : St} {H : Hp} {s : Shared}
theorem CScope.has {scope : Scope} (S : CScope X scope) (ok : X.Ok) : ∀ x ∈ scope.names, x.2 = .free → ∃ c, X.env.cells.lookup x.1 = some c := fun x hx h => ok.has _ (S.free x hx h)
theorem cl_sub {scope : Scope} (S : CScope X scope) (ok : X.Ok) {x : Str} {c : Addr} (h : (clOf X.env scope.names []).lookup x = some c) : X.env.cells.lookup x = some c :=
 clOf_sub scope.names [] (S.has ok) (fun p hp => absurd hp (by simp)) (x, c) (PySem.mem_of_lookup h)
theorem cl_free {scope : Scope} (S : CScope X scope) (ok : X.Ok) {x : Str} (h : scope.names.lookup x = some .free) : ∃ c, (clOf X.env scope.names []).lookup x = some c ∧ X.env.cells.lookup x = some c := by
 obtain ⟨c, hc⟩ := clOf_has (env := X.env) scope.names [] x (PySem.mem_of_lookup h)
 obtain ⟨d, hd⟩ := lookup_some_of_mem hc
 exact ⟨d, hd, cl_sub S ok hd⟩
structure CNames (X : Cx) (scope : Scope) (N : List Str) (k : Nat) (sel : List Nat) : Prop where
 len : N.length = k + sel.length
 fr : ∀ (i j : Nat) (x : Str), sel[i]? = some j → N[k + i]? = some x → X.N[j]? = some x ∧ scope.names.lookup x = some .free
def cst (σ : St) (k : Nat) (sel : List Nat) : St := List.replicate k none ++ sel.map fun j => (σ[j]?).join
theorem cst_len {k : Nat} {sel : List Nat} : (cst σ k sel).length = k + sel.length := by
 unfold cst; rw [List.length_append, List.length_replicate, List.length_map]
theorem ccx_ok {scope : Scope} {N : List Str} {fp : List Addr} (S : CScope X scope) (I : Inv X pins σ H s) (hf : ∀ b ∈ fp, FpOk X pins H b) (hlt : ∀ b ∈ fp, b < s.heap.objs.size) : (ccx X scope N s.heap.objs.size s H fp).Ok where
 mod := I.ok.mod
 kind := S.kind
 glob := I.ok.glob
 blt := I.ok.blt
 above := Nat.le_refl _
 inj := fun x y c h1 h2 => I.ok.inj x y c (cl_sub S I.ok h1) (cl_sub S I.ok h2)
 has := fun x h => by
  have h' : (relabel scope X.env).names.lookup x = some .cell ∨ (relabel scope X.env).names.lookup x = some .free := h
  rcases h' with h' | h'
  ·obtain ⟨k', e, q⟩ := relabel_look h'
   rcases q with q | q
   ·subst q
    exact absurd rfl (S.nocell _ (PySem.mem_of_lookup e))
   ·subst q
    obtain ⟨c, hc, _⟩ := cl_free S I.ok e
    exact ⟨c, hc⟩
  ·obtain ⟨k', e, q⟩ := relabel_look h'
   have : k' = .free := by rcases q with q | q; exact q.symm; exact q
   subst this
   obtain ⟨c, hc, _⟩ := cl_free S I.ok e
   exact ⟨c, hc⟩
 cab := fun x c h => absurd (show false = true from h) (by simp)
 hd := I.ok.hd
 frames := I.ok.frames
 stk := .inl rfl
 exf := fun b hb => ⟨Nat.ne_of_lt (hlt b hb), fun x c h => (hf b hb).2.2.2.2.1 x c (cl_sub S I.ok h)⟩
 bs := I.bs
 bsz := Nat.le_trans I.ok.bsz I.sz
 noex := fun b o e hb => by
  rcases (hf b hb).2.2.2.1 with z | z
  ·exact I.ok.noex b o e z
  ·exact absurd (Nat.lt_of_lt_of_le (Heap.lt_size e) (Nat.le_trans I.ok.bsz z)) (Nat.lt_irrefl _)
 exfs := fun b hb z => by
  rcases List.mem_cons.mp (I.stkSub b z) with q | q
  ·exact (hf b hb).2.1 q
  ·exact (hf b hb).2.2.1 q
 funs := I.stack
 frf := I.stkFree
theorem ccx_inv {scope : Scope} {N : List Str} {fp : List Addr} {k : Nat} {sel : List Nat} {h₁ : Heap} {m : Str → Option Value} {t' : Nat} (S : CScope X scope) (M : CNames X scope N k sel) (I : Inv X pins σ H s) (hf : ∀ b ∈ fp, FpOk X pins H b) (hlt : ∀ b ∈ fp, b < s.heap.objs.size)
  (hn : h₁.Ns s.heap.objs.size m) (hk : ∀ b o, s.heap.get? b = some o → h₁.get? b = some o) : Inv (ccx X scope N s.heap.objs.size s H fp) [] (cst σ k sel) H { s with heap := h₁, toks := t' } := by
 refine ⟨ccx_ok S I hf hlt, rfl, I.bare, Un.kept hk, ⟨m, hn, fun i x v e1 e2 e3 => ?_⟩, fun x c e => ?_, I.hok.fresh (Nat.le_refl _), fun x c e => I.freeC x c (cl_sub S I.ok e), fun p hp => absurd (show p ∈ ([] : List (Addr × Obj)) from hp) (by simp), I.hok.kept hk, ?_⟩
 ·have hi : k ≤ i := by
   by_cases hi : k ≤ i
   ·exact hi
   ·unfold cst at e2
    rw [List.getElem?_append_left (by simp; omega), List.getElem?_replicate] at e2
    split at e2 <;> cases e2
  obtain ⟨d, rfl⟩ : ∃ d, i = k + d := ⟨i - k, by omega⟩
  unfold cst at e2
  rw [List.getElem?_append_right (by simp), List.length_replicate, Nat.add_sub_cancel_left, List.getElem?_map] at e2
  cases ej : sel[d]? with
  | none => rw [ej] at e2; cases e2
  | some j =>
   rw [ej] at e2
   have e2' : (σ[j]?).join = some v := Option.some.inj e2
   have e4 : σ[j]? = some (some v) := by
    cases q : σ[j]? with
    | none => rw [q] at e2'; cases e2'
    | some o => rw [q] at e2'; cases o with
     | none => cases e2'
     | some w => cases e2'; rfl
   obtain ⟨hN, hfr⟩ := M.fr d j x ej e1
   obtain ⟨mo, hno, hlo⟩ := I.loc
   have hkind := S.free _ (PySem.mem_of_lookup hfr) rfl
   obtain ⟨u, ru, lu⟩ := hlo j x v hN e4 (by rcases hkind with q | q; exact .inr (.inl q); exact .inr (.inr q))
   obtain ⟨c, hc, hc'⟩ := cl_free S I.ok hfr
   refine ⟨u, ru, .inr ⟨?_, c, hc, ?_⟩⟩
   ·exact relabel_free hfr
   ·rcases lu with ⟨kl, _⟩ | ⟨_, c', e5, z⟩
    ·rcases hkind with q | q
     ·rw [kl] at q; cases q
     ·rw [kl] at q; cases q
    ·rw [hc'] at e5; cases e5
     obtain ⟨o, ho, hd⟩ := z
     exact ⟨o, hk _ _ ho, hd⟩
 ·obtain ⟨v, o, ho, hd⟩ := I.cell x c (cl_sub S I.ok e)
  exact ⟨v, o, hk _ _ ho, hd⟩
 ·rw [cst_len]; exact M.len.symm
end
def PTs (X : Cx) (ifs : List Expr) (t : TT) : Prop :=
 ∀ (pins : List (Addr × Obj)) (s : Shared) (σ : St) (H : Hp) (Q : Bool → Hp → Prop), Inv X pins σ H s → t σ H Q →
  wpAny (model X.prog X.w) X.A (forIn ifs true fun c r => if r = true then do let ok ← isTrue c X.env (eval c X.env); pure (ForInStep.yield ok) else pure (ForInStep.yield r)) (TP X pins σ Q) X.xe s
def tTrue : TT := fun _ H Q => Q true H
theorem pts_nil {X : Cx} : PTs X [] tTrue := fun pins s σ H Q I h => wpAny_tests_nil ⟨H, I, h⟩
def tComp (wi : TI) (k : Nat) (sel : List Nat) (g : TG) (tt : TT) (te : TE) : TE := fun σ H Q => wi σ H fun J H1 => ∀ p, H1 p = none →
 ∃ W : Nat → Nat → St → Hp → Prop, (∃ m, W 0 m (cst σ k sel) (upd H1 p (.lst []))) ∧ ∀ i m σ2 H2, W i m σ2 H2 →
  (J.stop i H2 ∧ Q (.ref p) H2) ∨ (J.go i H2 ∧ ∀ x H3, J.yld i H2 x H3 → g x σ2 H3 fun σ4 H4 => tt σ4 H4 fun b H5 =>
   if b = true then te σ4 H5 fun v H6 => ∃ ys, H6 p = some (.lst ys) ∧ ys.length < sizeLine ∧ ∃ m', m' < m ∧ W (i + 1) m' σ4 (upd H6 p (.lst (ys ++ [v]))) else ∃ m', m' < m ∧ W (i + 1) m' σ4 H5)
theorem comp_loop {X : Cx} {elt tg iter : Expr} {ifs : List Expr} {scope : Scope} {pos : Pos} {it D : Addr} {fp : List Addr} {tn : Nat → Heap → Prop} {J : It} {g : TG} {tt : TT} {te : TE} {W : Nat → Nat → St → Hp → Prop} {R : Result → Shared → Prop} {QQ : Hp → Prop}
  (hx : X.xe = fun _ _ => False) (hc : X.calm = true) (T : Turn X.prog X.w X.K tg J fp it tn) (hg : PG X tg g) (ht : PTs X ifs tt) (he : PE X elt te)
  (hfp : ∀ b ∈ fp, b ≠ X.env.locals ∧ b ∉ X.fs ∧ (b ∈ X.ex ∨ X.s₀.heap.objs.size ≤ b) ∧ (∀ x c, X.env.cells.lookup x = some c → c ≠ b) ∧ ∀ p ∈ X.pn ++ [], p.1 ≠ b)
  (turn : ∀ i m σ2 H2, W i m σ2 H2 →
   (J.stop i H2 ∧ QQ H2) ∨ (J.go i H2 ∧ ∀ x H3, J.yld i H2 x H3 → g x σ2 H3 fun σ4 H4 => tt σ4 H4 fun b H5 =>
    if b = true then te σ4 H5 fun v H6 => ∃ ys, H6 D = some (.lst ys) ∧ ys.length < sizeLine ∧ ∃ m', m' < m ∧ W (i + 1) m' σ4 (upd H6 D (.lst (ys ++ [v]))) else ∃ m', m' < m ∧ W (i + 1) m' σ4 H5))
  (hR : ∀ s' σ' H', Inv X [] σ' H' s' → QQ H' → R (.ok .next) s') {s : Shared} (m0 : Nat) (h : ∃ i σ' H', Inv X [] σ' H' s ∧ tn i s.heap ∧ (∀ b ∈ fp, H' b = none) ∧ W i m0 σ' H') :
  codeAny (model X.prog X.w) X.A (.compLoop (.ListComp elt [⟨tg, iter, ifs, 0⟩] scope pos) 0 (.ref it) (.ref D) X.env) R s := by
 have stat : ∀ {H' : Hp}, (∀ b ∈ fp, H' b = none) → ∀ b ∈ fp, FpOk X [] H' b := fun hn b hb => ⟨hn b hb, hfp b hb⟩
 have noE : ∀ {α : Type} {t : Sem α} {Q : α → Shared → Prop} {E : Value → Shared → Prop} {s : Shared}, wpAny (model X.prog X.w) X.A t Q X.xe s → wpAny (model X.prog X.w) X.A t Q E s := fun {α t Q E s} h => by
  rw [hx] at h
  exact wpAny_noRaise h
 refine codeAny_loop rfl (fun n s' => ∃ i σ' H', Inv X [] σ' H' s' ∧ tn i s'.heap ∧ (∀ b ∈ fp, H' b = none) ∧ W i n σ' H') (fun n s3 hI => ?_) m0 h
 obtain ⟨i, σ3, H3, I3, st3, fr3, w3⟩ := hI
 show wpAny _ X.A ((compTurn (.ListComp elt [⟨tg, iter, ifs, 0⟩] scope pos) 0 (.ref it) (.ref D) X.env).onRaise (fun x => do noteFrame x X.env; theTreesLotGoes x)) _ _ s3
 refine wpAny_noted ?_
 rw [compTurn_list]
 rcases turn i n σ3 H3 w3 with ⟨stop, qn⟩ | ⟨go, step⟩
 ·refine wpAny_bind (wpAny_standAt (wpAny_bind (thn (noE (T.done X rfl rfl rfl hc i [] s3 σ3 H3 X.xe I3 (stat fr3) st3 stop)) fun r s4 ⟨hr, I4⟩ => ?_)))
  subst hr
  exact wpAny_pure (hR s4 σ3 H3 I4 qn)
 ·refine wpAny_bind (wpAny_standAt (wpAny_bind (thn (noE (T.item X rfl rfl rfl hc i [] s3 σ3 H3 X.xe I3 (stat fr3) st3 go)) fun r s4 ⟨u, hr, h4⟩ => ?_)))
  subst hr
  refine wpAny_bind (thn (noE h4) fun _ s5 ⟨x, H5, I5, r5, y5, st5, fr5⟩ => ?_)
  have I5' := I5.pinned (stat fr5) (T.obj _ _ st5)
  refine wpAny_bind (thn (noE (hg _ s5 σ3 H5 x u _ I5' r5 (step x H5 y5))) fun _ s6 ⟨σ6, H6, I6, q6⟩ => ?_)
  refine wpAny_bind (thn (noE (ht _ s6 σ6 H6 _ I6 q6)) fun ok s7 ⟨H7, I7, q7⟩ => ?_)
  have again : ∀ {s8 : Shared} {H8 : Hp}, Inv X ([] ++ pinsAt fp s5.heap) σ6 H8 s8 → (∃ m', m' < n ∧ W (i + 1) m' σ6 H8) → ∃ m, m < n ∧ ∃ i σ' H', Inv X [] σ' H' s8 ∧ tn i s8.heap ∧ (∀ b ∈ fp, H' b = none) ∧ W i m σ' H' := fun {s8 H8} I8 n8 => by
   obtain ⟨m', hm, w8⟩ := n8
   refine ⟨m', hm, i + 1, σ6, H8, I8.unpinned, T.keep _ _ _ st5 fun b hb o e => (I8.pin (b, o) (List.mem_append_right _ (List.mem_append_right _ (mem_pinsAt hb e)))).1, fun b hb => ?_, w8⟩
   obtain ⟨o, e, d⟩ := T.obj _ _ st5 b hb
   exact (I8.pin (b, o) (List.mem_append_right _ (List.mem_append_right _ (mem_pinsAt hb e)))).2.1
  cases ok with
  | false => exact wpAny_pure ⟨rfl, again I7 q7⟩
  | true =>
   refine wpAny_bind (wpAny_bind (thn (noE (he _ s7 σ6 H7 _ I7 q7)) fun y s8 ⟨v, H8, I8, r8, ys, hys, hl, q8⟩ => ?_))
   refine wpAny_bind (thn (noE (mt_append _ s8 σ6 H8 (.ref D) [v] (.ref D) [y] (fun _ H9 => ∃ m', m' < n ∧ W (i + 1) m' σ6 H9) I8 rfl (.cons r8 .nil) ⟨D, ys, v, rfl, rfl, hys, hl, q8⟩)) fun _ s9 ⟨_, H9, I9, _, q9⟩ => ?_)
   exact wpAny_pure (wpAny_pure ⟨rfl, again I9 q9⟩)
structure CFree (X : Cx) (pins : List (Addr × Obj)) (H : Hp) (C : Addr) (s : Shared) : Prop where
 none : H C = Option.none
 ne : C ≠ X.env.locals
 above : X.s₀.heap.objs.size ≤ C
 cells : ∀ x c, X.env.cells.lookup x = some c → c ≠ C
 pins : ∀ p ∈ X.pn ++ pins, p.1 ≠ C
 ns : ∃ m, s.heap.Ns C m
theorem comp_block {X : Cx} {pins : List (Addr × Obj)} {σ : St} {elt tg iter : Expr} {ifs : List Expr} {scope : Scope} {pos : Pos} {N : List Str} {k : Nat} {sel : List Nat} {g : TG} {tt : TT} {te : TE} {itv : Value} {s2 : Shared} {QQ : VK} {use : Option (Value → Sem Unit)} {Qv : Value → Shared → Prop}
  (S : CScope X scope) (M : CNames X scope N k sel) (hc : X.calm = true)
  (hg : ∀ C s H fp, PG (ccx X scope N C s H fp) tg g) (ht : ∀ C s H fp, PTs (ccx X scope N C s H fp) ifs tt) (he : ∀ C s H fp, PE (ccx X scope N C s H fp) elt te)
  (fin : ∀ D C s' H', Inv X pins σ H' s' → CFree X pins H' C s' → QQ (.ref D) H' → compPost (model X.prog X.w) X.A X.xe use Qv (.ref D) C (.ok .next) s')
  (h2 : PIE X pins σ tg (fun J H1 => ∀ p, H1 p = none → ∃ W : Nat → Nat → St → Hp → Prop, (∃ m, W 0 m (cst σ k sel) (upd H1 p (.lst []))) ∧ ∀ i m σ2 H2, W i m σ2 H2 →
   (J.stop i H2 ∧ QQ (.ref p) H2) ∨ (J.go i H2 ∧ ∀ x H3, J.yld i H2 x H3 → g x σ2 H3 fun σ4 H4 => tt σ4 H4 fun b H5 =>
    if b = true then te σ4 H5 fun v H6 => ∃ ys, H6 p = some (.lst ys) ∧ ys.length < sizeLine ∧ ∃ m', m' < m ∧ W (i + 1) m' σ4 (upd H6 p (.lst (ys ++ [v]))) else ∃ m', m' < m ∧ W (i + 1) m' σ4 H5)) itv s2) :
  wpAny (model X.prog X.w) X.A (newList []) (fun acc s₃ => wpAny (model X.prog X.w) X.A (newFunctionEnv scope X.env.globals (clOf X.env scope.names []) [] X.env.qual none .none (some X.env)) (fun cenv s₄ =>
   codeAny (model X.prog X.w) X.A (.compStart (.ListComp elt [⟨tg, iter, ifs, 0⟩] scope pos) 0 itv acc { cenv with scope := relabel scope X.env }) (compPost (model X.prog X.w) X.A X.xe use Qv acc cenv.locals) s₄) X.xe s₃) X.xe s2 := by
 obtain ⟨it, fp, tn, J, H2, rfl, I2, T, st2, f2, R2⟩ := h2
 have hD : H2 s2.heap.objs.size = none := I2.hok.fresh (Nat.le_refl _)
 obtain ⟨W, ⟨m0, w0⟩, turn⟩ := R2 _ hD
 refine wpAny_newObj_type ?_
 have I3 := I2.lnew (its := []) (ys := []) (t' := s2.toks) .nil (Nat.zero_le _)
 generalize hs3 : ({ s2 with heap := s2.heap.push { cls := .type "list", data := .seq ([] : List Value).toArray }, toks := s2.toks } : Shared) = s3 at I3
 have e3 : ({ s2 with heap := s2.heap.push { cls := .type "list", dict := none, data := .seq ([] : List Value).toArray } } : Shared) = s3 := by rw [← hs3]
 have up : ∀ b o, s2.heap.get? b = some o → s3.heap.get? b = some o := fun b o e => by rw [← hs3]; exact Heap.get?_push_of_some _ e
 have hsz : s2.heap.objs.size ≤ s3.heap.objs.size := by rw [← hs3]; show _ ≤ (s2.heap.push _).objs.size; rw [Heap.size_push]; exact Nat.le_succ _
 have hlt2 : ∀ b ∈ fp, b < s2.heap.objs.size := fun b hb => by
  obtain ⟨o, e, _⟩ := T.obj _ _ st2 b hb
  exact Heap.lt_size e
 have hlt : ∀ b ∈ fp, b < s3.heap.objs.size := fun b hb => Nat.lt_of_lt_of_le (hlt2 b hb) hsz
 have f3 : ∀ b ∈ fp, FpOk X pins (upd H2 s2.heap.objs.size (.lst [])) b := fun b hb => ⟨by rw [upd_ne (Nat.ne_of_lt (hlt2 b hb))]; exact (f2 b hb).1, (f2 b hb).2⟩
 refine wpAny_newFunctionEnv S.nocell (by intro y hy; simp at hy) (fun h₁ hns₁ hsb₁ => ?_) S.kind
 have up₁ : ∀ b o, s3.heap.get? b = some o → h₁.get? b = some o := fun b o e => hsb₁.extBut b o (Nat.ne_of_lt (Heap.lt_size e)) (Heap.get?_push_of_some _ e)
 have Ic := ccx_inv (N := N) (k := k) (sel := sel) (t' := s3.toks + ([] : List (Str × Value)).length) S M I3 f3 hlt hns₁ up₁
 have st₁ : tn 0 h₁ := T.keep _ _ _ st2 fun b hb o e => up₁ b o (up b o e)
 have fr : ∀ b ∈ fp, (upd H2 s2.heap.objs.size (.lst [])) b = none := fun b hb => (f3 b hb).1
 have loop : codeAny (model X.prog X.w) X.A (.compLoop (.ListComp elt [⟨tg, iter, ifs, 0⟩] scope pos) 0 (.ref it) (.ref s2.heap.objs.size) (compEnvC scope (clOf X.env scope.names []) s3.heap.objs.size X.env))
   (compPost (model X.prog X.w) X.A X.xe use Qv (.ref s2.heap.objs.size) s3.heap.objs.size) { s3 with heap := h₁, toks := s3.toks + ([] : List (Str × Value)).length } := by
  refine comp_loop (X := ccx X scope N s3.heap.objs.size s3 (upd H2 s2.heap.objs.size (.lst [])) fp) (QQ := fun H' => QQ (.ref s2.heap.objs.size) H') (W := W) rfl hc T (hg _ _ _ _) (ht _ _ _ _) (he _ _ _ _) (fun b hb => ?_) turn (fun s' σ' H' I' q' => ?_) m0 ⟨0, cst σ k sel, _, Ic, st₁, fr, w0⟩
  ·refine ⟨Nat.ne_of_lt (hlt b hb), ?_, .inl hb, fun x c h => (f3 b hb).2.2.2.2.1 x c (cl_sub S I3.ok h), fun p hp => absurd (show p ∈ ([] : List (Addr × Obj)) from hp) (by simp)⟩
   exact (ccx_ok (N := N) S I3 f3 hlt).exfs b hb
  ·have Ie : Inv X pins σ H' s' := I3.call' (ch := fp) I'.os I'.base I'.hok I'.bare fun b hb => ⟨(f3 b hb).2.2.2.1, (f3 b hb).2.1, (f3 b hb).2.2.2.2.1, (f3 b hb).2.2.2.2.2⟩
   refine fin _ _ s' H' Ie ⟨I'.free, ?_, Nat.le_trans I3.sz (Nat.le_refl _), fun x c e => ?_, fun p hp => ?_, ?_⟩ q'
   ·exact Ne.symm (Nat.ne_of_lt I3.lt)
   ·obtain ⟨v, o, ho, _⟩ := I3.cell x c e
    exact Nat.ne_of_lt (Heap.lt_size ho)
   ·exact Nat.ne_of_lt (Heap.lt_size (I3.pin p hp).1)
   ·obtain ⟨m, hn, _⟩ := I'.loc
    exact ⟨m, hn⟩
 exact codeAny_compStart_list loop (T.self X.A 0 _ _ _ st₁ loop)
section
variable {X : Cx} {elt tg iter : Expr} {ifs : List Expr} {scope : Scope} {pos : Pos} {N : List Str} {k : Nat} {sel : List Nat} {wi : TI} {g : TG} {tt : TT} {te : TE}
theorem pe_comp (S : CScope X scope) (M : CNames X scope N k sel) (hc : X.calm = true) (hi : PI X tg iter wi)
  (hg : ∀ C s H fp, PG (ccx X scope N C s H fp) tg g) (ht : ∀ C s H fp, PTs (ccx X scope N C s H fp) ifs tt) (he : ∀ C s H fp, PE (ccx X scope N C s H fp) elt te)
  (hs : ∀ x, foldedSetIterable iter X.env x = pure x := by intro _; rfl) : PE X (.ListComp elt [⟨tg, iter, ifs, 0⟩] scope pos) (tComp wi k sel g tt te) := by
 intro pins s σ H Q I h
 rw [eval_ListComp]
 refine wpAny_comprehension_free (use := none) rfl hs (closure_of (S.has I.ok)) S.kind S.names (thn (hi pins s σ H _ I h) fun v s1 h1 => thn h1 fun itv s2 h2 => ?_)
 refine comp_block (QQ := Q) S M hc hg ht he (fun D C s' H' I' F q => ?_) h2
 obtain ⟨m, hn⟩ := F.ns
 exact ⟨m, hn, fun h' hsb => ⟨.ref D, H', I'.turned (t' := s'.toks) (fun b o hb e => hsb.extBut b o hb e) F.none F.ne (.inr F.above) F.cells F.pins, rfl, q⟩⟩
theorem ps_setC {i : Nat} {y : Str} {py spos : Pos} (S : CScope X scope) (M : CNames X scope N k sel) (hc : X.calm = true) (hi : PI X tg iter wi)
  (hg : ∀ C s H fp, PG (ccx X scope N C s H fp) tg g) (ht : ∀ C s H fp, PTs (ccx X scope N C s H fp) ifs tt) (he : ∀ C s H fp, PE (ccx X scope N C s H fp) elt te)
  (hN : X.N.Nodup) (hiy : X.N[i]? = some y) (hy : Loc X.env.scope y)
  (hsw : swapsWith (.ListComp elt [⟨tg, iter, ifs, 0⟩] scope pos) (some (.Name y py)) spos.line X.env = pure true)
  (hs : ∀ x, foldedSetIterable iter X.env x = pure x := by intro _; rfl) (hf : X.fn y = true ∨ X.env.scope.names.lookup y = some .local := by first | exact .inl rfl | exact .inr rfl | assumption) :
  PS X (.Assign [.Name y py] (.ListComp elt [⟨tg, iter, ifs, 0⟩] scope pos) spos) (tAsg (tComp wi k sel g tt te) (gName i)) := by
 intro pins s σ H D I h
 rw [exec_Assign_Name_used _ _ _ _ hsw]
 refine wpAny_bind (wpAny_standAt (wpAny_bind ?_))
 show wpAny _ X.A (do let _ ← comprehension (.ListComp elt [⟨tg, iter, ifs, 0⟩] scope pos) scope X.env _ (newList []) false (eval iter X.env) (some (assign (.Name y py) X.env))) _ _ s
 refine wpAny_bind (wpAny_mono (wpAny_comprehension_free (use := some (assign (.Name y py) X.env)) (Q := fun _ s' => SP X pins D .next s') rfl hs (closure_of (S.has I.ok)) S.kind S.names
  (thn (hi pins s σ H _ I h) fun v s1 h1 => thn h1 fun itv s2 h2 => ?_)) (fun _ s' hq => wpAny_pure (wpAny_pure hq)) fun _ _ e => e)
 refine comp_block (QQ := fun v H1 => D.nx (σ.set i (some v)) H1) S M hc hg ht he (fun Da C s' H' I' F q => ?_) h2
 show wpAny _ X.A (assign (.Name y py) X.env (.ref Da)) _ _ _
 refine wpAny_assign_Name (store_ok2 I' hN hiy hy (v := .ref Da) rfl (fun s'' I'' hch => ?_) hf)
 obtain ⟨m, hn⟩ := F.ns
 obtain ⟨a, hsb, ha⟩ := hch
 have haC : C ≠ a := by
  rcases ha with ha | ha
  ·rw [ha]; exact F.ne
  ·exact Ne.symm (F.cells _ _ ha)
 refine ⟨m, hn.sameBut hsb haC, fun h' hsb' => ⟨σ.set i (some (.ref Da)), H', I''.turned (t' := s''.toks) (fun b o hb e => hsb'.extBut b o hb e) F.none F.ne (.inr F.above) F.cells F.pins, q⟩⟩
end
section
variable {X : Cx}
theorem PE.imp {e : Expr} {t t' : TE} (h : PE X e t) (f : ∀ σ H Q, t' σ H Q → t σ H Q) : PE X e t' := fun pins s σ H Q I q => h pins s σ H Q I (f σ H Q q)
theorem OpR.imp {g : Value → Value → Sem Value} {r r' : R2} (h : OpR X g r) (f : ∀ x y H Q, r' x y H Q → r x y H Q) : OpR X g r' := fun pins s σ H x y v u Q I rx ry q => h pins s σ H x y v u Q I rx ry (f x y H Q q)
theorem IxR.imp {r r' : R2} (h : IxR X r) (f : ∀ x y H Q, r' x y H Q → r x y H Q) : IxR X r' := fun value slice pins s σ H x y v u Q I rx ry q => h value slice pins s σ H x y v u Q I rx ry (f x y H Q q)
theorem SlR.imp {r r' : V → Option Int → Option Int → Hp → VK → Prop} (h : SlR X r) (f : ∀ x lo hi H Q, r' x lo hi H Q → r x lo hi H Q) : SlR X r' := fun pins s σ H x v vl vu lo hi sl Q I rx hs pl pu q => h pins s σ H x v vl vu lo hi sl Q I rx hs pl pu (f x lo hi H Q q)
def cVar (i : Nat) : TE := fun σ H Q => match σ[i]? with | some (some v) => Q v H | _ => False
theorem cVar_of {i : Nat} {σ : St} {H : Hp} {Q : VK} (h : cVar i σ H Q) : tVar i σ H Q := by
 unfold cVar at h
 split at h
 ·exact ⟨_, by assumption, h⟩
 ·exact h.elim
theorem cv (i : Nat) {x : Str} {pos : Pos} (hN : X.N[i]? = some x := by rfl) (hv : Vis X.env.scope x := by first | exact Or.inl rfl | exact Or.inr (Or.inl rfl) | exact Or.inr (Or.inr rfl)) (hd : (x == ("__debug__" : Str)) = false := by decide)
  (hcd : (x == ("__classdict__" : Str)) = false := by decide) : PE X (.Name x pos) (cVar i) := (pe_var hN hv hd hcd).imp fun _ _ _ h => cVar_of h
def cI2 (f : Int → Int → V) : R2 := fun x y H Q => match x, y with | .int i, .int j => Q (f i j) H | _, _ => False
def cI2c (C : Int → Int → Prop) (f : Int → Int → V) : R2 := fun x y H Q => match x, y with | .int i, .int j => C i j ∧ Q (f i j) H | _, _ => False
theorem cI2_of {f : Int → Int → V} {x y : V} {H : Hp} {Q : VK} (h : cI2 f x y H Q) : rI0 f x y H Q := by
 cases x <;> cases y <;> first | exact False.elim h | exact ⟨_, _, rfl, rfl, h⟩
theorem cI2c_of {C : Int → Int → Prop} {f : Int → Int → V} {x y : V} {H : Hp} {Q : VK} (h : cI2c C f x y H Q) : rI C f x y H Q := by
 cases x <;> cases y <;> first | exact False.elim h | exact ⟨_, _, rfl, rfl, h.1, h.2⟩
theorem o_sub : OpR X (binaryOp .Sub) (cI2 fun i j => .int (i - j)) := op_sub.imp fun _ _ _ _ h => cI2_of h
theorem o_fdiv : OpR X (binaryOp .FloorDiv) (cI2c CDiv fun i j => .int (i / j)) := op_fdiv.imp fun _ _ _ _ h => cI2c_of h
theorem o_mod : OpR X (binaryOp .Mod) (cI2c (fun _ j => 0 < j) fun i j => .int (i % j)) := op_mod.imp fun _ _ _ _ h => cI2c_of h
theorem o_shl : OpR X (binaryOp .LShift) (cI2c CPow fun i j => .int (i * 2 ^ j.toNat)) := op_shl.imp fun _ _ _ _ h => cI2c_of h
theorem o_shr : OpR X (binaryOp .RShift) (cI2c (fun _ j => 0 ≤ j) fun i j => .int (i / 2 ^ j.toNat)) := op_shr.imp fun _ _ _ _ h => cI2c_of h
theorem o_and : OpR X (binaryOp .BitAnd) (cI2 fun i j => .int (Builtin.bitAnd i j)) := op_and.imp fun _ _ _ _ h => cI2_of h
theorem o_lt : OpR X (compareOp .Lt) (cI2 fun i j => .bl (decide (i < j))) := op_lt.imp fun _ _ _ _ h => cI2_of h
theorem o_le : OpR X (compareOp .LtE) (cI2 fun i j => .bl (decide (i ≤ j))) := op_le.imp fun _ _ _ _ h => cI2_of h
theorem o_gt : OpR X (compareOp .Gt) (cI2 fun i j => .bl (decide (j < i))) := op_gt.imp fun _ _ _ _ h => cI2_of h
def cAdd : R2 := fun x y H Q => match x, y with
 | .int i, .int j => Q (.int (i + j)) H
 | .str i, .str j => i.length + j.length ≤ sizeLine ∧ Q (.str (i ++ j)) H
 | .ref l, .ref b => ∃ xs zs, H l = some (.lst xs) ∧ H b = some (.lst zs) ∧ xs.length + zs.length ≤ sizeLine ∧ ∀ p, H p = none → Q (.ref p) (upd H p (.lst (xs ++ zs)))
 | _, _ => False
theorem o_add : OpR X (binaryOp .Add) cAdd := by
 intro pins s σ H x y v u Q I rx ry h
 cases x <;> cases y <;> first
  | exact False.elim h
  | exact op_add pins s σ H _ _ v u Q I rx ry ⟨_, _, rfl, rfl, h⟩
  | exact op_add_str pins s σ H _ _ v u Q I rx ry ⟨_, _, rfl, rfl, h.1, h.2⟩
  | (obtain ⟨xs, zs, h1, h2, h3, h4⟩ := h; exact op_cat pins s σ H _ _ v u Q I rx ry ⟨_, _, xs, zs, rfl, rfl, h1, h2, h3, h4⟩)
inductive DeepEq (K : PySem.W.Frag) (H : Hp) : Nat → V → V → Prop where
 | flat {n : Nat} {x : V} (f : flatV x = true) : DeepEq K H n x x
 | lst {n : Nat} {a b : Addr} {xs ys : List V} (h1 : SqL K H a xs) (h2 : SqL K H b ys) (hl : xs.length = ys.length) (h : ∀ (i : Nat) x y, xs[i]? = some x → ys[i]? = some y → DeepEq K H n x y) : DeepEq K H (n + 1) (.ref a) (.ref b)
 | tup {n : Nat} {a b : Addr} {xs ys : List V} (h1 : SqT K H a xs) (h2 : SqT K H b ys) (hl : xs.length = ys.length) (h : ∀ (i : Nat) x y, xs[i]? = some x → ys[i]? = some y → DeepEq K H n x y) : DeepEq K H (n + 1) (.ref a) (.ref b)
theorem isListOf {pins : List (Addr × Obj)} {σ : St} {H : Hp} {s : Shared} {a : Addr} {xs : List V} (I : Inv X pins σ H s) (h : SqL X.K H a xs) : ∃ its : List Value, Vals xs its ∧ s.heap.IsList a its.toArray := by
 obtain ⟨its, r, p, _⟩ := I.list h
 exact ⟨its, r, p.isList⟩
theorem units_in1 {A : Around} {n : Nat} (h : A.units + (n + 1) < cLine) : A.in1.units + n < cLine := by
 have e : A.in1.units = A.units + 1 := rfl
 omega
theorem deep_rc {pins : List (Addr × Obj)} {σ : St} {H : Hp} {s : Shared} (I : Inv X pins σ H s) : ∀ {n : Nat} {x y : V}, DeepEq X.K H n x y → ∀ (A : Around) {u v : Value}, A.units + n < cLine → RelV x u → RelV y v → SeqAt.EqAt A s u v true
 | _, _, _, .flat f, A, u, v, hu, rx, ry => by
  have e := eqAt_V (A := A) (s := s) rx ry f f
  rename_i n x
  have q : eqV x x = true := by cases x <;> first | rfl | (simp [eqV]; done) | exact absurd f (by simp [flatV])
  rw [q] at e
  exact e
 | _, _, _, @DeepEq.lst _ _ n a b xs ys h1 h2 hl h, A, u, v, hu, rx, ry => by
  cases rx; cases ry
  by_cases hab : a = b
  ·subst hab; exact SeqAt.EqAt.same _
  ·obtain ⟨its, r1, p1⟩ := isListOf I h1
   obtain ⟨its2, r2, p2⟩ := isListOf I h2
   have e1 := r1.length
   have e2 := r2.length
   have q := SeqAt.RcAt.lists (A := A) (e := fun _ => true) p1 p2 (by simp; omega) (by omega) (fun j j1 j2 => by
    have j1' : j < its.length := by simpa using j1
    have j2' : j < its2.length := by simpa using j2
    obtain ⟨w1, q1, s1⟩ := r1.get (i := j) (x := xs[j]'(by omega)) (by simp)
    obtain ⟨w2, q2, s2⟩ := r2.get (i := j) (x := ys[j]'(by omega)) (by simp)
    have z1 : its.toArray[j] = w1 := by
     have := List.getElem?_eq_some_iff.mp q1
     obtain ⟨_, z⟩ := this
     simpa using z
    have z2 : its2.toArray[j] = w2 := by
     have := List.getElem?_eq_some_iff.mp q2
     obtain ⟨_, z⟩ := this
     simpa using z
    rw [z1, z2]
    exact deep_rc I (h j _ _ (by simp) (by simp)) A.in1 (units_in1 hu) s1 s2)
   have : ((List.range its.toArray.size).all fun _ => true) = true := by simp
   rw [this] at q
   exact SeqAt.EqAt.of_refs hab q
 | _, _, _, @DeepEq.tup _ _ n a b xs ys h1 h2 hl h, A, u, v, hu, rx, ry => by
  cases rx; cases ry
  by_cases hab : a = b
  ·subst hab; exact SeqAt.EqAt.same _
  ·obtain ⟨its, r1, p1, _⟩ := I.tuple h1
   obtain ⟨its2, r2, p2, _⟩ := I.tuple h2
   have e1 := r1.length
   have e2 := r2.length
   have q := SeqAt.RcAt.tuples (A := A) (e := fun _ => true) p1 p2 (by omega) (fun j j1 j2 => by
    have j1' : j < its.length := by simpa using j1
    have j2' : j < its2.length := by simpa using j2
    obtain ⟨w1, q1, s1⟩ := r1.get (i := j) (x := xs[j]'(by omega)) (by simp)
    obtain ⟨w2, q2, s2⟩ := r2.get (i := j) (x := ys[j]'(by omega)) (by simp)
    have z1 : its.toArray[j] = w1 := by
     have := List.getElem?_eq_some_iff.mp q1
     obtain ⟨_, z⟩ := this
     simpa using z
    have z2 : its2.toArray[j] = w2 := by
     have := List.getElem?_eq_some_iff.mp q2
     obtain ⟨_, z⟩ := this
     simpa using z
    rw [z1, z2]
    exact deep_rc I (h j _ _ (by simp) (by simp)) A.in1 (units_in1 hu) s1 s2)
   have : (((List.range (min its.toArray.size its2.toArray.size)).all fun _ => true) && its.toArray.size == its2.toArray.size) = true := by simp; omega
   rw [this] at q
   exact SeqAt.EqAt.of_refs hab q
end
section
variable {X : Cx} {a b c : Expr} {ta tb tc : TE} {pos : Pos}
def eqVs (xs ys : List V) : Bool := xs.length == ys.length && (List.range xs.length).all fun i => eqV (xs.getD i .non) (ys.getD i .non)
theorem eqVs_range {xs ys : List V} {us ws : List Value} (r1 : Vals xs us) (r2 : Vals ys ws) (f1 : xs.all flatV = true) (f2 : ys.all flatV = true) (A : Around) (s : Shared) :
  ∀ j (h1 : j < us.toArray.size) (h2 : j < ws.toArray.size), SeqAt.EqAt A s us.toArray[j] ws.toArray[j] (eqV (xs.getD j .non) (ys.getD j .non)) := fun j j1 j2 => by
 have e1 := r1.length
 have e2 := r2.length
 have j1' : j < us.length := by simpa using j1
 have j2' : j < ws.length := by simpa using j2
 have x1 : j < xs.length := by omega
 have y1 : j < ys.length := by omega
 obtain ⟨w1, q1, s1⟩ := r1.get (i := j) (x := xs[j]) (by simp)
 obtain ⟨w2, q2, s2⟩ := r2.get (i := j) (x := ys[j]) (by simp)
 have z1 : us.toArray[j] = w1 := by
  obtain ⟨_, z⟩ := List.getElem?_eq_some_iff.mp q1
  simpa using z
 have z2 : ws.toArray[j] = w2 := by
  obtain ⟨_, z⟩ := List.getElem?_eq_some_iff.mp q2
  simpa using z
 rw [z1, z2]
 have g1 : xs.getD j .non = xs[j] := by simp [List.getD, x1]
 have g2 : ys.getD j .non = ys[j] := by simp [List.getD, y1]
 rw [g1, g2]
 exact eqAt_V s1 s2 (List.all_eq_true.mp f1 _ (List.getElem_mem _)) (List.all_eq_true.mp f2 _ (List.getElem_mem _))
def EqRef (K : PySem.W.Frag) (H : Hp) (p q : Addr) (k : Bool) : Prop :=
 (k = true ∧ DeepEq K H 4 (.ref p) (.ref q)) ∨
 (∃ xs ys, SqL K H p xs ∧ SqL K H q ys ∧ xs.all flatV = true ∧ ys.all flatV = true ∧ k = eqVs xs ys) ∨
 (k = false ∧ ∃ xs ys, SqL K H p xs ∧ SqL K H q ys ∧ xs.length ≠ ys.length) ∨
 (∃ xs ys, SqT K H p xs ∧ SqT K H q ys ∧ xs.all flatV = true ∧ ys.all flatV = true ∧ k = eqVs xs ys)
theorem eqRef_rc {pins : List (Addr × Obj)} {σ : St} {H : Hp} {s : Shared} {p q : Addr} {k : Bool} (I : Inv X pins σ H s) (hu : X.A.units + 8 < cLine) (h : EqRef X.K H p q k) :
  SeqAt.RcAt X.A s (.ref p) (.ref q) k ∧ SeqAt.RcNeAt X.A s (.ref p) (.ref q) (!k) := by
 have deep : ∀ {xs ys : List V} {n : Nat}, n ≤ 4 → (SqL X.K H p xs ∧ SqL X.K H q ys ∨ SqT X.K H p xs ∧ SqT X.K H q ys) → xs.length = ys.length → (∀ (i : Nat) x y, xs[i]? = some x → ys[i]? = some y → DeepEq X.K H n x y) →
   SeqAt.RcAt X.A s (.ref p) (.ref q) true ∧ SeqAt.RcNeAt X.A s (.ref p) (.ref q) (!true) := fun {xs ys n} hn hq hl hd => by
  have items : ∀ {us ws : List Value}, Vals xs us → Vals ys ws → ∀ j (h1 : j < us.toArray.size) (h2 : j < ws.toArray.size), SeqAt.EqAt X.A.in1 s us.toArray[j] ws.toArray[j] true := fun {us ws} r1 r2 j j1 j2 => by
   have e1 := r1.length
   have e2 := r2.length
   have j1' : j < us.length := by simpa using j1
   have j2' : j < ws.length := by simpa using j2
   obtain ⟨w1, q1, s1⟩ := r1.get (i := j) (x := xs[j]'(by omega)) (by simp)
   obtain ⟨w2, q2, s2⟩ := r2.get (i := j) (x := ys[j]'(by omega)) (by simp)
   have z1 : us.toArray[j] = w1 := by
    obtain ⟨_, z⟩ := List.getElem?_eq_some_iff.mp q1
    simpa using z
   have z2 : ws.toArray[j] = w2 := by
    obtain ⟨_, z⟩ := List.getElem?_eq_some_iff.mp q2
    simpa using z
   rw [z1, z2]
   exact deep_rc I (hd j _ _ (by simp) (by simp)) X.A.in1 (by have e : X.A.in1.units = X.A.units + 1 := rfl; omega) s1 s2
  rcases hq with ⟨h1, h2⟩ | ⟨h1, h2⟩
  ·obtain ⟨its, r1, p1⟩ := isListOf I h1
   obtain ⟨its2, r2, p2⟩ := isListOf I h2
   have e1 := r1.length
   have e2 := r2.length
   have z : ((List.range its.toArray.size).all fun _ => true) = true := by simp
   have a1 := SeqAt.RcAt.lists (A := X.A) (e := fun _ => true) p1 p2 (by simp; omega) (by omega) (items r1 r2)
   have a2 := SeqAt.RcNeAt.lists (A := X.A) (e := fun _ => true) p1 p2 (by simp; omega) (by omega) (items r1 r2)
   rw [z] at a1 a2
   exact ⟨a1, a2⟩
  ·obtain ⟨its, r1, p1, _⟩ := I.tuple h1
   obtain ⟨its2, r2, p2, _⟩ := I.tuple h2
   have e1 := r1.length
   have e2 := r2.length
   have z : (((List.range (min its.toArray.size its2.toArray.size)).all fun _ => true) && its.toArray.size == its2.toArray.size) = true := by simp; omega
   have a1 := SeqAt.RcAt.tuples (A := X.A) (e := fun _ => true) p1 p2 (by omega) (items r1 r2)
   have a2 := SeqAt.RcNeAt.tuples (A := X.A) (e := fun _ => true) p1 p2 (by omega) (items r1 r2)
   rw [z] at a1 a2
   exact ⟨a1, a2⟩
 have flatL : ∀ {xs ys : List V}, SqL X.K H p xs → SqL X.K H q ys → xs.length ≠ ys.length → SeqAt.RcAt X.A s (.ref p) (.ref q) false ∧ SeqAt.RcNeAt X.A s (.ref p) (.ref q) (!false) := fun {xs ys} h1 h2 hl => by
  obtain ⟨its, r1, p1⟩ := isListOf I h1
  obtain ⟨its2, r2, p2⟩ := isListOf I h2
  have e1 := r1.length
  have e2 := r2.length
  have z : (its.toArray.size != its2.toArray.size) = true := by simp; omega
  exact ⟨SeqAt.RcAt.lists_lengths p1 p2 z (by omega), SeqAt.RcNeAt.lists_lengths p1 p2 z (by omega)⟩
 rcases h with ⟨rfl, h⟩ | ⟨xs, ys, h1, h2, f1, f2, rfl⟩ | ⟨rfl, xs, ys, h1, h2, hl⟩ | ⟨xs, ys, h1, h2, f1, f2, rfl⟩
 ·cases h with
  | flat f => simp [flatV] at f
  | lst h1 h2 hl hd => exact deep (by decide) (.inl ⟨h1, h2⟩) hl hd
  | tup h1 h2 hl hd => exact deep (by decide) (.inr ⟨h1, h2⟩) hl hd
 ·by_cases hl : xs.length = ys.length
  ·obtain ⟨its, r1, p1⟩ := isListOf I h1
   obtain ⟨its2, r2, p2⟩ := isListOf I h2
   have e1 := r1.length
   have e2 := r2.length
   have z : eqVs xs ys = (List.range its.toArray.size).all fun i => eqV (xs.getD i .non) (ys.getD i .non) := by
    unfold eqVs
    rw [List.size_toArray, ← e1, hl]
    simp
   rw [z]
   exact ⟨SeqAt.RcAt.lists p1 p2 (by simp; omega) (by omega) (eqVs_range r1 r2 f1 f2 _ _), SeqAt.RcNeAt.lists p1 p2 (by simp; omega) (by omega) (eqVs_range r1 r2 f1 f2 _ _)⟩
  ·have z : eqVs xs ys = false := by unfold eqVs; simp [hl]
   rw [z]
   exact flatL h1 h2 hl
 ·exact flatL h1 h2 hl
 ·obtain ⟨its, r1, p1, _⟩ := I.tuple h1
  obtain ⟨its2, r2, p2, _⟩ := I.tuple h2
  have e1 := r1.length
  have e2 := r2.length
  by_cases hl : xs.length = ys.length
  ·have z : eqVs xs ys = ((List.range (min its.toArray.size its2.toArray.size)).all (fun i => eqV (xs.getD i .non) (ys.getD i .non)) && its.toArray.size == its2.toArray.size) := by
    unfold eqVs
    rw [List.size_toArray, List.size_toArray, ← e1, ← e2, hl]
    simp
   rw [z]
   exact ⟨SeqAt.RcAt.tuples p1 p2 (by omega) (eqVs_range r1 r2 f1 f2 _ _), SeqAt.RcNeAt.tuples p1 p2 (by omega) (eqVs_range r1 r2 f1 f2 _ _)⟩
  ·have z : eqVs xs ys = ((List.range (min its.toArray.size its2.toArray.size)).all (fun i => eqV (xs.getD i .non) (ys.getD i .non)) && its.toArray.size == its2.toArray.size) := by
    have z1 : eqVs xs ys = false := by unfold eqVs; simp [hl]
    have z2 : (its.toArray.size == its2.toArray.size) = false := by simp; omega
    rw [z1, z2, Bool.and_false]
   rw [z]
   exact ⟨SeqAt.RcAt.tuples p1 p2 (by omega) (eqVs_range r1 r2 f1 f2 _ _), SeqAt.RcNeAt.tuples p1 p2 (by omega) (eqVs_range r1 r2 f1 f2 _ _)⟩
def cEq (K : PySem.W.Frag) : R2 := fun x y H Q => match x, y with
 | .int i, .int j => Q (.bl (decide (i = j))) H
 | .bl i, .bl j => Q (.bl (decide (i = j))) H
 | .str i, .str j => Q (.bl (decide (i = j))) H
 | .non, .non => Q (.bl true) H
 | .non, .int _ => Q (.bl false) H
 | .int _, .non => Q (.bl false) H
 | .non, .str _ => Q (.bl false) H
 | .str _, .non => Q (.bl false) H
 | .non, .bl _ => Q (.bl false) H
 | .bl _, .non => Q (.bl false) H
 | .ref p, .ref q => ∃ k, EqRef K H p q k ∧ Q (.bl k) H
 | _, _ => False
def cNe (K : PySem.W.Frag) : R2 := fun x y H Q => match x, y with
 | .int i, .int j => Q (.bl (!decide (i = j))) H
 | .bl i, .bl j => Q (.bl (!decide (i = j))) H
 | .str i, .str j => Q (.bl (!decide (i = j))) H
 | .non, .non => Q (.bl false) H
 | .non, .int _ => Q (.bl true) H
 | .int _, .non => Q (.bl true) H
 | .non, .str _ => Q (.bl true) H
 | .str _, .non => Q (.bl true) H
 | .non, .bl _ => Q (.bl true) H
 | .bl _, .non => Q (.bl true) H
 | .ref p, .ref q => ∃ k, EqRef K H p q k ∧ Q (.bl (!k)) H
 | _, _ => False
theorem dcI {i j : Int} : decide (V.int i = V.int j) = decide (i = j) := by rw [decide_eq_decide]; exact ⟨V.int.inj, congrArg _⟩
theorem dcB {i j : Bool} : decide (V.bl i = V.bl j) = decide (i = j) := by rw [decide_eq_decide]; exact ⟨V.bl.inj, congrArg _⟩
theorem dcS {i j : Str} : decide (V.str i = V.str j) = decide (i = j) := by rw [decide_eq_decide]; exact ⟨V.str.inj, congrArg _⟩
theorem o_eq (hu : X.A.units + 8 < cLine) : OpR X (compareOp .Eq) (cEq X.K) := by
  intro pins s σ H x y v u Q I rx ry h
  have go : rEq x y H Q → wpAny (model X.prog X.w) X.A (compareOp .Eq v u) (EP X pins σ Q) X.xe s := fun q => op_eq pins s σ H _ _ v u Q I rx ry q
  cases x <;> cases y <;> first
    | exact False.elim h
    | exact go ⟨rfl, h⟩
    | exact go ⟨rfl, by rw [dcI]; exact h⟩
    | exact go ⟨rfl, by rw [dcB]; exact h⟩
    | exact go ⟨rfl, by rw [dcS]; exact h⟩
    | (obtain ⟨k, e, q⟩ := h
       cases rx; cases ry
       exact (eqRef_rc I hu e).1 _ _ _ _ ⟨.bl k, H, I, rfl, q⟩)
theorem o_ne (hu : X.A.units + 8 < cLine) : OpR X (compareOp .NotEq) (cNe X.K) := by
  intro pins s σ H x y v u Q I rx ry h
  have go : rNe x y H Q → wpAny (model X.prog X.w) X.A (compareOp .NotEq v u) (EP X pins σ Q) X.xe s := fun q => op_ne pins s σ H _ _ v u Q I rx ry q
  cases x <;> cases y <;> first
    | exact False.elim h
    | exact go ⟨rfl, h⟩
    | exact go ⟨rfl, by rw [dcI]; exact h⟩
    | exact go ⟨rfl, by rw [dcB]; exact h⟩
    | exact go ⟨rfl, by rw [dcS]; exact h⟩
    | (obtain ⟨k, e, q⟩ := h
       cases rx; cases ry
       exact (eqRef_rc I hu e).2 _ _ _ _ ⟨.bl (!k), H, I, rfl, q⟩)
def cIsNot : R2 := fun x y H Q => match x, y with
 | .bl i, .bl j => Q (.bl (!decide (i = j))) H
 | x, .non => Q (.bl (!decide (x = .non))) H
 | _, _ => False
def strIn (i j : Str) : Bool := !(Builtin.Str.occurrences j i 0 j.length 1).isEmpty
def cIn (K : PySem.W.Frag) (neg : Bool) : R2 := fun x y H Q => match y with
 | .ref p => ∃ xs, (SqL K H p xs ∨ SqT K H p xs) ∧ flatV x = true ∧ xs.all flatV = true ∧ Q (.bl (if neg then !inV x xs else inV x xs)) H
 | .str j => match x with | .str i => Q (.bl (if neg then !strIn i j else strIn i j)) H | _ => False
 | _ => False
theorem o_notin : OpR X (compareOp .NotIn) (cIn X.K true) := by
 intro pins s σ H x y v u Q I rx ry h
 cases y with
 | ref p =>
  obtain ⟨xs, h1, h2, h3, q⟩ := h
  exact op_notIn_seq pins s σ H _ _ v u Q I rx ry ⟨p, xs, rfl, h1, h2, h3, q⟩
 | str j =>
  cases x with
  | str i => exact op_notIn_str pins s σ H _ _ v u Q I rx ry ⟨i, j, rfl, rfl, h⟩
  | _ => exact False.elim h
 | _ => exact False.elim h
def cBool (x : V) (k : Bool → Prop) : Prop := match x with | .bl b => k b | _ => False
theorem cBool_of {x : V} {k : Bool → Prop} (h : cBool x k) : ∃ b, x = .bl b ∧ k b := by
 cases x <;> first | exact False.elim h | exact ⟨_, rfl, h⟩
def cTst (t : TE) : TT := fun σ H Q => t σ H fun x H' => cBool x fun k => Q k H'
def cTru (K : PySem.W.Frag) (t : TE) : TT := fun σ H Q => t σ H fun x H' => match x with
 | .non => Q false H'
 | .bl b => Q b H'
 | .int i => Q (decide (i ≠ 0)) H'
 | .str y => y.length ≤ sizeLine ∧ Q (decide (y.length ≠ 0)) H'
 | .ref p => ∃ k, TruV K (.ref p) H' k ∧ Q k H'
 | .byt p => ∃ k, TruV K (.byt p) H' k ∧ Q k H'
 | _ => False
theorem pt_tru {t : TE} (ha : PE X a t) (he : ∀ whole, isTrue a X.env whole = (do let v ← whole; standAt a.pos; holding [v] (truthy v)) := by intro _; rfl) : PT X a (cTru X.K t) := by
 have h := pt_truth ha he
 have e : cTru X.K t = (fun σ H Q => t σ H fun x H' => ∃ k, TruV X.K x H' k ∧ Q k H') := by
  funext σ H Q
  unfold cTru
  congr 1
  funext x H'
  apply propext
  cases x with
  | non => exact ⟨fun q => ⟨false, rfl, q⟩, fun ⟨k, h1, h2⟩ => by have h1 : k = false := h1; subst h1; exact h2⟩
  | bl b => exact ⟨fun q => ⟨b, rfl, q⟩, fun ⟨k, h1, h2⟩ => by have h1 : k = b := h1; subst h1; exact h2⟩
  | int i =>
   have z : decide (i ≠ 0) = (i != 0) := by by_cases e : i = 0 <;> simp [e]
   exact ⟨fun q => ⟨decide (i ≠ 0), z, q⟩, fun ⟨k, h1, h2⟩ => by have h1 : k = (i != 0) := h1; rw [← z] at h1; subst h1; exact h2⟩
  | str y =>
   have z : decide (y.length ≠ 0) = ((y.length : Int) != 0) := by
    by_cases e : y.length = 0
    ·simp [e]
    ·have : (y.length : Int) ≠ 0 := by omega
     simp [e, this]
   exact ⟨fun q => ⟨decide (y.length ≠ 0), ⟨q.1, z⟩, q.2⟩, fun ⟨k, h1, h2⟩ => by
    have h1 : y.length ≤ sizeLine ∧ k = ((y.length : Int) != 0) := h1
    obtain ⟨h0, h1⟩ := h1
    rw [← z] at h1; subst h1; exact ⟨h0, h2⟩⟩
  | ref p => exact Iff.rfl
  | byt y => exact Iff.rfl
  | flt y => exact ⟨fun q => q.elim, fun ⟨k, h1, h2⟩ => h1.elim⟩
  | ty y => exact ⟨fun q => q.elim, fun ⟨k, h1, h2⟩ => h1.elim⟩
 rw [e]
 exact h
theorem cBool_eq {x : V} {k : Bool → Prop} : cBool x k = ∃ b, x = .bl b ∧ k b := propext ⟨cBool_of, fun ⟨b, e, q⟩ => by subst e; exact q⟩
theorem cTst_eq (t : TE) : cTst t = tTest t := by
 funext σ H Q
 unfold cTst tTest
 congr 1
 funext x H'
 exact cBool_eq
theorem t_cmp {op : CmpOp} {r : R2} (ho : OpR X (compareOp op) r) (ha : PE X a ta) (hb : PE X b tb) (hm : behindInMarks op b = false) : PT X (.Compare a [op] [b] pos) (cTst (tOp r ta tb)) := by
 rw [cTst_eq]
 exact pt_cmpR ho ha hb hm
def cChain (r r' : R2) (ta tb tc : TE) : TE := fun σ H Q => ta σ H fun x H1 => tb σ H1 fun y H2 => r x y H2 fun z H3 => cBool z fun k =>
 (if k = true then tc σ H3 fun w' H4 => r' y w' H4 Q else Q (.bl false) H3)
theorem cChain_eq (r r' : R2) (ta tb tc : TE) : cChain r r' ta tb tc = tChain r r' ta tb tc := by
 funext σ H Q
 unfold cChain tChain
 congr 1
 funext x H1
 congr 1
 funext y H2
 congr 1
 funext z H3
 exact cBool_eq
theorem e_chain {op op' : CmpOp} {r r' : R2} (ho : OpR X (compareOp op) r) (ho' : OpR X (compareOp op') r') (ha : PE X a ta) (hb : PE X b tb) (hc : PE X c tc)
  (hm : lastMarks [op, op'] [b, c] = false := by with_unfolding_all rfl) : PE X (.Compare a [op, op'] [b, c] pos) (cChain r r' ta tb tc) := by
 rw [cChain_eq]
 exact pe_chain ho ho' ha hb hc hm
def cAndV (ta tb : TE) : TE := fun σ H Q => ta σ H fun x H1 => cBool x fun c => if c = true then tb σ H1 Q else Q (.bl false) H1
def cNotV (ta : TE) : TE := fun σ H Q => ta σ H fun x H1 => cBool x fun c => Q (.bl (!c)) H1
theorem cAndV_eq (ta tb : TE) : cAndV ta tb = tAndV ta tb := by
 funext σ H Q
 unfold cAndV tAndV
 congr 1
 funext x H'
 exact cBool_eq
theorem cNotV_eq (ta : TE) : cNotV ta = tNotV ta := by
 funext σ H Q
 unfold cNotV tNotV
 congr 1
 funext x H'
 exact cBool_eq
variable {rest : List Expr}
theorem e_and (ha : PE X a ta) (hb : PE X (.BoolOp .And (b :: rest) pos) tb) : PE X (.BoolOp .And (a :: b :: rest) pos) (cAndV ta tb) := by
 rw [cAndV_eq]
 exact pe_and ha hb
theorem e_not (ha : PE X a ta) : PE X (.UnaryOp .Not a pos) (cNotV ta) := by
 rw [cNotV_eq]
 exact pe_not ha
def cIx (K : PySem.W.Frag) : R2 := fun x y H Q => match x, y with
 | .ref p, .int i => ∃ xs v, (SqL K H p xs ∨ SqT K H p xs) ∧ atI xs i = some v ∧ Q v H
 | .str z, .int i => z.length ≤ sizeLine ∧ ∃ c, atI z.cps.toList i = some c ∧ Q (.str ⟨#[c]⟩) H
 | _, _ => False
theorem i_seq : IxR X (cIx X.K) := ix_seq.imp fun x y H Q h => by
  cases x <;> cases y <;> first
    | exact False.elim h
    | (obtain ⟨xs, v, h1 | h1, h2, h3⟩ := h
       · exact .inl ⟨_, xs, _, v, rfl, rfl, h1, h2, h3⟩
       · exact .inr (.inl ⟨_, xs, _, v, rfl, rfl, h1, h2, h3⟩))
    | (obtain ⟨h1, c, h2, h3⟩ := h
       exact .inr (.inr ⟨_, _, c, rfl, rfl, h1, h2, h3⟩))
def cSlL (K : PySem.W.Frag) : V → Option Int → Option Int → Hp → VK → Prop := fun x lo hi H Q => match x with
 | .ref p => ∃ xs, SqL K H p xs ∧ ∀ q, H q = none → Q (.ref q) (upd H q (.lst (cutV xs lo hi)))
 | _ => False
theorem s_list : SlR X (cSlL X.K) := sl_list.imp fun x lo hi H Q h => by
 cases x <;> first | exact False.elim h | (obtain ⟨xs, h1, h2⟩ := h; exact ⟨_, xs, rfl, h1, h2⟩)
def cLen (K : PySem.W.Frag) : List V → Hp → VK → Prop := fun vs H Q => match vs with
 | [.str z] => z.length ≤ sizeLine ∧ Q (.int z.length) H
 | [.ref p] => (∃ ys, (SqL K H p ys ∨ SqT K H p ys) ∧ Q (.int ys.length) H) ∨ ∃ kvs, H p = some (.dK kvs) ∧ Q (.int kvs.length) H
 | _ => False
theorem c_len : CallR X (.builtin "len") (cLen X.K) := by
 intro pins s σ H xs us Q I r h
 match xs, h with
 | [.str z], h => exact call_len_str pins s σ H _ us Q I r ⟨z, rfl, h.1, h.2⟩
 | [.ref p], h =>
  rcases h with ⟨ys, h1, h2⟩ | ⟨kvs, h1, h2⟩
  ·exact call_len_seq pins s σ H _ us Q I r ⟨p, ys, rfl, h1, h2⟩
  ·exact call_lenD pins s σ H _ us Q I r ⟨p, kvs, rfl, h1, h2⟩
def cList (K : PySem.W.Frag) : List V → Hp → VK → Prop := fun vs H Q => match vs with
 | [.ref p] => ∃ ys, (SqL K H p ys ∨ SqT K H p ys) ∧ ∀ l, H l = none → Q (.ref l) (upd H l (.lst ys))
 | _ => False
theorem c_list : CallR X (.type "list") (cList X.K) := by
 intro pins s σ H xs us Q I r h
 match xs, h with
 | [.ref p], h =>
  obtain ⟨ys, h1, h2⟩ := h
  exact call_list_of pins s σ H _ us Q I r ⟨p, ys, rfl, h1, h2⟩
def cTuple (K : PySem.W.Frag) : List V → Hp → VK → Prop := fun vs H Q => match vs with
 | [.ref p] => ∃ ys, ((SqL K H p ys ∧ ∀ l, H l = none → Q (.ref l) (upd H l (.tup ys))) ∨ (SqT K H p ys ∧ Q (.ref p) H))
 | _ => False
theorem c_tuple : CallR X (.type "tuple") (cTuple X.K) := by
 intro pins s σ H xs us Q I r h
 match xs, h with
 | [.ref p], h =>
  obtain ⟨ys, h1⟩ := h
  exact call_tuple_of pins s σ H _ us Q I r ⟨p, ys, rfl, h1⟩
def cMin : List V → Hp → VK → Prop := fun vs H Q => match vs with
 | [.int i, .int j] => Q (.int (if j < i then j else i)) H
 | _ => False
theorem c_min (hc : X.calm = true) : CallR X (.builtin "min") cMin := by
 intro pins s σ H xs us Q I r h
 match xs, h with
 | [.int i, .int j], h => exact call_min2 hc pins s σ H _ us Q I r ⟨i, j, rfl, h⟩
def cMax : List V → Hp → VK → Prop := fun vs H Q => match vs with
 | [.int i, .int j] => Q (.int (if j > i then j else i)) H
 | _ => False
theorem c_max (hc : X.calm = true) : CallR X (.builtin "max") cMax := by
 intro pins s σ H xs us Q I r h
 match xs, h with
 | [.int i, .int j], h => exact call_max2 hc pins s σ H _ us Q I r ⟨i, j, rfl, h⟩
def cIsinst (K : PySem.W.Frag) : List V → Hp → VK → Prop := fun vs H Q => match vs with
 | [x, .ty T] => ∃ t b, TyOf K H x t ∧ PySem.W.kitOne K t (.type T) = some b ∧ Q (.bl b) H
 | [x, .ref C] => ∃ t b, TyOf K H x t ∧ PySem.W.kitOne K t (.ref C) = some b ∧ Q (.bl b) H
 | _ => False
theorem c_isinst : CallR X (.builtin "isinstance") (cIsinst X.K) := by
 intro pins s σ H xs us Q I r h
 match xs, h with
 | [x, .ty T], h =>
  obtain ⟨t, k, h1, h2, h3⟩ := h
  obtain ⟨u, w', rfl, r1, r2⟩ := vals2 r
  cases r2
  exact isinst_ok I r1 h1 h2 fun tk => ⟨.bl k, H, I.tok tk, rfl, h3⟩
 | [x, .ref C], h =>
  obtain ⟨t, k, h1, h2, h3⟩ := h
  obtain ⟨u, w', rfl, r1, r2⟩ := vals2 r
  cases r2
  exact isinst_ok I r1 h1 h2 fun tk => ⟨.bl k, H, I.tok tk, rfl, h3⟩
def csChk (onames : List (Str × NameKind)) (scope : Scope) : Bool := scope.names.all fun y => decide (y.2 ≠ .cell) && (decide (y.2 ≠ .local) || decide (scope.names.lookup y.1 = some .local)) && (decide (y.2 ≠ .free) || decide (onames.lookup y.1 = some .cell) || decide (onames.lookup y.1 = some .free))
theorem CScope.of {scope : Scope} (onames : List (Str × NameKind)) (h : csChk onames scope = true) (k : scope.kind = .function := by rfl) (e : X.env.scope.names = onames := by rfl) : CScope X scope := by
 have q := List.all_eq_true.mp h
 refine ⟨k, fun y hy => ?_, fun y hy hl => ?_, fun y hy hf => ?_⟩
 ·have z := q y hy
  simp only [Bool.and_eq_true, decide_eq_true_eq] at z
  exact z.1.1
 ·have z := q y hy
  simp only [Bool.and_eq_true, Bool.or_eq_true, decide_eq_true_eq] at z
  exact z.1.2.resolve_left fun w => w hl
 ·have z := q y hy
  simp only [Bool.and_eq_true, Bool.or_eq_true, decide_eq_true_eq] at z
  show X.env.scope.names.lookup y.1 = _ ∨ X.env.scope.names.lookup y.1 = _
  rw [e]
  rcases z.2 with (w | w) | w
  ·exact absurd hf w
  ·exact .inl w
  ·exact .inr w
def cnChk (XN : List Str) (scope : Scope) (N : List Str) (k : Nat) (sel : List Nat) : Bool := decide (N.length = k + sel.length) && (List.range sel.length).all fun i => match sel[i]?, N[k + i]? with
 | some j, some x => decide (XN[j]? = some x) && decide (scope.names.lookup x = some .free)
 | _, _ => false
theorem CNames.of {scope : Scope} {N : List Str} {k : Nat} {sel : List Nat} (XN : List Str) (h : cnChk XN scope N k sel = true) (e : X.N = XN := by rfl) : CNames X scope N k sel := by
 unfold cnChk at h
 simp only [Bool.and_eq_true, decide_eq_true_eq] at h
 refine ⟨h.1, fun i j x h1 h2 => ?_⟩
 have hi : i < sel.length := (List.getElem?_eq_some_iff.mp h1).1
 have q := List.all_eq_true.mp h.2 i (List.mem_range.mpr hi)
 rw [h1, h2] at q
 simp only [Bool.and_eq_true, decide_eq_true_eq] at q
 rw [e]
 exact q
end
theorem hr8 {A : Around} {k : Nat} (hr : Room k A) : A.units + 8 < cLine := by have := hr.units; omega
section
variable {X : Cx} {a b : Expr} {te : TE}
def cPart (t : TE) : TO := fun σ H Q => t σ H fun x H1 => match x with | .int i => Q (some i) H1 | _ => False
theorem cPart_eq (t : TE) : cPart t = tPart t := by
 funext σ H Q
 unfold cPart tPart
 congr 1
 funext x H'
 apply propext
 cases x <;> first
  | exact ⟨fun q => ⟨_, rfl, q⟩, fun ⟨i, e, q⟩ => by cases e; exact q⟩
  | exact ⟨fun q => False.elim q, fun ⟨i, e, q⟩ => by cases e⟩
theorem e_part (h : PE X a te) : PO X (some a) (cPart te) := by
 rw [cPart_eq]
 exact po_some h
def cNeg : V → Hp → VK → Prop := fun x H Q => match x with | .int i => Q (.int (-i)) H | _ => False
theorem u_neg : UnR X (unaryOp .USub) cNeg := fun pins s σ H x v Q I rx h => by
 cases x <;> first | exact False.elim h | exact un_neg pins s σ H _ v Q I rx ⟨_, rfl, h⟩
theorem t_pc {op : CmpOp} {t : TE} {pos : Pos} (h : PC X op a b t) (h1 : behindInMarks op b = false := by first | exact nobehind _ (by decide) (by decide) | rfl | with_unfolding_all rfl) : PT X (.Compare a [op] [b] pos) (cTst t) := by
 have e : cTst t = tB t := by
  funext σ H Q
  unfold cTst tB
  congr 1
  funext x H'
  exact cBool_eq
 rw [e]
 exact pt_cmp h h1
end
section
variable {K : PySem.W.Frag} {σ : St} {sel : List Nat} {rest : St} {H : Hp} {p : Addr} {tt : TT} {te : TE} {Q : VK}
abbrev CompGoal (J : It) (σ : St) (k : Nat) (sel : List Nat) (g : TG) (tt : TT) (te : TE) (Q : VK) (H1 : Hp) (p : Addr) : Prop :=
 ∃ W : Nat → Nat → St → Hp → Prop, (∃ m, W 0 m (cst σ k sel) (upd H1 p (.lst []))) ∧ ∀ i m σ2 H2, W i m σ2 H2 →
  (J.stop i H2 ∧ Q (.ref p) H2) ∨ (J.go i H2 ∧ ∀ x H3, J.yld i H2 x H3 → g x σ2 H3 fun σ4 H4 => tt σ4 H4 fun b H5 =>
   if b = true then te σ4 H5 fun v H6 => ∃ ys, H6 p = some (.lst ys) ∧ ys.length < sizeLine ∧ ∃ m', m' < m ∧ W (i + 1) m' σ4 (upd H6 p (.lst (ys ++ [v]))) else ∃ m', m' < m ∧ W (i + 1) m' σ4 H5)
theorem comp_inv {J : It} {n : Nat} {item : Nat → V} (Pv : Nat → Hp → Prop) (hr : sel.map (fun j => (σ[j]?).join) = rest) (h0 : Pv 0 (upd H p (.lst [])))
  (src : ∀ i H2, i < n → Pv i H2 → J.go i H2 ∧ ∀ x H3, J.yld i H2 x H3 → H3 = H2 ∧ x = item i) (fin : ∀ H2, Pv n H2 → J.stop n H2)
  (step : ∀ i H2 (R : Hp → Prop), i < n → Pv i H2 → (∀ H', Pv (i + 1) H' → R H') → tt (some (item i) :: rest) H2 fun b H5 =>
   if b = true then te (some (item i) :: rest) H5 fun v H6 => ∃ ys, H6 p = some (.lst ys) ∧ ys.length < sizeLine ∧ R (upd H6 p (.lst (ys ++ [v]))) else R H5)
  (hQ : ∀ H2, Pv n H2 → Q (.ref p) H2) : CompGoal J σ 1 sel (gName 0) tt te Q H p := by
 refine ⟨fun i m σ2 H2 => i ≤ n ∧ m = n - i + 1 ∧ (∃ v, σ2 = v :: rest) ∧ Pv i H2, ⟨n + 1, Nat.zero_le _, rfl, ⟨none, ?_⟩, h0⟩, ?_⟩
 ·unfold cst; rw [hr]; rfl
 ·rintro i m σ2 H2 ⟨hi, rfl, ⟨v, rfl⟩, hP⟩
  by_cases hlt : i < n
  ·right
   obtain ⟨hg, hy⟩ := src i H2 hlt hP
   refine ⟨hg, fun x H3 hx => ?_⟩
   obtain ⟨rfl, rfl⟩ := hy x H3 hx
   exact step i H3 (fun H' => ∃ m', m' < n - i + 1 ∧ i + 1 ≤ n ∧ m' = n - (i + 1) + 1 ∧ (∃ v, (some (item i) :: rest : St) = v :: rest) ∧ Pv (i + 1) H') hlt hP fun H' h' => ⟨n - (i + 1) + 1, by omega, hlt, rfl, ⟨_, rfl⟩, h'⟩
  ·left
   have e : i = n := by omega
   subst e
   exact ⟨fin H2 hP, hQ H2 hP⟩
theorem src_list {a : Addr} {xs : List V} {Pv : Nat → Hp → Prop} (hl : ∀ i H2, i ≤ xs.length → Pv i H2 → SqL K H2 a xs) : ∀ i H2, i < xs.length → Pv i H2 → (Itl K a).go i H2 ∧ ∀ x H3, (Itl K a).yld i H2 x H3 → H3 = H2 ∧ x = xs.getD i .non := fun i H2 hi hP => by
 have q := hl i H2 (Nat.le_of_lt hi) hP
 have e : xs[i]? = some (xs.getD i .non) := by simp [List.getD, hi]
 refine ⟨⟨xs, _, q, e⟩, fun x H3 ⟨h1, h2⟩ => ⟨h1, ?_⟩⟩
 have := h2 xs q
 rw [e] at this
 exact (Option.some.inj this).symm
theorem src_tup {a : Addr} {xs : List V} {Pv : Nat → Hp → Prop} (hl : ∀ i H2, i ≤ xs.length → Pv i H2 → SqT K H2 a xs) : ∀ i H2, i < xs.length → Pv i H2 → (Itt K a).go i H2 ∧ ∀ x H3, (Itt K a).yld i H2 x H3 → H3 = H2 ∧ x = xs.getD i .non := fun i H2 hi hP => by
 have q := hl i H2 (Nat.le_of_lt hi) hP
 have e : xs[i]? = some (xs.getD i .non) := by simp [List.getD, hi]
 refine ⟨⟨xs, _, q, e⟩, fun x H3 ⟨h1, h2⟩ => ⟨h1, ?_⟩⟩
 have := h2 xs q
 rw [e] at this
 exact (Option.some.inj this).symm
theorem src_rng {lo : Int} {n : Nat} {Pv : Nat → Hp → Prop} : ∀ i H2, i < n → Pv i H2 → (Itr lo n).go i H2 ∧ ∀ x H3, (Itr lo n).yld i H2 x H3 → H3 = H2 ∧ x = .int (lo + i) := fun i H2 hi hP => ⟨hi, fun x H3 h => h⟩
theorem same_upd {H : Hp} {p : Addr} {o : HO} (hp : H p = none) : Same H (upd H p o) := fun b u e => by rw [upd_ne (ne_of_none e hp)]; exact e
theorem take_map_snoc {xs : List V} {f : V → V} {i : Nat} (hi : i < xs.length) : (xs.take i).map f ++ [f (xs.getD i .non)] = (xs.take (i + 1)).map f := by
 rw [List.take_add_one, List.map_append]
 congr 1
 simp [List.getD, hi]
theorem comp_list {a : Addr} {xs : List V} (f : V → V) (hl : SqL K H a xs) (hp : H p = none) (hr : sel.map (fun j => (σ[j]?).join) = rest) (hz : xs.length ≤ sizeLine)
  (he : ∀ x H' (Q' : VK), x ∈ xs → Same H H' → Q' (f x) H' → te (some x :: rest) H' Q') (hQ : Q (.ref p) (upd H p (.lst (xs.map f)))) : CompGoal (Itl K a) σ 1 sel (gName 0) tTrue te Q H p := by
 refine comp_inv (n := xs.length) (item := fun i => xs.getD i .non) (fun i H2 => H2 = upd H p (.lst ((xs.take i).map f))) hr (by simp) (src_list ?_) ?_ ?_ ?_
 ·rintro i H2 hi rfl
  exact (same_upd hp).seq hl
 ·rintro H2 rfl
  exact ⟨xs, (same_upd hp).seq hl, Nat.le_refl _⟩
 ·rintro i H2 R hi rfl hR
  unfold tTrue
  dsimp only
  rw [if_pos rfl]
  refine he _ _ _ (by rw [show xs.getD i .non = xs[i] from by simp [List.getD, hi]]; exact List.getElem_mem _) (same_upd hp) ⟨_, upd_same, ?_, hR _ ?_⟩
  ·rw [List.length_map, List.length_take]; omega
  ·rw [upd_upd, take_map_snoc hi]
 ·rintro H2 rfl
  rw [List.take_length]
  exact hQ
theorem comp_rng {lo : Int} {n : Nat} (f : Int → V) (hp : H p = none) (hr : sel.map (fun j => (σ[j]?).join) = rest) (hz : n ≤ sizeLine)
  (he : ∀ (i : Nat) H' (Q' : VK), i < n → Same H H' → Q' (f (lo + i)) H' → te (some (.int (lo + i)) :: rest) H' Q') (hQ : Q (.ref p) (upd H p (.lst ((List.range n).map fun i => f (lo + (i : Nat)))))) : CompGoal (Itr lo n) σ 1 sel (gName 0) tTrue te Q H p := by
 refine comp_inv (n := n) (item := fun i => .int (lo + i)) (fun i H2 => H2 = upd H p (.lst ((List.range i).map fun i => f (lo + (i : Nat))))) hr (by simp) src_rng ?_ ?_ ?_
 ·rintro H2 rfl
  exact Nat.le_refl _
 ·rintro i H2 R hi rfl hR
  unfold tTrue
  dsimp only
  rw [if_pos rfl]
  refine he i _ _ hi (same_upd hp) ⟨_, upd_same, ?_, hR _ ?_⟩
  ·rw [List.length_map, List.length_range]; omega
  ·rw [upd_upd, List.range_succ, List.map_append]; rfl
 ·rintro H2 rfl
  exact hQ
end
def cRef (x : V) (k : Addr → Prop) : Prop := match x with | .ref p => k p | _ => False
theorem cRef_eq {x : V} {k : Addr → Prop} : (∃ p, x = .ref p ∧ k p) = cRef x k := by
 apply propext
 cases x <;> first
  | exact ⟨fun ⟨p, e, q⟩ => by cases e; exact q, fun q => ⟨_, rfl, q⟩⟩
  | exact ⟨fun ⟨p, e, q⟩ => (by cases e), fun q => False.elim q⟩
def cInt1 (vs : List V) (k : Int → Prop) : Prop := match vs with | [.int j] => k j | _ => False
theorem cInt1_eq {vs : List V} {k : Int → Prop} : (∃ j, vs = [.int j] ∧ k j) = cInt1 vs k := by
 apply propext
 constructor
 ·rintro ⟨j, rfl, q⟩; exact q
 ·intro h
  unfold cInt1 at h
  split at h
  ·exact ⟨_, rfl, h⟩
  ·exact h.elim
def cInt2 (vs : List V) (k : Int → Int → Prop) : Prop := match vs with | [.int i, .int j] => k i j | _ => False
theorem cInt2_eq {vs : List V} {k : Int → Int → Prop} : (∃ i j, vs = [.int i, .int j] ∧ k i j) = cInt2 vs k := by
 apply propext
 constructor
 ·rintro ⟨i, j, rfl, q⟩; exact q
 ·intro h
  unfold cInt2 at h
  split at h
  ·exact ⟨_, _, rfl, h⟩
  ·exact h.elim
def ForGoal (J : It) (g : TG) (tb : TS) (D : Ends) (σ : St) (H : Hp) : Prop := ∃ W : Nat → Nat → St → Hp → Prop, (∃ m, W 0 m σ H) ∧ ∀ i m σ H, W i m σ H →
 (J.stop i H ∧ D.nx σ H) ∨ (J.go i H ∧ ∃ N : St → Hp → Prop, (∀ σ' H', N σ' H' → ∃ m', m' < m ∧ W (i + 1) m' σ' H') ∧ ∀ x H', J.yld i H x H' → g x σ H' fun σ2 H2 => tb { D with nx := N, ct := N, bk := D.nx } σ2 H2)
def CompG (J : It) (σ : St) (k : Nat) (sel : List Nat) (g : TG) (tt : TT) (te : TE) (Q : VK) (H1 : Hp) : Prop := ∀ p, H1 p = none → CompGoal J σ k sel g tt te Q H1 p
section
variable {K : PySem.W.Frag} {te : TE} {ta : TA} {g : TG} {tb : TS} {D : Ends} {σ : St} {H : Hp} {p : Addr} {xs : List V} {k : Nat} {sel : List Nat} {tt : TT} {el : TE} {Q : VK}
theorem tFor_list : tFor (iList K te) g tb D σ H = te σ H (fun x H1 => cRef x fun p => (∃ xs, SqL K H1 p xs) ∧ ForGoal (Itl K p) g tb D σ H1) := by
 unfold tFor iList
 congr 1
 funext x H1
 exact cRef_eq
theorem tFor_tup : tFor (iTup K te) g tb D σ H = te σ H (fun x H1 => cRef x fun p => (∃ xs, SqT K H1 p xs) ∧ ForGoal (Itt K p) g tb D σ H1) := by
 unfold tFor iTup
 congr 1
 funext x H1
 exact cRef_eq
theorem tFor_rng1 : tFor (iRng1 ta) g tb D σ H = ta σ H (fun vs H1 => cInt1 vs fun j => -(2 ^ 62) ≤ j ∧ j < 2 ^ 62 ∧ ForGoal (Itr 0 j.toNat) g tb D σ H1) := by
 unfold tFor iRng1
 congr 1
 funext x H1
 exact cInt1_eq
theorem tFor_rng2 : tFor (iRng2 ta) g tb D σ H = ta σ H (fun vs H1 => cInt2 vs fun i j => (-(2 ^ 62) ≤ i ∧ i < 2 ^ 62 ∧ -(2 ^ 62) ≤ j ∧ j < 2 ^ 62) ∧ ForGoal (Itr i (j - i).toNat) g tb D σ H1) := by
 unfold tFor iRng2
 congr 1
 funext x H1
 exact cInt2_eq
theorem tComp_list : tComp (iList K te) k sel g tt el σ H Q = te σ H (fun x H1 => cRef x fun p => (∃ xs, SqL K H1 p xs) ∧ CompG (Itl K p) σ k sel g tt el Q H1) := by
 unfold tComp iList
 congr 1
 funext x H1
 exact cRef_eq
theorem tComp_tup : tComp (iTup K te) k sel g tt el σ H Q = te σ H (fun x H1 => cRef x fun p => (∃ xs, SqT K H1 p xs) ∧ CompG (Itt K p) σ k sel g tt el Q H1) := by
 unfold tComp iTup
 congr 1
 funext x H1
 exact cRef_eq
theorem tComp_rng1 : tComp (iRng1 ta) k sel g tt el σ H Q = ta σ H (fun vs H1 => cInt1 vs fun j => -(2 ^ 62) ≤ j ∧ j < 2 ^ 62 ∧ CompG (Itr 0 j.toNat) σ k sel g tt el Q H1) := by
 unfold tComp iRng1
 congr 1
 funext x H1
 exact cInt1_eq
theorem for_listG (Pv : Nat → St → Hp → Prop) (h0 : Pv 0 σ H) (hk : ∀ i σ H, i ≤ xs.length → Pv i σ H → SqL K H p xs)
  (hs : ∀ i x σ H, xs[i]? = some x → Pv i σ H → g x σ H fun σ2 H2 => tb { D with nx := Pv (i + 1), ct := Pv (i + 1), bk := D.nx } σ2 H2) (hd : ∀ σ H, Pv xs.length σ H → D.nx σ H) : ForGoal (Itl K p) g tb D σ H := for_list Pv h0 hk hs hd
theorem for_rngG {lo : Int} {n : Nat} (Pv : Nat → St → Hp → Prop) (h0 : Pv 0 σ H)
  (hs : ∀ (i : Nat) σ H, i < n → Pv i σ H → g (.int (lo + i)) σ H fun σ2 H2 => tb { D with nx := Pv (i + 1), ct := Pv (i + 1), bk := D.nx } σ2 H2) (hd : ∀ σ H, Pv n σ H → D.nx σ H) : ForGoal (Itr lo n) g tb D σ H := for_range Pv h0 hs hd
end
theorem atI_ok {α : Type} {xs : List α} {i : Int} (d : α) (h0 : 0 ≤ i) (h1 : i < xs.length) : atI xs i = some (xs.getD i.toNat d) := by
 obtain ⟨n, rfl⟩ := Int.eq_ofNat_of_zero_le h0
 have hn : n < xs.length := by omega
 have e : xs[n]? = some (xs.getD n d) := by simp [List.getD, hn]
 exact atI_nat e
theorem getD_map {α β : Type} (f : α → β) (xs : List α) (n : Nat) (d : α) : (xs.map f).getD n (f d) = f (xs.getD n d) := by
 simp [List.getD]
theorem atI_map {α β : Type} {f : α → β} {xs : List α} {i : Int} (d : α) (h0 : 0 ≤ i) (h1 : i < xs.length) : atI (xs.map f) i = some (f (xs.getD i.toNat d)) := by
 rw [atI_ok (f d) h0 (by rw [List.length_map]; exact h1), getD_map]
theorem get_map_of {α β : Type} {f : α → β} {xs : List α} {i : Nat} {y : β} (h : (xs.map f)[i]? = some y) : ∃ x, xs[i]? = some x ∧ y = f x := by
 rw [List.getElem?_map] at h
 cases e : xs[i]? with
 | none => rw [e] at h; cases h
 | some x => rw [e] at h; exact ⟨x, rfl, (Option.some.inj h).symm⟩
theorem pe_globE {X : Cx} {x : Str} {v : V} {pos : Pos} (hg : Gl X x) (hm : ∃ u, X.mg x = some u ∧ RelV v u) (hd : (x == ("__debug__" : Str)) = false := by decide) : PE X (.Name x pos) (tC v) := by
 obtain ⟨u, h1, h2⟩ := hm
 exact pe_glob hg h1 h2 hd
def constV : Expr → Option V
 | .Constant (.int i) _ _ => some (.int i)
 | .Constant (.bool b) _ _ => some (.bl b)
 | .Constant .none _ _ => some .non
 | .Constant (.str x) _ _ => some (.str x)
 | _ => none
def constVs : List Expr → Option (List V)
 | [] => some []
 | e :: r => match constV e, constVs r with | some v, some vs => some (v :: vs) | _, _ => none
def tVals (vs : List V) : TA := fun _ H Q => Q vs H
theorem pe_constV {X : Cx} {e : Expr} {v : V} (h : constV e = some v) : PE X e (tC v) := by
 unfold constV at h
 split at h <;> first
  | (cases h; exact pe_int)
  | (cases h; exact pe_bl)
  | (cases h; exact pe_non)
  | (cases h; exact pe_str)
  | cases h
theorem star_const {e : Expr} {es : List Expr} {env : Env} {v : V} (h : constV e = some v) : starEach (e :: es) env = (false, eval e env) :: starEach es env := by
 unfold constV at h
 split at h <;> first | rfl | cases h
theorem pa_consts {X : Cx} : ∀ {es : List Expr} {vs : List V}, constVs es = some vs → PA X es (tVals vs)
 | [], vs, h => by
  have e : vs = [] := (Option.some.inj h).symm
  subst e
  exact fun pos pins s σ H Q I q => pa_nil pos pins s σ H Q I q
 | e :: r, vs, h => by
  unfold constVs at h
  cases h1 : constV e with
  | none => rw [h1] at h; cases h
  | some v =>
   cases h2 : constVs r with
   | none => rw [h1, h2] at h; cases h
   | some ws =>
    rw [h1, h2] at h
    have e' : v :: ws = vs := Option.some.inj h
    subst e'
    exact fun pos pins s σ H Q I q => pa_cons (pe_constV h1) (pa_consts h2) (star_const h1) pos pins s σ H Q I q
section
variable {X : Cx} {tg : Expr}
def cSlS : V → Option Int → Option Int → Hp → VK → Prop := fun x lo hi H Q => match x with
 | .str z => z.length ≤ sizeLine ∧ Q (.str (Txt.slice z lo hi)) H
 | _ => False
theorem s_str : SlR X cSlS := by
 intro pins s σ H x v vl vu lo hi sl Q I rx hs pl pu h
 cases x with
 | str z =>
  obtain ⟨t, rfl⟩ := rx
  obtain ⟨hz, q⟩ := h
  refine ⟨"str", _, F.slot_str_getitem.lookup, typeIs_str _ _ _, ?_⟩
  have fin : ∀ t' k, EP X pins σ Q (.str (Txt.slice z lo hi) t') { s with toks := k } := fun t' k => ⟨.str (Txt.slice z lo hi), H, I.tok k, ⟨t', rfl⟩, q⟩
  cases pl with
  | none => cases pu with
   | none => exact wpAny_getItem_str_slice (l := none) (u := none) (st := none) hs rfl (post_val_or_str ⟨Nat.le_trans (Txt.slice_le z _ _) hz, fin⟩)
   | int j uj => exact wpAny_getItem_str_slice (l := none) (u := some (j, uj)) (st := none) hs rfl (post_val_or_str ⟨Nat.le_trans (Txt.slice_le z _ _) hz, fin⟩)
  | int i ui => cases pu with
   | none => exact wpAny_getItem_str_slice (l := some (i, ui)) (u := none) (st := none) hs rfl (post_val_or_str ⟨Nat.le_trans (Txt.slice_le z _ _) hz, fin⟩)
   | int j uj => exact wpAny_getItem_str_slice (l := some (i, ui)) (u := some (j, uj)) (st := none) hs rfl (post_val_or_str ⟨Nat.le_trans (Txt.slice_le z _ _) hz, fin⟩)
 | _ => exact False.elim h
variable {te : TE} {g : TG} {tb : TS} {D : Ends} {σ : St} {H : Hp} {k : Nat} {sel : List Nat} {tt : TT} {el : TE} {Q : VK}
def cAll (K : PySem.W.Frag) : List V → Hp → VK → Prop := fun vs H Q => match vs with
 | [.ref p] => ∃ bs : List Bool, SqL K H p (bs.map V.bl) ∧ Q (.bl (bs.all id)) H
 | _ => False
theorem c_all (hc : X.calm = true) : CallR X (.builtin "all") (cAll X.K) := by
 intro pins s σ H xs us Q I r h
 match xs, h with
 | [.ref p], h =>
  obtain ⟨bs, h1, q⟩ := h
  obtain ⟨u, rfl, ru⟩ := vals1 r
  cases ru
  obtain ⟨its, rv, pl, hz⟩ := I.list h1
  have hlen := rv.length
  rw [List.length_map] at hlen
  have hlt : p < s.heap.objs.size := by obtain ⟨_, e, _⟩ := pl.isList; exact Heap.lt_size e
  have hh : X.A.in1.handled = none := I.ok.hd hc
  refine call_all_walk (wpAny_pyIter_list pl.isList ⟨s.heap.objs.size, _, _, its.toArray.size, _, _, fun i => bs.getD i false, rfl, Walks.list hh s.heap.objs.size p (Nat.ne_of_lt hlt) its.toArray, ⟨⟨_, Heap.get?_push_size _ rfl, rfl, rfl⟩, pl.isList.push _⟩, ?_, ?_⟩)
  ·intro i v Q' E' s' hv hq
   have hv' : its[i]? = some v := by simpa using hv
   have hi : i < its.length := (List.getElem?_eq_some_iff.mp hv').1
   obtain ⟨u, hu, ru⟩ := rv.get (i := i) (x := .bl (bs.getD i false)) (by rw [List.getElem?_map]; simp [List.getD, show i < bs.length by omega])
   rw [hv'] at hu
   cases hu
   cases ru
   exact wpAny_truthy_bool hq
  ·intro h' tk kk
   refine ⟨.bl (bs.all id), H, ?_, ?_, q⟩
   ·exact I.kept fun b o e => kk b o (by simp; exact Nat.ne_of_lt (Heap.lt_size e)) (Heap.get?_push_of_some _ e)
   ·have e : ((List.range its.toArray.size).all fun i => bs.getD i false) = bs.all id := by
     rw [List.size_toArray, ← hlen]
     rw [Bool.eq_iff_iff]
     simp only [List.all_eq_true, List.mem_range, id_eq]
     constructor
     ·intro z b hb
      obtain ⟨i, hi, rfl⟩ := List.mem_iff_getElem.mp hb
      have := z i hi
      simpa [List.getD, hi] using this
     ·intro z i hi
      have := z bs[i] (List.getElem_mem _)
      simpa [List.getD, hi] using this
    rw [e]; rfl
def cMul : R2 := fun x y H Q => match x, y with
 | .int i, .int j => CMul i j ∧ Q (.int (i * j)) H
 | .str z, .int n => MulOk z n ∧ Q (.str (Txt.mul z n)) H
 | _, _ => False
theorem o_mul : OpR X (binaryOp .Mult) cMul := by
  intro pins s σ H x y v u Q I rx ry h
  cases x <;> cases y <;> first
    | exact False.elim h
    | exact op_mul pins s σ H _ _ v u Q I rx ry ⟨_, _, rfl, rfl, h.1, h.2⟩
    | (obtain ⟨t, rfl⟩ := rx
       obtain ⟨t', rfl⟩ := ry
       exact SB.mul h.1 fun t'' k => ⟨.str _, H, I.tok k, ⟨t'', rfl⟩, h.2⟩)
end
structure New (H : Hp) (p : Addr) (o : HO) (H' : Hp) : Prop where
 was : H p = none
 eq : H' = upd H p o
section
variable {H H' : Hp} {p : Addr} {o : HO}
theorem New.same (n : New H p o H') : Same H H' := by rw [n.eq]; exact same_upd n.was
theorem New.at_ (n : New H p o H') : H' p = some o := by rw [n.eq]; exact upd_same
theorem New.ne (n : New H p o H') {b : Addr} (h : b ≠ p) : H' b = H b := by rw [n.eq]; exact upd_ne h
theorem New.sq {K : PySem.W.Frag} {xs : List V} (n : New H p (.lst xs) H') : SqL K H' p xs := .of n.at_
theorem new_eq {F : Addr → Hp → Prop} {o : HO} : (∀ p, H p = none → F p (upd H p o)) = ∀ p H', New H p o H' → F p H' :=
 propext ⟨fun h p H' n => by rw [n.eq]; exact h p n.was, fun h p hp => h p _ ⟨hp, rfl⟩⟩
end
section
variable {K : PySem.W.Frag} {t : TA} {σ : St} {H : Hp} {Q : VK} {x : V} {lo hi : Option Int} {vs : List V} {kvs : List (Key × V)}
theorem tLst_n : tLst t σ H Q = t σ H fun xs H1 => xs.length ≤ sizeLine ∧ ∀ p H', New H1 p (.lst xs) H' → Q (.ref p) H' := by
 unfold tLst; congr 1; funext xs H1; rw [new_eq (F := fun p H' => Q (.ref p) H')]
theorem tTup_n : tTup t σ H Q = t σ H fun xs H1 => xs.length ≤ sizeLine ∧ ∀ p H', New H1 p (.tup xs) H' → Q (.ref p) H' := by
 unfold tTup; congr 1; funext xs H1; rw [new_eq (F := fun p H' => Q (.ref p) H')]
theorem cSlL_n {p : Addr} : cSlL K (.ref p) lo hi H Q = ∃ xs, SqL K H p xs ∧ ∀ q H', New H q (.lst (cutV xs lo hi)) H' → Q (.ref q) H' := by
 unfold cSlL
 dsimp only
 congr 1; funext xs; rw [new_eq (F := fun p H' => Q (.ref p) H')]
theorem cList_n {p : Addr} : cList K [.ref p] H Q = ∃ ys, (SqL K H p ys ∨ SqT K H p ys) ∧ ∀ l H', New H l (.lst ys) H' → Q (.ref l) H' := by
 unfold cList
 dsimp only
 congr 1; funext xs; rw [new_eq (F := fun p H' => Q (.ref p) H')]
theorem cTuple_n {p : Addr} : cTuple K [.ref p] H Q = ∃ ys, ((SqL K H p ys ∧ ∀ l H', New H l (.tup ys) H' → Q (.ref l) H') ∨ (SqT K H p ys ∧ Q (.ref p) H)) := by
 unfold cTuple
 dsimp only
 congr 1; funext xs; rw [new_eq (F := fun p H' => Q (.ref p) H')]
end
section
variable {K : PySem.W.Frag} {σ : St} {sel : List Nat} {rest : St} {H : Hp} {tt : TT} {te : TE} {Q : VK}
theorem compG_list {a : Addr} {xs : List V} (f : V → V) (hl : SqL K H a xs) (hr : sel.map (fun j => (σ[j]?).join) = rest) (hz : xs.length ≤ sizeLine)
  (he : ∀ x H' (Q' : VK), x ∈ xs → Same H H' → Q' (f x) H' → te (some x :: rest) H' Q') (hQ : ∀ p H', New H p (.lst (xs.map f)) H' → Q (.ref p) H') : CompG (Itl K a) σ 1 sel (gName 0) tTrue te Q H :=
 fun p hp => comp_list f hl hp hr hz he (hQ p _ ⟨hp, rfl⟩)
theorem compG_rng {lo : Int} {n : Nat} (f : Int → V) (hr : sel.map (fun j => (σ[j]?).join) = rest) (hz : n ≤ sizeLine)
  (he : ∀ (i : Nat) H' (Q' : VK), i < n → Same H H' → Q' (f (lo + i)) H' → te (some (.int (lo + i)) :: rest) H' Q') (hQ : ∀ p H', New H p (.lst ((List.range n).map fun i => f (lo + (i : Nat)))) H' → Q (.ref p) H') : CompG (Itr lo n) σ 1 sel (gName 0) tTrue te Q H :=
 fun p hp => comp_rng f hp hr hz he (hQ p _ ⟨hp, rfl⟩)
end
def cSlU (K : PySem.W.Frag) : V → Option Int → Option Int → Hp → VK → Prop := fun x lo hi H Q => match x with
 | .ref p => ∃ xs, SqL K H p xs ∧ ∀ q H', New H q (.lst (cutV xs lo hi)) H' → Q (.ref q) H'
 | .str z => z.length ≤ sizeLine ∧ Q (.str (Txt.slice z lo hi)) H
 | _ => False
theorem s_u {X : Cx} : SlR X (cSlU X.K) := by
 intro pins s σ H x v vl vu lo hi sl Q I rx hs pl pu h
 cases x with
 | ref p => exact s_list pins s σ H (.ref p) v vl vu lo hi sl Q I rx hs pl pu (by rw [cSlL_n]; exact h)
 | str z => exact s_str pins s σ H (.str z) v vl vu lo hi sl Q I rx hs pl pu h
 | _ => exact False.elim h
end L2
set_option maxHeartbeats 4000000
namespace DZ
open PySem
section
variable {prog : Program} {w : World} {A : Around} {E : Value → Shared → Prop} {s : Shared}
end
section
variable {M : Model} {A : Around} {E : Value → Shared → Prop} {s : Shared}
end
structure ZSt (z TI TO i1 i2 t l : Addr) (xs ys : Array Value) (i : Nat) (h : Heap) : Prop where
 zo : ∃ f0 f1, h.get? z = some { cls := .type "zip", dict := none, data := .fields #[f0, .bool f1, .bool false, .ref TI, .ref TO], slots := #[] } ∧
  (f0 = .none ∨ ∃ (T : Addr) (o : Obj), f0 = rawInt T ∧ h.get? T = some o ∧ T ≠ z ∧ T ≠ TO ∧ T ≠ i1 ∧ T ≠ i2)
 ti : IsPair h TI (.ref i1) (.ref i2)
 to : ∃ a b, IsPair h TO a b
 a1 : h.IsTupleIter i1 t i
 a2 : h.IsListIter i2 l i
 l1 : h.IsTuple t xs
 l2 : h.IsList l ys
section
variable {prog : Program} {w : World} {A : Around} {E : Value → Shared → Prop} {s : Shared}
end
end DZ
set_option maxHeartbeats 4000000
namespace DZ
open PySem
section
variable {prog : Program} {w : World} {A : Around} {E : Value → Shared → Prop} {h : Heap} {g : Array GenState} {d : Drawn} {t : Nat} {os : OsState} {z : Addr} {vs : Array Value}
end
theorem mro_dict : mroOf (.type "dict") = pure [.type "dict", .type "object"] := by rw [mroOf_type]; kernel_rfl
theorem lk_dict_new : typeLookup (.type "dict") "__new__" = pure (some (.builtin "dict.__new__")) := by rw [typeLookup_type, builtinLookup_eq_fast]; kernel_rfl
theorem called_dict : TypeCalled "dict" "dict.__new__" "dict.__init__" :=
 ⟨by decide +kernel, by decide +kernel, ⟨_, _, mro_dict⟩, madeBy_type mro_dict lk_dict_new (by decide +kernel), by decide +kernel, by rw [isSubtype_type]; kernel_rfl, F.slot_dict_init⟩
theorem typeCall_dict_1 (a : Value) : checkTypeCall "dict" ⟨[a], []⟩ = pure () := by kernel_rfl
theorem newCall_dict_1 (a : Value) : checkBuiltinCall "dict.__new__" ⟨[.type "dict", a], []⟩ = pure () := by kernel_rfl
theorem entry_dict_new : entryFor table "dict.__new__" = some Builtin.«dict.__new__» := entryFor_of_tree (by kernel_rfl)
theorem entry_dict_loop : entryFor table "dict.update.loop" = some Builtin.«dict.update.loop» := entryFor_of_tree (by kernel_rfl)
theorem plain_dict_new : plainId "dict.__new__" = true := by decide +kernel
theorem plain_dict_loop : plainId "dict.update.loop" = true := by decide +kernel
theorem sub_dict_self : isSubtype (.type "dict") (.type "dict") = pure true := by rw [isSubtype_type]; kernel_rfl
section
variable {prog : Program} {w : World} {A : Around} {E : Value → Shared → Prop} {s : Shared}
theorem dict_new (a : Value) {Q : Value → Shared → Prop} (h : Q (.ref s.heap.objs.size) { s with heap := s.heap.push { cls := .type "dict", data := .dict #[] } }) :
  codeAny (model prog w) A (.call (.builtin "dict.__new__") ⟨[.type "dict", a], []⟩) (wants Q E) s := by
 refine codeAny_of_tree ?_
 show wpAny _ A.in1 (do checkBuiltinCall "dict.__new__" ⟨[.type "dict", a], []⟩; again (.builtin "dict.__new__" ⟨[.type "dict", a], []⟩)) _ _ s
 refine wpAny_bind (wpAny_of_eq (newCall_dict_1 a) (wpAny_pure ⟨plainId_quiet plain_dict_new _, codeAny_builtin entry_dict_new ?_⟩))
 rw [Around.under_plainId plain_dict_new _]
 have hsub := sub_dict_self
 have hm := mro_dict
 obtain ⟨hp, g, d, tk, os⟩ := s
 wp_walk
 exact h
end
end DZ
set_option maxHeartbeats 4000000
namespace DZ
open PySem
section
variable {prog : Program} {w : World} {A : Around} {E : Value → Shared → Prop} {s : Shared}
theorem len_stored {κ : Type} [DecidableEq κ] (kvs : List (κ × Value)) (k : κ) (v : Value) : (stored kvs k v).length ≤ kvs.length + 1 := by
 unfold stored
 split
 ·rw [List.length_map]; exact Nat.le_succ _
 ·rw [List.length_append]; exact Nat.le_refl _
variable {κ : Type} [DecidableEq κ] {knd : KeyKind prog w κ}
end
end DZ
set_option maxHeartbeats 4000000
namespace L2
open PySem PySem.Spec PyProof.Rows
section
variable {X : Cx} {pins : List (Addr × Obj)} {σ : St} {H : Hp} {s : Shared} {h' : Heap}
theorem Inv.dz {t' : Nat} {ch : List Addr} {d : Addr} {ob : HO} (I : Inv X pins σ H s) (hch : ∀ b ∈ ch, FpOk X pins H b) (hd : s.heap.objs.size ≤ d) (k : ∀ b o, b ∉ ch → s.heap.get? b = some o → h'.get? b = some o)
  (new : ObjOk X.prog X.w (upd H d ob) h' d ob) : Inv X pins σ (upd H d ob) { s with heap := h', toks := t' } := by
 have hn : H d = none := I.hok.fresh hd
 have old : ∀ {b o}, s.heap.get? b = some o → b ≠ d := fun e => Nat.ne_of_lt (Nat.lt_of_lt_of_le (Heap.lt_size e) hd)
 have nch : ∀ b u, H b = some u → b ∉ ch := fun b u e z => by rw [(hch b z).1] at e; cases e
 refine I.step (g' := s.gens) (d' := s.drawn) (ch := ch) (fun b hb => ?_) (fun b o _ _ hc e _ => k b o hc e) (fun b o _ _ hc e _ => ⟨o.slots, k b o hc e⟩) (fun b o _ e n => by rw [upd_ne (old e)]; exact n)
  (fun b o hc e => ⟨o, k b o hc e⟩) (fun b xs e => by rw [upd_ne (ne_of_none e hn)]; exact e) (fun b o u e => by rw [upd_ne (ne_of_none e hn)]; exact e) (fun b ps e => ⟨#[], by rw [upd_ne (ne_of_none e hn), e]; simp⟩) (fun m hm => ?_) (fun b u e => ?_) I.bare
 ·obtain ⟨f0, f1, f2, f3, f4, f5⟩ := hch b hb
  exact ⟨f3, f1, f4, f5⟩
 ·obtain ⟨o, es, ep, ho, r⟩ := hm
  exact ⟨o, es, ep, k _ o (fun z => (hch _ z).2.1 rfl) ho, r⟩
 ·by_cases hb : b = d
  ·subst hb
   rw [upd_same] at e
   cases e
   exact new
  ·rw [upd_ne hb] at e
   refine (I.hok b u e).stay (fun c v hc q => k c v ?_ q) (fun c q => by rw [upd_ne (ne_of_none q hn)]; exact q) fun c xs q => by rw [upd_ne (ne_of_none q hn)]; exact q
   rcases hc with z | z
   ·rw [z]; exact nch b u e
   ·exact nch c _ z
end
end L2
namespace NM
def okc (c : Nat) : Prop := 97 ≤ c ∧ c ≤ 122
structure Nm (w : List Nat) : Prop where
 pos : 1 ≤ w.length
 le : w.length ≤ 8
 ok : ∀ c ∈ w, okc c
def nx (p : List Nat) (c k : Nat) : List Nat := p ++ (c + 1) :: List.replicate k 97
inductive Nx : List Nat → List Nat → Prop where
 | at (p : List Nat) (c k : Nat) : c ≠ 122 → Nx (p ++ c :: List.replicate k 122) (nx p c k)
 | all (n : Nat) : Nx (List.replicate n 122) (List.replicate (n % 8 + 1) 97)
inductive Nxs : Nat → List Nat → List Nat → Prop where
 | zero (w : List Nat) : Nxs 0 w w
 | succ {k : Nat} {u v w : List Nat} : Nx u v → Nxs k v w → Nxs (k + 1) u w
end NM
namespace ME
section
variable {κ : Type} [DecidableEq κ] {α β : Type}
def m2 (f : α → β) (e : List (κ × α)) : List (κ × β) := e.map fun p => (p.1, f p.2)
abbrev Gt (κ : Type) := κ × κ × List κ
def WG (A : κ → Nat → Prop) (known : List κ) : List (Gt κ) → Prop
 | [] => True
 | g :: r => (∀ p ∈ g.2.2, p ∈ known) ∧ A g.2.1 g.2.2.length ∧ g.2.2.length ≤ 6 ∧ WG A (known ++ [g.1]) r
theorem WG.at {A : κ → Nat → Prop} : ∀ {gs : List (Gt κ)} {known : List κ} {i : Nat} {g : Gt κ}, WG A known gs → gs[i]? = some g →
  (∀ p ∈ g.2.2, p ∈ known ++ (gs.take i).map (·.1)) ∧ A g.2.1 g.2.2.length ∧ g.2.2.length ≤ 6
 | [], _, _, _, _, h => by simp at h
 | x :: gs, known, 0, g, ⟨a, b, c, d⟩, h => by
  simp at h; subst h
  exact ⟨by simpa using a, b, c⟩
 | x :: gs, known, i + 1, g, ⟨a, b, c, d⟩, h => by
  have := WG.at (i := i) (g := g) d (by simpa using h)
  simpa using this
end
end ME
namespace MC
end MC
namespace GM
open PySem
end GM
set_option maxHeartbeats 4000000
namespace L2
open PySem PySem.Spec PyProof.Rows
def tMid (t u : TS) : TS := tSeq t u
theorem mid {t u : TS} {D : Ends} {σ : St} {H : Hp} (M : St → Hp → Prop) (h1 : ∀ N : St → Hp → Prop, (∀ σ' H', M σ' H' → N σ' H') → t { D with nx := N } σ H) (h2 : ∀ σ' H', M σ' H' → u D σ' H') : tMid t u D σ H := h1 _ h2
theorem pss_mid {X : Cx} {st : Stmt} {rest : List Stmt} {t u : TS} (h : PS X st t) (hr : PSs X rest u) : PSs X (st :: rest) (tMid t u) := pss_cons h hr
theorem mtr {X : Cx} {id : String} {r : V → List V → Hp → VK → Prop} (h : MtM X id r) : MtR X id r := h
theorem comp_gen {J : It} {σ : St} {k : Nat} {sel : List Nat} {g : TG} {tt : TT} {te : TE} {Q : VK} {H : Hp} {p : Addr} {n : Nat} {item : Nat → V} (Sv : St → Prop) (Pv : Nat → Hp → Prop)
  (hS : Sv (cst σ k sel)) (h0 : Pv 0 (upd H p (.lst [])))
  (src : ∀ i H2, i < n → Pv i H2 → J.go i H2 ∧ ∀ x H3, J.yld i H2 x H3 → H3 = H2 ∧ x = item i) (fin : ∀ H2, Pv n H2 → J.stop n H2)
  (step : ∀ i σ2 H2 (R : St → Hp → Prop), i < n → Sv σ2 → Pv i H2 → (∀ σ' H', Sv σ' → Pv (i + 1) H' → R σ' H') → g (item i) σ2 H2 fun σ4 H4 => tt σ4 H4 fun b H5 =>
   if b = true then te σ4 H5 fun v H6 => ∃ ys, H6 p = some (.lst ys) ∧ ys.length < sizeLine ∧ R σ4 (upd H6 p (.lst (ys ++ [v]))) else R σ4 H5)
  (hQ : ∀ H2, Pv n H2 → Q (.ref p) H2) : CompGoal J σ k sel g tt te Q H p := by
 refine ⟨fun i m σ2 H2 => i ≤ n ∧ m = n - i + 1 ∧ Sv σ2 ∧ Pv i H2, ⟨n + 1, Nat.zero_le _, rfl, hS, h0⟩, ?_⟩
 rintro i m σ2 H2 ⟨hi, rfl, hs, hP⟩
 by_cases hlt : i < n
 ·right
  obtain ⟨hg, hy⟩ := src i H2 hlt hP
  refine ⟨hg, fun x H3 hx => ?_⟩
  obtain ⟨rfl, rfl⟩ := hy x H3 hx
  exact step i σ2 H3 (fun σ' H' => ∃ m', m' < n - i + 1 ∧ i + 1 ≤ n ∧ m' = n - (i + 1) + 1 ∧ Sv σ' ∧ Pv (i + 1) H') hlt hs hP fun σ' H' s' h' => ⟨n - (i + 1) + 1, by omega, hlt, rfl, s', h'⟩
 ·left
  have e : i = n := by omega
  subst e
  exact ⟨fin H2 hP, hQ H2 hP⟩
def SameN (H H' : Hp) : Prop := ∀ b o, H b = some o → (∀ xs, o ≠ .lst xs) → H' b = some o
section
variable {K : PySem.W.Frag} {H H' H0 H1 : Hp} {l a : Addr} {xs ys : List V} {o : HO}
theorem Same.n (s : Same H H') : SameN H H' := fun b o e _ => s b o e
theorem SameN.clear (h : H l = some (.lst xs)) : SameN H (upd H l (.lst ys)) := fun b o e n => by rw [upd_ne (ne_of e h (n xs))]; exact e
theorem Same.put (s : Same H0 H) (h : H0 l = none) : Same H0 (upd H l o) := fun b u e => by rw [upd_ne (ne_of_none e h)]; exact s b u e
theorem Same.tup (e : Same H H') (h : SqT K H a xs) : SqT K H' a xs := by
 rcases h with (h | ⟨o, h⟩) | h
 ·exact .inl (.inl (e _ _ h))
 ·exact .inl (.inr ⟨o, e _ _ h⟩)
 ·exact .inr h
def Keep (N : Addr → Prop) (H H' : Hp) : Prop := ∀ b o, N b → H b = some o → H' b = some o
theorem Same.keep {N : Addr → Prop} (s : Same H H') : Keep N H H' := fun b o _ e => s b o e
theorem Keep.tup {N : Addr → Prop} (e : Keep N H H') (n : N a) (h : SqT K H a xs) : SqT K H' a xs := by
 rcases h with (h | ⟨o, h⟩) | h
 ·exact .inl (.inl (e _ _ n h))
 ·exact .inl (.inr ⟨o, e _ _ n h⟩)
 ·exact .inr h
theorem New.free (n : New H a o H') : H a = none := n.was
end
theorem cps_app (a b : Str) : (a ++ b).cps.toList = a.cps.toList ++ b.cps.toList := by
 show (a.cps ++ b.cps).toList = _
 simp
theorem ext_cps {y z : Str} (h : y.cps.toList = z.cps.toList) : y = z := by
 cases y; cases z
 congr 1
 exact Array.toList_inj.mp h
theorem fold_rep (c : Nat) : ∀ (k : Nat) (acc : Array Nat), ((List.replicate k (#[c] : Array Nat)).foldl (· ++ ·) acc).toList = acc.toList ++ List.replicate k c
 | 0, acc => by simp
 | k + 1, acc => by
  rw [List.replicate_succ, List.foldl_cons, fold_rep c k, List.replicate_succ]
  simp
section
variable {K : PySem.W.Frag} {H : Hp} {p : Addr} {i : Int} {F : V → Prop}
theorem ixI {cs : List Int} (hS : SqL K H p (cs.map V.int)) (h0 : 0 ≤ i) (h1 : i < cs.length) (h : F (.int (cs.getD i.toNat 0))) : ∃ xs v, (SqL K H p xs ∨ SqT K H p xs) ∧ atI xs i = some v ∧ F v := ⟨_, _, .inl hS, atI_map 0 h0 h1, h⟩
end
def cListRange (t : TA) : TE := fun σ H Q => t σ H fun vs H1 => cInt1 vs fun j => -(2 ^ 62) ≤ j ∧ j < 2 ^ 62 ∧ j.toNat ≤ 2 ^ 24 ∧ j.toNat ≤ sizeLine ∧ ∀ p H', New H1 p (.lst ((List.range j.toNat).map fun i => V.int (i : Nat))) H' → Q (.ref p) H'
theorem vals_items : ∀ (n : Nat) (us : List Value) (f : Nat → V) (m : Nat), us.length = n → (∀ (i : Nat) u, us[i]? = some u → RelV (f (m + i)) u) → Vals ((List.range n).map fun i => f (m + i)) us
 | 0, [], f, m, _, _ => .nil
 | n + 1, u :: us, f, m, hl, h => by
  rw [List.range_succ_eq_map, List.map_cons, List.map_map]
  have h0 := h 0 u rfl
  refine .cons h0 ?_
  have ih := vals_items n us f (m + 1) (by simpa using hl) fun i u' hu => by
   have := h (i + 1) u' (by simpa using hu)
   rw [show m + (i + 1) = m + 1 + i by omega] at this
   exact this
  have e : (List.range n).map ((fun i => f (m + i)) ∘ Nat.succ) = (List.range n).map fun i => f (m + 1 + i) := by
   refine List.map_congr_left fun i _ => ?_
   show f (m + (i + 1)) = f (m + 1 + i)
   rw [show m + (i + 1) = m + 1 + i by omega]
  rw [e]
  exact ih
theorem e_listrange {X : Cx} {ea : Expr} {t : TA} {p1 p2 p3 p4 : Pos} (hc : X.calm = true) (hg1 : Gl X "list") (hg2 : Gl X "range") (hm1 : X.mg "list" = none) (hm2 : X.mg "range" = none) (ha : PA X [ea] t)
  (he : starEach [ea] X.env = (false, eval ea X.env) :: starEach [] X.env := by rfl) (hpl : (backTo p3 (starEach [] X.env)).any (·.1) = false := by rfl)
  (he2 : starEach [Expr.Call (.Name "range" p2) [ea] [] p3] X.env = (false, eval (Expr.Call (.Name "range" p2) [ea] [] p3) X.env) :: starEach [] X.env := by rfl) (hpl2 : (backTo p4 (starEach [] X.env)).any (·.1) = false := by rfl) :
  PE X (.Call (.Name "list" p1) [.Call (.Name "range" p2) [ea] [] p3] [] p4) (cListRange t) := by
 intro pins s σ H Q I h
 refine wpAny_Call_Name_kw (ld_blt I hg1 hm1 PyProof.Rows.boot_list ?_ (by decide) (by decide))
 refine PyProof.Rows.callWith_type1 ?_ he2 hpl2
 rw [he2]
 show wpAny _ _ (spliced ((false, eval (Expr.Call (.Name "range" p2) [ea] [] p3) X.env) :: backTo p4 (starEach [] X.env))) _ _ s
 refine Calls.spliced_cons ?_
 refine wpAny_Call_Name_kw (ld_blt I hg2 hm2 boot_range ?_ (by decide) (by decide))
 refine PyProof.Rows.callWith_type1 (thn (ha p3 pins s σ H _ I h) fun us s1 ⟨vs, H1, I1, r1, q1⟩ => ?_) he hpl
 match vs, q1 with
 | [.int j], q1 =>
  obtain ⟨b1, b2, b3, b4, q⟩ := q1
  obtain ⟨u1, rfl, e1⟩ := vals1 r1
  obtain ⟨tk, rfl⟩ := e1
  refine call_range_1 (Calls.spliced_nil ?_)
  have I2 : Inv X pins σ H1 { s1 with heap := s1.heap.push { cls := .type "range", data := .fields #[.int 0 s1.toks, .int j tk, .int 1 (s1.toks + 1)] }, toks := s1.toks + 1 + 1 } := I1.kept fun b o e => Heap.get?_push_of_some _ e
  have hsz : Builtin.Range.rangeSize 0 j 1 = (j.toNat : Int) := by rw [rangeSize_one]; split <;> omega
  refine call_list_range (I.ok.hd hc) (IsRange.new ..) (small_one (by omega) (by omega) b1 b2) hsz b3 fun h' t' acc c up at' items => ?_
  obtain ⟨hl, hi⟩ := items
  generalize hs2 : s1.heap.push { cls := .type "range", data := .fields #[.int 0 s1.toks, .int j tk, .int 1 (s1.toks + 1)] } = k2 at I2 up at' ⊢
  have hfree : H1 k2.objs.size = none := I2.hok.fresh (Nat.le_refl _)
  refine ⟨.ref k2.objs.size, upd H1 k2.objs.size (.lst ((List.range j.toNat).map fun i => V.int (i : Nat))), ?_, rfl, q _ _ ⟨hfree, rfl⟩⟩
  refine I2.laid (a := k2.objs.size) (t' := t') up (Nat.le_refl _) ⟨by rw [List.length_map, List.length_range]; exact b4, acc.toList, c, ?_, by simpa using at'⟩
  have := vals_items j.toNat acc.toList (fun i => V.int (i : Nat)) 0 (by simpa using hl) fun i u hu => by
   have hu' : acc[i]? = some u := by simpa using hu
   obtain ⟨t2, ht2⟩ := hi i u hu'
   exact ⟨t2, by rw [ht2]; congr 1; omega⟩
  simpa using this
theorem shl_val (c w : Nat) : ((c : Int) * 2 ^ ((w : Int)).toNat : Int) = ((c * 2 ^ w : Nat) : Int) := by simp
theorem and_nat (a b : Nat) : Builtin.bitAnd (a : Int) (b : Int) = ((a &&& b : Nat) : Int) := by rw [bitAnd_pp (by omega) (by omega)]; simp
end L2
set_option maxHeartbeats 4000000
namespace GM
open PySem L2
end GM
set_option maxHeartbeats 4000000
namespace L2
open PySem PySem.Spec PyProof.Rows
def tNo : TS := fun _ _ _ => False
theorem ps_no {X : Cx} {st : Stmt} : PS X st tNo := fun _ _ _ _ _ _ h => h.elim
theorem o_pow {X : Cx} : OpR X (binaryOp .Pow) (cI2c CPow fun i j => .int (i ^ j.toNat)) := op_pow.imp fun _ _ _ _ h => cI2c_of h
section
open Builtin Builtin.Str
end
theorem strs_vals : ∀ {ts : List Str} {us : List Value}, Vals (ts.map V.str) us → ∃ l : List (Str × Tok), us = strValues l ∧ l.map (·.1) = ts
 | [], _, .nil => ⟨[], rfl, rfl⟩
 | z :: ts, _, .cons r t => by
  obtain ⟨l, rfl, rfl⟩ := strs_vals t
  obtain ⟨tk, rfl⟩ := r
  exact ⟨(z, tk) :: l, rfl, rfl⟩
def rSplit : V → List V → Hp → VK → Prop := fun x vs H Q => match x, vs with
 | .str z, [] => z.length + 2 ≤ sizeLine ∧ ∀ p H', New H p (.lst ((Txt.words z).map V.str)) H' → Q (.ref p) H'
 | _, _ => False
def rJoin (K : PySem.W.Frag) : V → List V → Hp → VK → Prop := fun x vs H Q => match x, vs with
 | .str z, [.ref a] => ∃ ts : List Str, SqL K H a (ts.map V.str) ∧ (ts.map (·.length)).sum + ts.length ≤ 1048576 ∧ z.length ≤ 16 ∧ Q (.str (Str.join z ts)) H
 | _, _ => False
theorem mt_join {X : Cx} : MtR X "str.join" (rJoin X.K) := by
 intro pins s σ H x vs v us Q I rx rv h
 cases x with
 | str z =>
  match vs, h with
  | [.ref a], h =>
   obtain ⟨ts, hl, hw, hz, q⟩ := h
   obtain ⟨t, rfl⟩ := rx
   obtain ⟨u, rfl, ru⟩ := vals1 rv
   cases ru
   obtain ⟨its, r, pl, _⟩ := I.list hl
   obtain ⟨l, rfl, hlt⟩ := strs_vals r
   refine SC.join pl.isList hlt (joinOk_of_weight hw hz) fun t' k => ?_
   refine ⟨.str (Str.join z ts), H, I.tok _, ⟨t', ?_⟩, q⟩
   show Value.str (Builtin.Str.glued z ts) t' = _
   rw [StrLaws.glued_eq_join]
 | _ => exact False.elim h
theorem Same.nil {H H' : Hp} {p : Addr} (s : Same H H') (h : H' p = none) : H p = none := by
 cases e : H p with
 | none => rfl
 | some o => rw [s _ _ e] at h; cases h
structure Mad (H : Hp) (p : Addr) (o : HO) (H' : Hp) : Prop where
 was : H p = none
 at_ : H' p = some o
 same : Same H H'
theorem Mad.pre {H H0 H' : Hp} {p : Addr} {o : HO} (s : Same H0 H) (n : Mad H p o H') : Mad H0 p o H' := ⟨s.nil n.was, n.at_, s.trans n.same⟩
theorem mul_one (c : Nat) (n : Int) : (Txt.mul ⟨#[c]⟩ n).cps.toList = List.replicate n.toNat c := by
 unfold Txt.mul
 by_cases h1 : n < 1
 ·rw [if_pos h1]
  have : n.toNat = 0 := by omega
  rw [this]
  rfl
 ·rw [if_neg h1]
  by_cases h2 : (n == 1 || Str.length ⟨#[c]⟩ == 0) = true
  ·rw [if_pos h2]
   have h3 : n = 1 := by
    rw [Bool.or_eq_true] at h2
    rcases h2 with q | q
    ·exact beq_iff_eq.mp q
    ·exact absurd (beq_iff_eq.mp q) (by show ¬ (1 : Nat) = 0; decide)
   subst h3
   rfl
  ·rw [if_neg h2]
   show ((List.replicate n.toNat (#[c] : Array Nat)).foldl (· ++ ·) #[]).toList = _
   rw [fold_rep]
   simp
end L2
namespace MF
abbrev Pr := Int × Int
def tn (t : Int) : Int := if t % 2 = 0 then t + 1 else t - 1
def lo (s t : Int) : Int := if t < s then t else s
def hi (s t : Int) : Int := if t > s then t else s
def fnd : Int → List Pr → Pr → Option Int
 | _, [], _ => none
 | n, q :: r, p => if q = p then some n else fnd (n + 1) r p
def kn (m : Int) (ps : List Pr) (p : Pr) : Int := (fnd (m + 1) ps p).getD (m + 1 + ps.length)
def kp (m : Int) (ps : List Pr) (p : Pr) : List Pr := if (fnd (m + 1) ps p).isSome then ps else ps ++ [p]
def Ok (m : Int) (ps : List Pr) : Prop := ∀ (i : Nat) (p : Pr), ps[i]? = some p → 2 ≤ p.1 ∧ p.1 < p.2 ∧ p.1 / 2 ≠ p.2 / 2 ∧ p.2 < 2 * (m + 1 + i)
end MF
namespace MF
abbrev RS := Int × List Pr
def InT (m : Int) (ps : List Pr) (t : Int) : Prop := 0 ≤ t ∧ t < 2 * (m + 1 + ps.length)
structure St (m : Int) (ps : List Pr) (n : Nat) (r : RS) : Prop where
 ok : Ok m ps → Ok m r.2
 inn : InT m r.2 r.1
 lo : ps.length ≤ r.2.length
 hi : r.2.length ≤ ps.length + n
 pre : ∃ e, r.2 = ps ++ e
 nd : ps.Nodup → r.2.Nodup
theorem InT.tn {m t : Int} {ps : List Pr} (h : InT m ps t) : InT m ps (tn t) := by
 have h1 := h.1
 have h2 := h.2
 unfold InT MF.tn
 split <;> omega
theorem St.tn {m : Int} {ps : List Pr} {n : Nat} {r : RS} (h : St m ps n r) : St m ps n (tn r.1, r.2) := ⟨h.ok, h.inn.tn, h.lo, h.hi, h.pre, h.nd⟩
end MF
set_option maxHeartbeats 4000000
namespace L2
open PySem PySem.Spec PyProof.Rows
def knK (p : MF.Pr) : List Key := [.inl p.1, .inl p.2]
def kvF : Int → List MF.Pr → List (List Key × V)
 | _, [] => []
 | n, p :: r => (knK p, .int n) :: kvF (n + 1) r
abbrev En := Addr × MF.Pr
abbrev psOf (es : List En) : List MF.Pr := es.map (·.2)
structure PairsAt (H : Hp) (pl kl : Addr) (m : Int) (es : List En) : Prop where
 lst : H pl = some (.lst (es.map fun e => V.ref e.1))
 dct : H kl = some (.dT (kvF (m + 1) (psOf es)))
 tup : ∀ e ∈ es, H e.1 = some (.tup [.int e.2.1, .int e.2.2])
section
variable {H H' H1 : Hp} {pl kl p2 k2 f dx C : Addr} {m : Int} {es : List En} {o : HO}
structure FoldAt (C : Addr) (H : Hp) (f : Addr) (m : Int) (es : List En) (dx pl kl : Addr) : Prop where
 ins : H f = some (.ins C dx [("many", .int m), ("pairs", .ref pl), ("knots", .ref kl)])
 prs : PairsAt H pl kl m es
end
theorem cut_1 (xs : List V) : cutV xs (some 1) none = xs.drop 1 := by
 unfold cutV
 have e1 : HT.sIx xs.length 0 (some 1) = min 1 xs.length := by
  have := HT.sIx_nat xs.length 0 1
  rw [show ((1 : Nat) : Int) = 1 from rfl] at this
  rw [this]
 have e2 : HT.sIx xs.length xs.length none = xs.length := rfl
 rw [e1, e2]
 cases xs with
 | nil => rfl
 | cons a r =>
  have : min 1 (a :: r).length = 1 := by simp only [List.length_cons]; omega
  rw [this, List.take_of_length_le (by simp)]
end L2
set_option maxHeartbeats 4000000
namespace DL
open PySem DZ
theorem entry_list_ga : entryFor table "list.__getattribute__" = some Builtin.«object.__getattribute__» :=
 entryFor_alias (id' := "object.__getattribute__") (by kernel_rfl) (by first | rfl | decide +kernel) (by decide +kernel) (by kernel_rfl)
theorem lk_list_keys : typeLookup (.type "list") "keys" = pure none := by rw [typeLookup_type, builtinLookup_eq_fast]; kernel_rfl
section
variable {prog : Program} {w : World} {A : Around} {E : Value → Shared → Prop} {h : Heap} {g : Array GenState} {d : Drawn} {t : Nat} {os : OsState} {z : Addr} {vs : Array Value} {n : Nat}
theorem keys_entry {tk : Tok} {Q : Fin → Shared → Prop} (hh : A.handled = none) (hz : h.get? z = some { cls := .type "list", dict := none, data := .seq vs n, slots := #[] })
  (hE : ∀ h' e t', (∀ c o, h.get? c = some o → h'.get? c = some o) → (∃ o, h'.get? e = some o ∧ o.cls = .type "AttributeError") → E (.ref e) ⟨h', g, d, t', os⟩) :
  wpAny (model prog w) A (Builtin.«object.__getattribute__» ⟨[.ref z, .str "keys" tk], []⟩) Q E ⟨h, g, d, t, os⟩ := by
 have hT : (⟨h, g, d, t, os⟩ : Shared).TypeIs (.ref z) "list" := ⟨_, hz, rfl⟩
 have f4 := lk_list_keys
 repeat (any_goals (first | assumption | wp_step))
 refine wpAny_raiseAttrError hh (fun h' tk' e x => ?_) (attrMsg_fits (by decide +kernel) (by decide +kernel))
 obtain ⟨t', u', he⟩ := x.there
 exact hE h' e tk' (fun c o q => x.keeps c o q) ⟨_, he, rfl⟩
theorem keys_call {tk : Tok} {R : Result → Shared → Prop} (hh : A.handled = none) (hz : h.get? z = some { cls := .type "list", dict := none, data := .seq vs n, slots := #[] })
  (hE : ∀ h' e t', (∀ c o, h.get? c = some o → h'.get? c = some o) → (∃ o, h'.get? e = some o ∧ o.cls = .type "AttributeError") → R (.error (.ref e)) ⟨h', g, d, t', os⟩) :
  codeAny (model prog w) A (.call (.builtin "list.__getattribute__") ⟨[.ref z, .str "keys" tk], []⟩) R ⟨h, g, d, t, os⟩ :=
 codeAny_call_builtin F.slot_list_getattribute.plain entry_list_ga (F.slot_list_getattribute.check _ _ _ _ _ _ _ _ (show (⟨h, g, d, t, os⟩ : Shared).TypeIs (.ref z) "list" from ⟨_, hz, rfl⟩) (F.args_list_getattribute_2 _ _) (keys_entry hh hz hE))
theorem keys_by {tk : Tok} {Q : Value → Shared → Prop} (hh : A.handled = none) (hz : h.get? z = some { cls := .type "list", dict := none, data := .seq vs n, slots := #[] })
  (hE : ∀ h' e t', (∀ c o, h.get? c = some o → h'.get? c = some o) → (∃ o, h'.get? e = some o ∧ o.cls = .type "AttributeError") → E (.ref e) ⟨h', g, d, t', os⟩) :
  wpAny (model prog w) A (getAttrBy (.ref z) (.str "keys" tk) false) Q E ⟨h, g, d, t, os⟩ := by
 have hT : (⟨h, g, d, t, os⟩ : Shared).TypeIs (.ref z) "list" := ⟨_, hz, rfl⟩
 have f2 := F.slot_list_getattribute.lookup
 have f3 := F.slot_list_getattribute.bind (.ref z)
 have f1 := sub_AttributeError
 repeat (any_goals (first | assumption | wp_step))
 refine keys_call hh hz fun h' e t' k he => ?_
 obtain ⟨o, ho, hc⟩ := he
 have hTe : (⟨h', g, d, t', os⟩ : Shared).TypeIs (.ref e) "AttributeError" := ⟨o, ho, hc⟩
 have fin := hE h' e t' k ⟨o, ho, hc⟩
 have f5 : typeLookup (.type "list") "__getattr__" = pure none := by rw [typeLookup_type, builtinLookup_eq_fast]; kernel_rfl
 show wpAny _ _ (getattributeRaised _ _ _ _ _ _ _) _ _ _
 unfold getattributeRaised
 repeat (any_goals (first | assumption | wp_step))
theorem keys_none {Q : Option Value → Shared → Prop} (hh : A.handled = none) (hz : h.get? z = some { cls := .type "list", dict := none, data := .seq vs n, slots := #[] })
  (hq : ∀ h' t', (∀ c o, h.get? c = some o → h'.get? c = some o) → Q none ⟨h', g, d, t', os⟩) :
  wpAny (model prog w) A (getAttr? (.ref z) "keys") Q E ⟨h, g, d, t, os⟩ := by
 unfold getAttr? getAttrBy?
 have f1 := sub_AttributeError
 refine wpAny_bind (wpAny_mkText ?_)
 refine wpAny_bind (wpAny_attempt (keys_by hh hz fun h' e t' k he => ?_))
 obtain ⟨o, ho, hc⟩ := he
 refine wpAny_bind (wpAny_isInstance (T := "AttributeError") (b := true) ⟨o, ho, hc⟩ f1 ?_)
 exact wpAny_pure (hq _ _ k)
end
section
variable {prog : Program} {w : World} {A : Around} {E : Value → Shared → Prop} {s : Shared} {κ : Type} [DecidableEq κ] {knd : KeyKind prog w κ}
def Prs (knd : KeyKind prog w κ) (d it : Addr) (xs : Array Value) (es : List (κ × Value)) (h : Heap) : Prop :=
 ∀ (j : Nat) p, es[j]? = some p → ∃ T kx o m, xs[j]? = some (.ref T) ∧ T ≠ d ∧ T ≠ it ∧ knd.is p.1 kx = true ∧ h.get? T = some o ∧ o.cls = .type "tuple" ∧ o.data = .seq #[kx, p.2] m
theorem dict_loop {it l d : Addr} {xs : Array Value} {es : List (κ × Value)} {R : Result → Shared → Prop} (hh : A.handled = none) (n1 : it ≠ d) (n2 : l ≠ d) (n3 : l ≠ it) (hk : es.length = xs.size) (hz : xs.size ≤ 2000) :
  ∀ (m i : Nat) (s : Shared) (kvs : List (κ × Value)), i + m = xs.size → kvs.length ≤ i → s.heap.IsListIter it l i → s.heap.IsList l xs → Prs knd d it xs es s.heap → s.heap.DictOf knd d kvs →
   (∀ h' t', h'.DictOf knd d ((es.drop i).foldl (fun e p => stored e p.1 p.2) kvs) → (∀ c o, c ≠ d → c ≠ it → s.heap.get? c = some o → h'.get? c = some o) → R (.ok (.ret .none)) { s with heap := h', toks := t' }) →
   codeAny (model prog w) A (.builtin "dict.update.loop" ⟨[.ref d, .ref it, rawInt i, .none], []⟩) R s
 | 0, i, s, kvs, hm, hl, S, L, P, hd, hR => by
  refine codeAny_builtin entry_dict_loop ?_
  rw [Around.under_plainId plain_dict_loop _]
  unfold Builtin.«dict.update.loop»
  refine wpAny_bind (wpAny_pyNext_list_end hh S L (Array.getElem?_eq_none (by omega)) fun h' eb => ?_)
  have e1 : es.drop i = [] := List.drop_eq_nil_of_le (by omega)
  rw [e1] at hR
  have hd' : h'.DictOf knd d kvs := by
   obtain ⟨o, es, ep, ho, r⟩ := hd
   exact ⟨o, es, ep, eb _ _ n1.symm ho, r⟩
  exact wpAny_bind (wpAny_pure (wpAny_pure (hR h' s.toks hd' fun c o c0 c1 e => eb c o c1 e)))
 | m + 1, i, s, kvs, hm, hl, S, L, P, hd, hR => by
  refine codeAny_builtin entry_dict_loop ?_
  rw [Around.under_plainId plain_dict_loop _]
  unfold Builtin.«dict.update.loop»
  have hi : i < es.length := by omega
  have hei : es[i]? = some es[i] := List.getElem?_eq_getElem hi
  obtain ⟨T, kx, o, mm, hx, nd, nit, hkx, ho, hcl, hda⟩ := P i _ hei
  refine wpAny_bind (wpAny_pyNext_list_item S L (x := .ref T) hx fun h1 S1 sb1 => ?_)
  have k1 : ∀ c o, c ≠ it → s.heap.get? c = some o → h1.get? c = some o := fun c o hc e => (sb1.2 c hc).trans e
  refine wpAny_bind (wpAny_holding ?_)
  have hd1 : h1.DictOf knd d kvs := by
   obtain ⟨o, es, ep, ho, r⟩ := hd
   exact ⟨o, es, ep, k1 _ _ n1.symm ho, r⟩
  refine wpAny_bind (wpAny_tryCatch ?_)
  unfold Builtin.Dict.pairItems
  refine wpAny_bind (wpAny_typeOf (T := "tuple") ⟨o, k1 _ _ nit ho, hcl⟩ ?_)
  rw [if_pos (by decide)]
  refine wpAny_bind (wpAny_seqItems (k1 _ _ nit ho) hda (wpAny_pure ?_))
  refine wpAny_holding (wpAny_dictSet_pairs (knd := knd) (s := { s with heap := h1 }) hkx hd1 (fun h2 d2 sb => ?_) (Nat.le_trans hl (Nat.le_trans (by omega) (show 2000 ≤ sizeLine by decide))))
  have k2 : ∀ c o, c ≠ d → h1.get? c = some o → h2.get? c = some o := fun c o hc e => (sb.2 c hc).trans e
  have S2 : h2.IsListIter it l (i + 1) := S1.at fun o e => k2 it o n1 e
  have L2 : h2.IsList l xs := L.at fun o e => k2 l o n2 (k1 l o n3 e)
  have P2 : Prs knd d it xs es h2 := fun j p hj => by
   obtain ⟨T', kx', o', m', q1, q2, q3, q4, q5, q6, q7⟩ := P j p hj
   exact ⟨T', kx', o', m', q1, q2, q3, q4, k2 _ _ q2 (k1 _ _ q3 q5), q6, q7⟩
  refine wpAny_pure ⟨plainId_quiet plain_dict_loop _, ?_⟩
  have e1 : es.drop i = es[i] :: es.drop (i + 1) := List.drop_eq_getElem_cons hi
  refine dict_loop hh n1 n2 n3 hk hz m (i + 1) _ _ (by omega) ?_ S2 L2 P2 d2 ?_
  ·have := len_stored kvs es[i].1 es[i].2
   omega
  ·intro h' t' d' k'
   rw [e1] at hR
   exact hR h' t' d' fun c o c0 c1 e => k' c o c0 c1 (k2 c o c0 (k1 c o c1 e))
theorem iter_l {l : Addr} {xs : Array Value} {n : Nat} {Q : Value → Shared → Prop} (hz : s.heap.get? l = some { cls := .type "list", dict := none, data := .seq xs n, slots := #[] })
  (h : Q (.ref s.heap.objs.size) { s with heap := s.heap.push { cls := .type "list_iterator", data := .fields #[.ref l, .int 0 0] } }) : wpAny (model prog w) A (pyIter (.ref l)) Q E s := wpAny_pyIter_list (items := xs) ⟨_, hz, rfl, n, rfl⟩ h
theorem call_dict {l : Addr} {xs : Array Value} {n : Nat} {es : List (κ × Value)} {Q : Value → Shared → Prop} (hh : A.handled = none) (hl : s.heap.get? l = some { cls := .type "list", dict := none, data := .seq xs n, slots := #[] })
  (hk : es.length = xs.size) (hz : xs.size ≤ 2000) (P : ∀ (j : Nat) p, es[j]? = some p → ∃ T kx o m, xs[j]? = some (.ref T) ∧ knd.is p.1 kx = true ∧ s.heap.get? T = some o ∧ o.cls = .type "tuple" ∧ o.data = .seq #[kx, p.2] m)
  (q : ∀ h' t', h'.DictOf knd s.heap.objs.size (es.foldl (fun e p => stored e p.1 p.2) []) → (∀ c o, s.heap.get? c = some o → h'.get? c = some o) → Q (.ref s.heap.objs.size) { s with heap := h', toks := t' }) :
  wpAny (model prog w) A (call (.type "dict") [.ref l]) Q E s := by
 refine callType_codes (Q₁ := fun v s1 => v = .ref s.heap.objs.size ∧ s1 = { s with heap := s.heap.push { cls := .type "dict", data := .dict #[] } }) called_dict (typeCall_dict_1 _) F.entry_dict_init (dict_new _ ⟨rfl, rfl⟩) ?_
 rintro obj s1 ⟨rfl, rfl⟩
 refine ⟨⟨_, Heap.get?_push_size _ rfl, rfl⟩, F.args_dict_init_2 _ _, ?_⟩
 obtain ⟨hp, g, d0, tk, os⟩ := s
 dsimp only at *
 have hl' := Heap.get?_push_of_some { cls := .type "dict", data := .dict #[] } hl
 have hTd : (⟨hp.push { cls := .type "dict", data := .dict #[] }, g, d0, tk, os⟩ : Shared).TypeIs (.ref hp.objs.size) "dict" := ⟨_, Heap.get?_push_size _ rfl, rfl⟩
 have hTz : (⟨hp.push { cls := .type "dict", data := .dict #[] }, g, d0, tk, os⟩ : Shared).TypeIs (.ref l) "list" := ⟨_, hl', rfl⟩
 have hsub := sub_dict_self
 unfold Builtin.«dict.__init__»
 repeat (any_goals (first | assumption | (with_reducible refine keys_none hh hl' fun h' t' k => ?_) | (with_reducible refine iter_l (k _ _ hl') ?_) | wp_step))
 have lt : ∀ {c : Addr} {o : Obj}, hp.get? c = some o → c ≠ hp.objs.size := fun e => Nat.ne_of_lt (Heap.lt_size e)
 have up : ∀ c o, hp.get? c = some o → h'.get? c = some o := fun c o e => k c o (Heap.get?_push_of_some _ e)
 have up2 : ∀ c o, hp.get? c = some o → (h'.push { cls := .type "list_iterator", data := .fields #[.ref l, .int 0 0] }).get? c = some o := fun c o e => Heap.get?_push_of_some _ (up c o e)
 have lt2 : ∀ {c : Addr} {o : Obj}, hp.get? c = some o → c ≠ h'.objs.size := fun e => Nat.ne_of_lt (Heap.lt_size (up _ _ e))
 have nd : h'.objs.size ≠ hp.objs.size := (Nat.ne_of_lt (Heap.lt_size (k _ _ (Heap.get?_push_size _ rfl)))).symm
 refine ⟨plainId_quiet plain_dict_loop _, dict_loop (A := A.in1) (knd := knd) (es := es) (show A.in1.handled = none from hh) nd (lt hl) (lt2 hl) hk hz xs.size 0 _ [] (by omega) (by simp) ⟨_, Heap.get?_push_size _ rfl, rfl, rfl⟩ ⟨_, up2 _ _ hl, rfl, n, rfl⟩ (fun j p hj => ?_) ?_ ?_⟩
 ·obtain ⟨T, kx, o, m, q1, q2, q3, q4, q5⟩ := P j p hj
  exact ⟨T, kx, o, m, q1, lt q3, lt2 q3, q2, up2 _ _ q3, q4, q5⟩
 ·obtain ⟨o, es, ep, ho, r⟩ := Heap.DictOf.new (knd := knd) hp
  exact ⟨o, es, ep, Heap.get?_push_of_some _ (k _ _ ho), r⟩
 ·intro h2 t2 d2 k2
  refine ⟨rfl, q h2 t2 ?_ fun c o e => k2 c o (lt e) (lt2 e) (up2 c o e)⟩
  simpa using d2
end
end DL
namespace L2
open PySem PySem.Spec PyProof.Rows
def cDictP (_ : PySem.W.Frag) : List V → Hp → VK → Prop := fun vs H Q => match vs with
 | [.ref a] => ∃ (ys : List V) (ps : List (Key × V)), H a = some (.lst ys) ∧ ys.length = ps.length ∧ ps.length ≤ 2000 ∧ (∀ (j : Nat) p, ps[j]? = some p → ∃ T, ys[j]? = some (.ref T) ∧ H T = some (.tup [kV p.1, p.2])) ∧ ∀ p H', New H p (.dK (mergeK [] ps)) H' → Q (.ref p) H'
 | _ => False
theorem pairsKV {F : Nat → Key × V → Key × Value → Prop} : ∀ (ps : List (Key × V)) (m : Nat), (∀ (j : Nat) p, ps[j]? = some p → ∃ u, RelV p.2 u ∧ F (m + j) p (p.1, u)) →
  ∃ es : List (Key × Value), es.length = ps.length ∧ (∀ (j : Nat) e, es[j]? = some e → ∃ p, ps[j]? = some p ∧ F (m + j) p e) ∧ ∀ (kvs : List (Key × V)) (ws : List (Key × Value)), KV kvs ws → KV (ps.foldl (fun acc kv => putK acc kv.1 kv.2) kvs) (es.foldl (fun e p => stored e p.1 p.2) ws)
 | [], m, _ => ⟨[], rfl, fun j e h => by simp at h, fun kvs ws r => r⟩
 | p :: r, m, h => by
  obtain ⟨u, ru, fu⟩ := h 0 p rfl
  obtain ⟨es, hl, he, hk⟩ := pairsKV r (m + 1) fun j p' hj => by
   obtain ⟨u', h1, h2⟩ := h (j + 1) p' (by simpa using hj)
   exact ⟨u', h1, by rw [show m + 1 + j = m + (j + 1) by omega]; exact h2⟩
  refine ⟨(p.1, u) :: es, by simp [hl], fun j e hj => ?_, fun kvs ws rr => hk _ _ (rr.put p.1 ru)⟩
  cases j with
  | zero =>
   have : (p.1, u) = e := by simpa using hj
   subst this
   exact ⟨p, rfl, fu⟩
  | succ j =>
   obtain ⟨p', h1, h2⟩ := he j e (by simpa using hj)
   exact ⟨p', by simpa using h1, by rw [show m + (j + 1) = m + 1 + j by omega]; exact h2⟩
theorem c_dictP {X : Cx} (hc : X.calm = true) : CallR X (.type "dict") (cDictP X.K) := by
 intro pins s σ H xs us Q I r h
 match xs, h with
 | [.ref a], h =>
  obtain ⟨ys, ps, hL, hl, hz, hp, q⟩ := h
  obtain ⟨u1, rfl, e1⟩ := vals1 r
  cases e1
  obtain ⟨z, its, n, rv, hlen, hget⟩ := I.lstM hL
  have item : ∀ (j : Nat) p, ps[j]? = some p → ∃ u, RelV p.2 u ∧ ∃ T kx o m, its[j]? = some (.ref T) ∧ (mixKind X.prog X.w).is p.1 kx = true ∧ s.heap.get? T = some o ∧ o.cls = .type "tuple" ∧ o.data = .seq #[kx, u] m := fun j p hj => by
   obtain ⟨T, hT, hH⟩ := hp j p hj
   obtain ⟨uT, h1, h2⟩ := rv.get hT
   cases h2
   obtain ⟨itt, rt, ⟨o, ho, hcl, m, hda⟩, _⟩ := I.tuple (SqT.of hH)
   obtain ⟨w1, w2, rfl, r1, r2⟩ := Vals.two rt
   exact ⟨w2, r2, T, w1, o, m, h1, kV_is r1, ho, hcl, hda⟩
  obtain ⟨es, hel, hes, hkv⟩ := pairsKV (F := fun j p e => ∃ T kx o m, its[j]? = some (.ref T) ∧ (mixKind X.prog X.w).is e.1 kx = true ∧ s.heap.get? T = some o ∧ o.cls = .type "tuple" ∧ o.data = .seq #[kx, e.2] m) ps 0 fun j p hj => by
   obtain ⟨u, h1, T, kx, o, m, h2⟩ := item j p hj
   exact ⟨u, h1, T, kx, o, m, by rw [Nat.zero_add]; exact h2⟩
  refine DL.call_dict (knd := mixKind X.prog X.w) (es := es) (I.ok.hd hc) hget (by rw [List.size_toArray]; omega) (by rw [List.size_toArray]; omega) (fun j p hj => ?_) fun h2 t2 dd k2 => ?_
  ·obtain ⟨p', _, T, kx, o, m, q1, q2, q3, q4, q5⟩ := hes j p hj
   exact ⟨T, kx, o, m, by rw [Nat.zero_add] at q1; simpa using q1, q2, q3, q4, q5⟩
  ·have hfree : H s.heap.objs.size = none := I.hok.fresh (Nat.le_refl _)
   have rel : KV (mergeK [] ps) (es.foldl (fun e p => stored e p.1 p.2) []) := hkv [] [] .nil
   have hlen2 : (mergeK [] ps).length ≤ sizeLine := by
    have h1 := length_mergeK ps []
    rw [List.length_nil] at h1
    rw [sizeLine_eq]; omega
   have hsm : ((s.heap.objs.size : Addr) == sysModules) = false := beq_eq_false_iff_ne.mpr (Ne.symm (Nat.ne_of_lt I.big))
   refine ⟨.ref s.heap.objs.size, upd H s.heap.objs.size (.dK (mergeK [] ps)), ?_, rfl, q _ _ ⟨hfree, rfl⟩⟩
   exact I.dz (ch := []) (h' := h2) (t' := t2) (fun b hb => nomatch hb) (Nat.le_refl _) (fun b o _ e => k2 b o e) (dk_new hlen2 hsm rel dd)
end L2
set_option maxHeartbeats 4000000
namespace EX
open PySem
structure Lv (S : List Addr) (e : Addr) (old : List Addr) (cls : Value) (h h' : Heap) (T : Addr) : Prop where
 ge : h.objs.size ≤ T
 exc : ∃ oe vs, h'.get? e = some oe ∧ oe.cls = cls ∧ oe.data = .fields vs ∧ vs[1]? = some (.ref T) ∧ oe.dict = none
 tb : ∃ oT ts, h'.get? T = some oT ∧ oT.data = .fields ts ∧ ts[3]? = some .none
 keep : ∀ b o, b ∉ S → b ≠ e → b ∉ old → h.get? b = some o → h'.get? b = some o
 slot : ∀ b o, b ∈ S → h.get? b = some o → ∃ sl, h'.get? b = some { o with slots := sl }
section
variable {M : Model} {A : Around} {E : Value → Shared → Prop} {s : Shared}
def Trc (h : Heap) (e : Addr) (vs : Array Value) (old : List Addr) : Prop :=
 (vs[1]? = some .none ∧ old = []) ∨ ∃ T0 oT ts, old = [T0] ∧ vs[1]? = some (.ref T0) ∧ T0 ≠ e ∧ h.get? T0 = some oT ∧ oT.data = .fields ts ∧ ts[3]? = some .none
end
end EX
set_option maxHeartbeats 4000000
namespace L2
open PySem PySem.Spec PyProof.Rows
theorem ObjOk.has {P : Program} {w : World} {H : Hp} {h : Heap} {a : Addr} {o : HO} (x : ObjOk P w H h a o) : ∃ u, h.get? a = some u := by
 cases o with
 | lst xs => obtain ⟨_, _, _, _, e⟩ := x; exact ⟨_, e⟩
 | tup xs => obtain ⟨_, _, _, _, e, _⟩ := x; exact ⟨_, e⟩
 | dK kvs => obtain ⟨_, _, _, _, o, _, _, e, _⟩ := x; exact ⟨_, e⟩
 | dT kvs => obtain ⟨_, _, _, _, o, _, _, e, _⟩ := x; exact ⟨_, e⟩
 | set S n => obtain ⟨o, _, _, _, e, _⟩ := x; exact ⟨_, e⟩
 | ins C dx fs => obtain ⟨_, _, _, e, _⟩ := x; exact ⟨_, e⟩
 | own y => exact x
 | xd fs => obtain ⟨_, ⟨_, _, _, e, _⟩, _⟩ := x; exact ⟨_, e⟩
 | rng lo hi => obtain ⟨_, _, _, e⟩ := x; exact ⟨_, e⟩
 | frz ob u => obtain ⟨e, _⟩ := x; exact ⟨_, e⟩
 | tbl ps => exact ⟨_, (show h.get? a = some _ from x)⟩
 | met f y => exact ⟨_, (show h.get? a = some _ from x)⟩
 | ext φ => obtain ⟨_, e, _⟩ := x; exact e
theorem HOk.unseen {P : Program} {w : World} {H : Hp} {h : Heap} {a : Addr} (x : HOk P w H h) (e : h.get? a = none) : H a = none := by
 cases q : H a with
 | none => rfl
 | some u =>
  obtain ⟨o, z⟩ := (x a u q).has
  rw [e] at z; cases z
def FlOk (X : Cx) (pins : List (Addr × Obj)) (H : Hp) (b : Addr) : Prop :=
 H b = none ∧ b ≠ X.env.locals ∧ b ∉ X.fs ∧ (b ∈ X.ex ∨ X.s₀.heap.get? b = none) ∧ (∀ x c, X.env.cells.lookup x = some c → c ≠ b) ∧ ∀ p ∈ X.pn ++ pins, p.1 ≠ b
structure Fly (X : Cx) (pins : List (Addr × Obj)) (H : Hp) (e C : Addr) (s : Shared) : Prop where
 fe : FlOk X pins H e
 obj : ∃ oe vs old, s.heap.get? e = some oe ∧ oe.cls = .ref C ∧ oe.data = .fields vs ∧ EX.Trc s.heap e vs old ∧ oe.dict = none ∧ ∀ b ∈ old, FlOk X pins H b
section
variable {P : Program} {w : World} {K : PySem.W.Frag} {mg : Str → Option Value} {base : Heap}
end
section
open PySem.W
end
def Cx.plus (X : Cx) (l : List Addr) : Cx := { X with ex := l ++ X.ex }
section
variable {X : Cx} {pins : List (Addr × Obj)} {σ : St} {H : Hp} {s : Shared} {l : List Addr}
theorem unseen_base (I : Inv X pins σ H s) {b : Addr} (hb : X.s₀.heap.get? b = none) (o : Obj) : X.base.get? b ≠ some o := fun z => by
 have := (I.ok.bs b o z).1
 rw [hb] at this; cases this
theorem Inv.plus (I : Inv X pins σ H s) (h : ∀ b ∈ l, FlOk X pins H b) : Inv (X.plus l) pins σ H s := by
 have K := I.ok
 refine ⟨⟨K.mod, K.kind, K.glob, K.blt, K.above, K.inj, K.has, K.cab, K.hd, K.frames, K.stk, fun b hb => ?_, K.bs, K.bsz, fun b o e hb => ?_, fun b hb => ?_, K.funs, K.frf⟩, I.os, I.bare, ?_, I.loc, I.cell, I.free, I.freeC, I.pin, I.hok, I.len⟩
 ·rcases List.mem_append.mp hb with z | z
  ·exact ⟨(h b z).2.1, (h b z).2.2.2.2.1⟩
  ·exact K.exf b z
 ·rcases List.mem_append.mp hb with z | z
  ·rcases (h b z).2.2.2.1 with y | y
   ·exact K.noex b o e y
   ·exact unseen_base I y o e
  ·exact K.noex b o e z
 ·rcases List.mem_append.mp hb with z | z
  ·exact (h b z).2.2.1
  ·exact K.exfs b z
 ·have no : ∀ {b : Addr}, b ∉ l ++ X.ex → b ∉ X.ex := fun hb z => hb (List.mem_append_right _ z)
  exact ⟨fun b o e n hb hx => I.base.keep b o e n hb (no hx), fun b o e n hb hx => I.base.slot b o e n hb (no hx), fun b o e n hx => I.base.free b o e n (no hx), fun b o e hx => I.base.there b o e (no hx), I.base.tups, I.base.frzs, I.base.tbls⟩
theorem Inv.minus (I : Inv (X.plus l) pins σ H s) (K : X.Ok) (h : ∀ b ∈ l, b ∈ X.ex ∨ X.s₀.heap.get? b = none) : Inv X pins σ H s := by
 have no : ∀ {b : Addr} {o : Obj}, X.s₀.heap.get? b = some o → b ∉ X.ex → b ∉ l ++ X.ex := fun {b o} e hb z => by
  rcases List.mem_append.mp z with y | y
  ·rcases h b y with u | u
   ·exact hb u
   ·rw [u] at e; cases e
  ·exact hb y
 exact ⟨K, I.os, I.bare, ⟨fun b o e n hb hx => I.base.keep b o e n hb (no e hx), fun b o e n hb hx => I.base.slot b o e n hb (no e hx), fun b o e n hx => I.base.free b o e n (no e hx), fun b o e hx => I.base.there b o e (no e hx), I.base.tups, I.base.frzs, I.base.tbls⟩,
  I.loc, I.cell, I.free, I.freeC, I.pin, I.hok, I.len⟩
theorem Inv.turn {h' : Heap} (I : Inv X pins σ H s) (h : ∀ b ∈ l, FlOk X pins H b)
  (keep : ∀ b o, b ∉ frs X.stack → b ∉ l → s.heap.get? b = some o → h'.get? b = some o) (slot : ∀ b o, b ∈ frs X.stack → s.heap.get? b = some o → ∃ sl, h'.get? b = some { o with slots := sl }) : Inv X pins σ H { s with heap := h' } := by
 have I1 := I.plus h
 have st : ∀ b, H b ≠ none → b ∉ frs X.stack ∧ b ∉ l := fun b n => ⟨fun z => n (I.stkFree b z), fun z => n (h b z).1⟩
 have u : Un (frs X.stack) l H H s.heap h' := by
  refine ⟨fun b o e n hb hx => keep b o hb hx e, fun b o e n hb hx => slot b o hb e, fun b o e n hx => n, fun b o e hx => ?_, fun _ _ e => e, fun _ _ _ e => e, fun b ps e => ⟨#[], by rw [e]; simp⟩⟩
  by_cases hb : b ∈ frs X.stack
  ·obtain ⟨sl, q⟩ := slot b o hb e
   exact ⟨_, q⟩
  ·exact ⟨o, keep b o hb hx e⟩
 have hok : HOk X.prog X.w H h' := fun b u e1 => by
  refine (I.hok b u e1).stay (fun c v hc hv => ?_) (fun _ z => z) fun _ _ z => z
  have n : H c ≠ none := fun z => by
   rcases hc with y | y
   ·rw [y, e1] at z; cases z
   ·rw [y] at z; cases z
  exact keep c v (st c n).1 (st c n).2 hv
 exact Inv.minus (l := l) (I1.call (g' := s.gens) (d' := s.drawn) (t' := s.toks) (ch := l) u hok I.bare fun b hb => ⟨.inl (List.mem_append_left _ hb), (h b hb).2.1, (h b hb).2.2.2.2.1, (h b hb).2.2.2.2.2⟩) I.ok fun b hb => (h b hb).2.2.2.1
structure Held (X : Cx) (pins : List (Addr × Obj)) (H : Hp) (e C T : Addr) (s : Shared) : Prop where
 fe : FlOk X pins H e
 fT : FlOk X pins H T
 ne : T ≠ e
 exc : ∃ oe vs, s.heap.get? e = some oe ∧ oe.cls = .ref C ∧ oe.data = .fields vs ∧ vs[1]? = some (.ref T) ∧ oe.dict = none
 tb : ∃ oT ts, s.heap.get? T = some oT ∧ oT.data = .fields ts ∧ ts[3]? = some .none
theorem again {e C T : Addr} {Q : Unit → Shared → Prop} {A : Around} (I : Inv X pins σ H s) (hd : Held X pins H e C T s)
  (q : ∀ h', Inv X pins σ H { s with heap := h' } → Held X pins H e C T { s with heap := h' } → Q () { s with heap := h' }) {E : Value → Shared → Prop} :
  wpAny (model X.prog X.w) A (setFlight (.ref e) none) Q E s := by
 obtain ⟨fe, fT, ne, ⟨oe, vs, h1, h2, h3, h4, h5⟩, ⟨oT, ts, t1, t2, t3⟩⟩ := hd
 unfold setFlight
 refine wpAny_bind (wpAny_field h1 h3 h4 ?_)
 rw [if_pos (show (Value.ref T != Value.none) = true by simp)]
 refine wpAny_setField t1 t2 (Array.getElem?_eq_some_iff.mp t3).1 ?_
 have d4 := Obj.data_mapFields t2 (·.setIfInBounds 3 ((none : Option Addr).elim Value.none fun f => rawInt f))
 have ot : ∀ b, b ≠ T → (s.heap.update T (Obj.mapFields (·.setIfInBounds 3 ((none : Option Addr).elim Value.none fun f => rawInt f)))).get? b = s.heap.get? b := fun b hb => Heap.get?_update_other _ _ (Ne.symm hb)
 have notT : ∀ b, b ∈ frs X.stack → b ≠ T := fun b hb z => by
  obtain ⟨_, o, ho, nf⟩ := I.stack.mem hb
  rw [z, t1] at ho; cases ho
  exact nf ts t2
 refine q _ (I.turn (l := [T]) (fun b hb => ?_) (fun b o hb hl ho => ?_) fun b o hb ho => ?_) ⟨fe, fT, ne, ⟨oe, vs, (ot e (Ne.symm ne)).trans h1, h2, h3, h4, h5⟩, ⟨_, _, Heap.get?_update_self _ t1 (Obj.isFreed_of_fields d4), d4, ?_⟩⟩
 ·rw [List.mem_singleton.mp hb]; exact fT
 ·exact (ot b (fun z => hl (by simp [z]))).trans ho
 ·exact ⟨o.slots, (ot b (notT b hb)).trans ho⟩
 ·simp [(Array.getElem?_eq_some_iff.mp t3).1]
end
def mroIn (K : PySem.W.Frag) (C : Addr) : List Value := match K.lookup C with
 | some ⟨_, _, .cls cd, _⟩ => cd.mro
 | _ => []
section
open PySem.W
end
def Cx.tr (X : Cx) (pins : List (Addr × Obj)) (Ex : St → XK) : Cx :=
 { X with pn := X.pn ++ pins, xe := fun er s => ∃ σ e C H, er = .ref e ∧ Inv X pins σ H s ∧ Fly X pins H e C s ∧ Ex σ (.ref e) (some C) H }
section
variable {X : Cx} {pins : List (Addr × Obj)} {σ : St} {H : Hp} {s : Shared} {e C T : Addr} {D : Ends} {f : Flow} {Ex : St → XK}
theorem Inv.tr (I : Inv X pins σ H s) (Ex : St → XK) : Inv (X.tr pins Ex) [] σ H s :=
 ⟨⟨I.ok.mod, I.ok.kind, I.ok.glob, I.ok.blt, I.ok.above, I.ok.inj, I.ok.has, I.ok.cab, I.ok.hd, I.ok.frames, I.ok.stk, I.ok.exf, I.ok.bs, I.ok.bsz, I.ok.noex, I.ok.exfs, I.ok.funs, I.ok.frf⟩, I.os, I.bare, I.base, I.loc, I.cell, I.free, I.freeC, fun p hp => I.pin p (by rw [List.append_nil] at hp; exact hp), I.hok, I.len⟩
end
section
variable {X : Cx} {x : Str} {np pos : Pos} {Dc : Addr} {b₀ : Stmt} {body : List Stmt} {rest : List ExceptHandler} {hd : Addr → Addr → TS} {ts : TS}
end
section
variable {X : Cx} {k : Nat} {f C : Addr} {fd : FuncData} {ps : List Str} {sp : Sp} {dvs : List V} {ds : List Value} {Ex : St → XK} {x m : Str} {p pos apos : Pos} {e o : Expr} {es : List Expr} {ta : TE} {t : TA}
end
def excAt (a C : Addr) : Heap → Prop := fun h => ∃ o vs, h.get? a = some o ∧ o.cls = .ref C ∧ o.data = .fields vs ∧ o.dict = none
def xo (a C : Addr) : HO := .ext (excAt a C)
section
variable {X : Cx} {pins : List (Addr × Obj)} {σ : St} {H : Hp} {s : Shared} {e C T : Addr}
theorem Inv.seen {oe : Obj} (I : Inv X pins σ H s) (fe : FlOk X pins H e) (ho : s.heap.get? e = some oe) (hc : oe.cls = .ref C) {vs : Array Value} (hf : oe.data = .fields vs) (hdn : oe.dict = none) : Inv X pins σ (upd H e (xo e C)) s := by
 have ne : ∀ {b u}, H b = some u → b ≠ e := fun {b u} h z => by rw [z, fe.1] at h; cases h
 have up : ∀ {b u}, H b = some u → upd H e (xo e C) b = some u := fun {b u} h => (upd_ne (ne h)).trans h
 refine ⟨I.ok, I.os, I.bare, ⟨I.base.keep, I.base.slot, fun b o e1 n hx => ?_, I.base.there, fun b xs h => up (I.base.tups b xs h), fun b o u h => up (I.base.frzs b o u h), fun b ps h => ?_⟩, I.loc, I.cell, (upd_ne (Ne.symm fe.2.1)).trans I.free, fun x c h => (upd_ne (fe.2.2.2.2.1 x c h)).trans (I.freeC x c h), fun p hp => ?_, fun b u h => ?_, I.len⟩
 ·refine (upd_ne fun z => ?_).trans (I.base.free b o e1 n hx)
  rcases fe.2.2.2.1 with y | y
  ·exact hx (z ▸ y)
  ·rw [z, y] at e1; cases e1
 ·obtain ⟨more, q⟩ := I.base.tbls b ps h
  exact ⟨more, up q⟩
 ·obtain ⟨a1, a2, a3⟩ := I.pin p hp
  exact ⟨a1, (upd_ne (fe.2.2.2.2.2 p hp)).trans a2, a3⟩
 ·by_cases hb : b = e
  ·rw [hb, upd_same] at h
   cases h
   rw [hb]
   exact ⟨⟨oe, vs, ho, hc, hf, hdn⟩, ⟨oe, ho⟩, fun h1 h2 ⟨o, vs, p1, p2⟩ k => ⟨o, vs, k o p1, p2⟩⟩
  ·rw [upd_ne hb] at h
   exact (I.hok b u h).stay (fun c v _ q => q) (fun c q => up q) fun c xs q => up q
end
section
open PySem.W PySem.Calls
variable {prog : Program} {w : World} {A : Around} {E : Value → Shared → Prop} {s : Shared} {K : Frag} {a C : Addr}
end
structure RoomM (k : Nat) (A : Around) : Prop where
 dp : A.depth + 3 * k + 5 < recursionLimit
 un : A.units + 16 * k + 200 < cLine
theorem Room.m {k : Nat} {A : Around} (r : Room k A) : RoomM k A := ⟨r.dp, r.un⟩
theorem RoomM.mark {k : Nat} {A : Around} (r : RoomM k A) (v : Option Value) : RoomM k (A.mark v) := ⟨r.dp, r.un⟩
structure FnOkM (P : Program) (w : World) (K : PySem.W.Frag) (mg : Str → Option Value) (base : Heap) (CX : CXT) (k : Nat) (f : Addr) (fd : FuncData) (ps : List Str) (sp : Sp) : Prop where
 len : ∀ vs H Q E, sp vs H Q E → vs.length = ps.length
 run : ∀ (A : Around) (outer : List Env) (s : Shared) (H : Hp) (args : Args) (us : List Value) (vs : List V) (Q : VK) (E : XK), RoomM k A → Env0 P w K mg base A outer s H → BindsTo s fd args (ps.zip us) → Vals vs us → sp vs H Q E →
  codeAny (model P w) A (.call (.ref f) args) (CR CX outer P w H s Q E) s
section
variable {X : Cx} {CX : CXT} {k : Nat} {f C : Addr} {fd : FuncData} {ps : List Str} {sp : Sp} {dvs : List V} {ds : List Value} {E : XK} {x m : Str} {p pos apos : Pos} {e o : Expr} {es : List Expr} {ta : TE} {t : TA}
end
end L2
set_option maxHeartbeats 4000000
namespace DT
open PySem
section
variable {prog : Program} {w : World} {A : Around} {E : Value → Shared → Prop} {s : Shared} {d it : Addr} {od : Obj} {es : Array DictEntry} {ep i : Nat}
end
end DT
namespace L2
open PySem PySem.Spec PyProof.Rows
section
variable {X : Cx} {pins : List (Addr × Obj)} {σ : St} {H : Hp} {s : Shared} {d : Addr} {kvs : List (List Key × V)} {o : Obj}
theorem Inv.dT (I : Inv X pins σ H s) (e : Rd H d (.dT kvs)) : kvs.length ≤ sizeLine ∧ (d == sysModules) = false ∧ ∃ (xs : List (List Key × Addr × Value)) (od : Obj) (es : Array DictEntry) (ep : Nat), KT H kvs xs ∧ s.heap.get? d = some od ∧ od.ExactDict ∧ od.data = .dict es ep ∧ es.size = kvs.length ∧
  ∀ (i : Nat) p, kvs[i]? = some p → ∃ (b : Addr) (h : Int) (v : Value), es[i]? = some ⟨h, .ref b, v⟩ ∧ H b = some (.tup (p.1.map kV)) := by
 obtain ⟨z, y, xs, r, od, es, ep, h1, h2, h3, h4, h5⟩ := (show ObjOk X.prog X.w H s.heap d (.dT kvs) from rd_of I.hok e)
 have hl : kvs.length = xs.length := Paired.length r
 have hs : es.size = kvs.length := by rw [hl, ← Array.length_toList, h4, List.length_map]
 refine ⟨z, y, xs, od, es, ep, r, h1, h2, h3, hs, fun i p hp => ?_⟩
 have at_ : ∀ {l : List (List Key × V)} {m : List (List Key × Addr × Value)} {j : Nat} {q : List Key × V}, KT H l m → l[j]? = some q → ∃ x, m[j]? = some x ∧ H x.2.1 = some (.tup (q.1.map kV)) := by
  intro l m j q t
  induction t generalizing j with
  | nil => intro z; simp at z
  | @cons a b as bs hq _ ih =>
   intro z
   cases j with
   | zero =>
    have : a = q := by simpa using z
    subst this
    exact ⟨b, rfl, hq.2.1⟩
   | succ j => exact ih (by simpa using z)
 obtain ⟨x, hx, hH⟩ := at_ r hp
 have : es[i]? = some (entryOfKey (tupleKind (mixKind X.prog X.w)) x) := by rw [← Array.getElem?_toList, h4, List.getElem?_map, hx]; rfl
 exact ⟨x.2.1, _, _, this, hH⟩
end
section
variable {X : Cx} {pins : List (Addr × Obj)} {σ : St} {H : Hp} {s : Shared}
theorem FpOk.fl {b : Addr} (h : FpOk X pins H b) : FlOk X pins H b := ⟨h.1, h.2.1, h.2.2.1, h.2.2.2.1.imp id fun z => by
 cases e : X.s₀.heap.get? b with
 | none => rfl
 | some o => exact absurd (Heap.lt_size e) (Nat.not_lt.mpr z), h.2.2.2.2.1, h.2.2.2.2.2⟩
theorem Inv.adopt {e : Addr} {o : HO} (I : Inv X pins σ H s) (fe : FlOk X pins H e) (ok : ObjOk X.prog X.w (upd H e o) s.heap e o) : Inv X pins σ (upd H e o) s := by
 have ne : ∀ {b u}, H b = some u → b ≠ e := fun {b u} h z => by rw [z, fe.1] at h; cases h
 have up : ∀ {b u}, H b = some u → upd H e o b = some u := fun {b u} h => (upd_ne (ne h)).trans h
 refine ⟨I.ok, I.os, I.bare, ⟨I.base.keep, I.base.slot, fun b o e1 n hx => ?_, I.base.there, fun b xs h => up (I.base.tups b xs h), fun b o u h => up (I.base.frzs b o u h), fun b ps h => ?_⟩, I.loc, I.cell, (upd_ne (Ne.symm fe.2.1)).trans I.free, fun x c h => (upd_ne (fe.2.2.2.2.1 x c h)).trans (I.freeC x c h), fun p hp => ?_, fun b u h => ?_, I.len⟩
 ·refine (upd_ne fun z => ?_).trans (I.base.free b o e1 n hx)
  rcases fe.2.2.2.1 with y | y
  ·exact hx (z ▸ y)
  ·rw [z, y] at e1; cases e1
 ·obtain ⟨more, q⟩ := I.base.tbls b ps h
  exact ⟨more, up q⟩
 ·obtain ⟨a1, a2, a3⟩ := I.pin p hp
  exact ⟨a1, (upd_ne (fe.2.2.2.2.2 p hp)).trans a2, a3⟩
 ·by_cases hb : b = e
  ·rw [hb, upd_same] at h
   cases h
   rw [hb]
   exact ok
  ·rw [upd_ne hb] at h
   exact (I.hok b u h).stay (fun c v _ q => q) (fun c q => up q) fun c xs q => up q
theorem Inv.turnedL {h' : Heap} {t' : Nat} {l : List Addr} (I : Inv X pins σ H s) (hl : ∀ b ∈ l, FpOk X pins H b) (k : ∀ b o, b ∉ l → s.heap.get? b = some o → h'.get? b = some o) : Inv X pins σ H { s with heap := h', toks := t' } := by
 have nit : ∀ b u, H b = some u → b ∉ l := fun b u e z => by rw [(hl b z).1] at e; cases e
 refine I.step (g' := s.gens) (d' := s.drawn) (ch := l) (fun b hb => ?_) (fun b o _ _ hc e _ => k b o hc e) (fun b o _ _ hc e _ => ⟨o.slots, k b o hc e⟩) (fun _ _ _ _ n => n)
  (fun b o hc e => ⟨o, k b o hc e⟩) (fun _ _ e => e) (fun _ _ _ e => e) (fun b ps e => ⟨#[], by rw [e]; simp⟩) (fun m hm => ?_) (fun b u e => ?_) I.bare
 ·obtain ⟨f0, f1, f2, f3, f4, f5⟩ := hl b hb
  exact ⟨f3, f1, f4, f5⟩
 ·obtain ⟨o, es, ep, ho, r⟩ := hm
  exact ⟨o, es, ep, k _ o (fun z => (hl _ z).2.1 rfl) ho, r⟩
 ·refine (I.hok b u e).stay (fun c v hc q => k c v ?_ q) (fun _ q => q) fun _ _ q => q
  rcases hc with z | z
  ·rw [z]; exact nit b u e
  ·exact nit c _ z
end
def Itz (K : PySem.W.Frag) (l1 l2 : Addr) : It :=
  ⟨fun i H => ∃ xs ys x y, SqL K H l1 xs ∧ SqL K H l2 ys ∧ xs[i]? = some x ∧ ys[i]? = some y,
   fun i H v H' => ∃ T x y, v = .ref T ∧ H T = none ∧ H' = upd H T (.tup [x, y]) ∧ (∀ xs, SqL K H l1 xs → xs[i]? = some x) ∧ (∀ ys, SqL K H l2 ys → ys[i]? = some y),
   fun i H => ∃ xs ys, SqL K H l1 xs ∧ SqL K H l2 ys ∧ (xs.length ≤ i ∨ ys.length ≤ i)⟩
theorem turn_zip {P : Program} {w : World} {K : PySem.W.Frag} {elts : List Expr} {k : Nat} {pos : Pos} (l1 l2 z TI TO i1 i2 : Addr) (ap : ZipApart z TI TO i1 i2 l1 l2) :
    Turn P w K (.Tuple elts k pos) (Itz K l1 l2) [z, TI, TO, i1, i2] z (fun i h => IsZip h z TI TO .none ∧ IsPair h TI (.ref i1) (.ref i2) ∧ (∃ a b, IsPair h TO a b) ∧ h.IsListIter i1 l1 i ∧ h.IsListIter i2 l2 i) where
  mem := by simp
  obj := fun i h ⟨a1, a2, ⟨x, y, a3⟩, a4, a5⟩ b hb => by
    simp only [List.mem_cons, List.not_mem_nil, or_false] at hb
    rcases hb with rfl | rfl | rfl | rfl | rfl
    · exact ⟨_, a1, fun v z => nomatch z⟩
    · exact ⟨_, a2, fun v z => nomatch z⟩
    · exact ⟨_, a3, fun v z => nomatch z⟩
    · obtain ⟨o, e, c, d⟩ := a4
      exact ⟨o, e, fun v z => by rw [d] at z; cases z⟩
    · obtain ⟨o, e, c, d⟩ := a5
      exact ⟨o, e, fun v z => by rw [d] at z; cases z⟩
  keep := fun i h h' ⟨a1, a2, ⟨x, y, a3⟩, a4, a5⟩ k => ⟨k _ (by simp) _ a1, k _ (by simp) _ a2, ⟨x, y, k _ (by simp) _ a3⟩, a4.at fun o e => k _ (by simp) o e, a5.at fun o e => k _ (by simp) o e⟩
  item := by
    intro X hP hw hK hc i pins s σ H E I hf st hg
    subst hP hw hK
    obtain ⟨xs, ys, x, y, hq1, hq2, hx, hy⟩ := hg
    obtain ⟨its1, rv1, p1, hz1⟩ := I.list hq1
    obtain ⟨its2, rv2, p2, hz2⟩ := I.list hq2
    obtain ⟨u1, hu1, ru1⟩ := rv1.get hx
    obtain ⟨u2, hu2, ru2⟩ := rv2.get hy
    obtain ⟨sa, sb, sc, sd, se⟩ := st
    have W := WalksT.zip2 (prog := X.prog) (w := X.w) (I.ok.hd hc) z TI TO i1 i2 l1 l2 ap its1.toArray its2.toArray
    have n1 : i < its1.length := (List.getElem?_eq_some_iff.mp hu1).1
    have n2 : i < its2.length := (List.getElem?_eq_some_iff.mp hu2).1
    have hw : ∀ b ∈ [z, TO, i1, i2], FpOk X pins H b := fun b hb => hf b (W.sub b hb |> fun _ => by simp only [List.mem_cons, List.not_mem_nil, or_false] at hb ⊢; rcases hb with h | h | h | h <;> simp [h])
    refine W.item i s _ _ (by simp; omega) ⟨sa, sb, sc, sd, se, p1.isList, p2.isList⟩ fun T vals h' tk hv hT it mid kp => ?_
    obtain ⟨x', y', e1, e2, rfl⟩ := hv
    have q1 : x' = u1 := by have : its1[i]? = some x' := by simpa using e1
                            rw [hu1] at this; cases this; rfl
    have q2 : y' = u2 := by have : its2[i]? = some y' := by simpa using e2
                            rw [hu2] at this; cases this; rfl
    subst q1 q2
    have aT := W.apart i T h' mid
    refine ⟨.ref T, rfl, W.go elts k pos i T _ _ _ mid fun h'' st'' kp'' => ?_⟩
    have I1 : Inv X pins σ H { s with heap := h'', toks := tk } := I.turnedL hw fun b o hb e => kp'' b o hb (kp b o hb e)
    have fT : H T = none := I.hok.fresh hT
    obtain ⟨oT, gT, cT, dT⟩ := it
    have ok : ObjOk X.prog X.w (upd H T (.tup [x, y])) h'' T (.tup [x, y]) := ⟨by show 2 ≤ sizeLine; decide, [x', y'], .cons ru1 (.cons ru2 .nil), show h''.IsTuple T #[x', y'] from ⟨oT, kp'' T oT aT gT, cT, dT⟩⟩
    obtain ⟨b1, b2, b3, b4, b5, _, _⟩ := st''
    refine ⟨.ref T, _, I1.adopt (s := { s with heap := h'', toks := tk }) (I.fpOk hT fT).fl ok, rfl, ⟨T, x, y, rfl, fT, rfl, fun zs hz => by rw [I.list_inj hz hq1]; exact hx, fun zs hz => by rw [I.list_inj hz hq2]; exact hy⟩, ⟨b1, b2, b3, b4, b5⟩, fun b hb => ?_⟩
    have hbT : b ≠ T := fun e => by
      obtain ⟨ra, rb, sc⟩ := sc
      obtain ⟨o4, s4, _⟩ := sd
      obtain ⟨o5, s5, _⟩ := se
      have : ∃ o, s.heap.get? b = some o := by
        simp only [List.mem_cons, List.not_mem_nil, or_false] at hb
        rcases hb with rfl | rfl | rfl | rfl | rfl
        · exact ⟨_, sa⟩
        · exact ⟨_, sb⟩
        · exact ⟨_, sc⟩
        · exact ⟨_, s4⟩
        · exact ⟨_, s5⟩
      obtain ⟨o, ho⟩ := this
      have := Heap.lt_size ho
      rw [e] at this
      exact absurd this (Nat.not_lt.mpr hT)
    rw [upd_ne hbT]
    exact (hf b hb).1
  done := by
    intro X hP hw hK hc i pins s σ H E I hf st hg
    subst hP hw hK
    obtain ⟨xs, ys, hq1, hq2, hlen⟩ := hg
    obtain ⟨its1, rv1, p1, hz1⟩ := I.list hq1
    obtain ⟨its2, rv2, p2, hz2⟩ := I.list hq2
    obtain ⟨sa, sb, ⟨a, b, sc⟩, sd, se⟩ := st
    have l1 := rv1.length
    have l2 := rv2.length
    have hw : ∀ b ∈ [z, TO, i1, i2], FpOk X pins H b := fun b hb => hf b (by simp only [List.mem_cons, List.not_mem_nil, or_false] at hb ⊢; rcases hb with h | h | h | h <;> simp [h])
    refine wpAny_pyNext_zip_end (I.ok.hd hc) ap sa sb sc sd se p1.isList p2.isList (hlen.imp (fun h => by simp; omega) fun h => by simp; omega) fun h' kp => ⟨rfl, I.turnedL (t' := s.toks) hw fun b o hb e => ?_⟩
    simp only [List.mem_cons, List.not_mem_nil, or_false, not_or] at hb
    exact kp b o hb.1 hb.2.1 hb.2.2.1 hb.2.2.2 e
  self := fun _ _ _ _ _ st h => wpAny_pyIter_zip st.1 h
theorem zap (n l1 l2 : Nat) (h1 : l1 < n) (h2 : l2 < n) : ZipApart (n + 4) (n + 2) (n + 3) n (n + 1) l1 l2 := by
 constructor <;> first | exact Nat.ne_of_gt (by omega) | exact Nat.ne_of_lt (by omega)
def iZip (K : PySem.W.Frag) (ta : TA) : TI := fun σ H R => ta σ H fun vs H1 => ∃ a b : Addr, vs = [.ref a, .ref b] ∧ (∃ xs, SqL K H1 a xs) ∧ (∃ ys, SqL K H1 b ys) ∧ R (Itz K a b) H1
theorem pi_zip {X : Cx} {elts : List Expr} {k : Nat} {tp : Pos} {a b : Expr} {ta : TA} {p pos : Pos} (hg : Gl X "zip") (hm : X.mg "zip" = none) (ha : PA X [a, b] ta) (hs : starEach [a, b] X.env = [(false, eval a X.env), (false, eval b X.env)] := by rfl) (hs2 : starEach [b] X.env = [(false, eval b X.env)] := by rfl) :
  PI X (.Tuple elts k tp) (.Call (.Name "zip" p) [a, b] [] pos) (iZip X.K ta) := by
 intro pins s σ H R I h
 refine Call_ (ld_blt I hg hm PyProof.Rows.boot_zip (PyProof.Rows.callWith_type1 (thn (ha pos pins s σ H _ I h) fun us s1 ⟨vs, H1, I1, r1, q1⟩ => ?_) (by rw [hs, hs2]) (by rw [hs2]; rfl)))
 obtain ⟨l1, l2, e, ⟨xs, h1⟩, ⟨ys, h2⟩, q⟩ := q1
 subst e
 obtain ⟨u1, u2, rfl, e1, e2⟩ := vals2 r1
 cases e1; cases e2
 obtain ⟨its1, rv1, p1, hz1⟩ := I1.list h1
 obtain ⟨its2, rv2, p2, hz2⟩ := I1.list h2
 refine call_zip_2 p1.isList p2.isList fun h' a1 a2 a3 a4 a5 hsz kp => ?_
 have n1 : l1 < s1.heap.objs.size := by obtain ⟨o, e, _⟩ := p1.isList; exact Heap.lt_size e
 have n2 : l2 < s1.heap.objs.size := by obtain ⟨o, e, _⟩ := p2.isList; exact Heap.lt_size e
 refine wpAny_pyIter_zip a1 ?_
 generalize hn : s1.heap.objs.size = n at *
 refine ⟨n + 4, [n + 4, n + 2, n + 3, n, n + 1], _, _, H1, rfl, I1.kept (t' := s1.toks) kp, turn_zip l1 l2 (n + 4) (n + 2) (n + 3) n (n + 1) ?_, ⟨a1, a2, ⟨_, _, a3⟩, a4, a5⟩, fun b hb => ?_, q⟩
 ·exact zap n l1 l2 n1 n2
 ·have hb' : n ≤ b := by
   simp only [List.mem_cons, List.not_mem_nil, or_false] at hb
   rcases hb with rfl | rfl | rfl | rfl | rfl
   ·exact Nat.le_add_right n 4
   ·exact Nat.le_add_right n 2
   ·exact Nat.le_add_right n 3
   ·exact Nat.le_refl _
   ·exact Nat.le_add_right n 1
  exact I1.fpOk (by rw [hn]; exact hb') (I1.hok.fresh (by rw [hn]; exact hb'))
theorem tFor_zip {K : PySem.W.Frag} {ta : TA} {g : TG} {tb : TS} {D : Ends} {σ : St} {H : Hp} : tFor (iZip K ta) g tb D σ H = ta σ H (fun vs H1 => ∃ a b : Addr, vs = [.ref a, .ref b] ∧ (∃ xs, SqL K H1 a xs) ∧ (∃ ys, SqL K H1 b ys) ∧ ForGoal (Itz K a b) g tb D σ H1) := rfl
section
variable {X : Cx} {tg : Expr}
end
end L2
set_option maxHeartbeats 4000000
namespace RR
open PySem
section
variable {prog : Program} {w : World} {A : Around} {E : Value → Shared → Prop} {s : Shared}
end
end RR
namespace L2
open PySem PySem.Spec PyProof.Rows
section
variable {X : Cx} {tg : Expr}
end
section
variable {K : PySem.W.Frag} {ta : TA} {g : TG} {tb : TS} {D : Ends} {σ : St} {H : Hp}
end
end L2
set_option maxHeartbeats 4000000
namespace RV
open PySem
section
variable {prog : Program} {w : World} {A : Around} {E : Value → Shared → Prop} {s : Shared}
end
end RV
namespace L2
open PySem PySem.Spec PyProof.Rows
end L2
set_option maxHeartbeats 4000000
namespace L2
open PySem PySem.Spec PyProof.Rows PySem.W
end L2
set_option maxRecDepth 20000
namespace L2
open PySem PySem.Spec PyProof.Rows
variable {X : Cx}
structure PL (H : Hp) (p : Addr) (es : List En) : Prop where
 lst : H p = some (.lst (es.map fun e => V.ref e.1))
 tup : ∀ e ∈ es, H e.1 = some (.tup [.int e.2.1, .int e.2.2])
end L2
set_option maxHeartbeats 4000000
namespace DT
open PySem
end DT
namespace L2
open PySem PySem.Spec PyProof.Rows
end L2
namespace MF
section sw
variable (m : Nat) (nd : Nat → Bool)
def cnt : Nat → Nat
 | 0 => 0
 | i + 1 => cnt i + (if nd (m + 1 + i) then 1 else 0)
def bec (k : Nat) : Nat := if k ≤ m then k else 1 + m + cnt m nd (k - m - 1)
def mt (t : Int) : Int := 2 * (bec m nd (t / 2).toNat : Nat) + t % 2
def mp (p : Pr) : Pr := (mt m nd p.1, mt m nd p.2)
variable {m nd}
end sw
def mark (L : List Bool) (t : Int) : List Bool := L.set (t / 2).toNat true
def marks (L : List Bool) (ts : List Int) : List Bool := ts.foldl mark L
def look (m : Nat) (P : List Pr) (L : List Bool) (j : Nat) : List Bool :=
 if L.getD (m + 1 + j) false then mark (mark L (P.getD j (0, 0)).1) (P.getD j (0, 0)).2 else L
def down (m : Nat) (P : List Pr) (L : List Bool) : Nat → List Bool
 | 0 => L
 | i + 1 => look m P (down m P L i) (P.length - 1 - i)
theorem mark_len (L : List Bool) (t : Int) : (mark L t).length = L.length := List.length_set ..
theorem marks_len : ∀ (ts : List Int) (L : List Bool), (marks L ts).length = L.length
 | [], L => rfl
 | t :: r, L => (marks_len r (mark L t)).trans (mark_len L t)
theorem mark_get (L : List Bool) (t : Int) (k : Nat) : (mark L t).getD k false = true ↔ L.getD k false = true ∨ (k = (t / 2).toNat ∧ k < L.length) := by
 unfold mark
 rw [List.getD_eq_getElem?_getD, List.getD_eq_getElem?_getD, List.getElem?_set]
 by_cases e : (t / 2).toNat = k
 ·rw [if_pos e]
  subst e
  by_cases l : (t / 2).toNat < L.length
  ·rw [if_pos l]; simp [l]
  ·rw [if_neg l]; simp [l]
 ·rw [if_neg e]
  constructor
  ·exact .inl
  ·rintro (h | ⟨h, _⟩)
   ·exact h
   ·exact absurd h.symm e
theorem marks_get : ∀ (ts : List Int) (L : List Bool) (k : Nat), (marks L ts).getD k false = true ↔ L.getD k false = true ∨ ((∃ t ∈ ts, k = (t / 2).toNat) ∧ k < L.length)
 | [], L, k => by simp [marks]
 | t :: r, L, k => by
  show (marks (mark L t) r).getD k false = true ↔ _
  rw [marks_get r (mark L t) k, mark_get, mark_len]
  simp only [List.mem_cons, exists_eq_or_imp]
  constructor
  ·rintro ((h | ⟨h, l⟩) | ⟨h, l⟩)
   ·exact .inl h
   ·exact .inr ⟨.inl h, l⟩
   ·exact .inr ⟨.inr h, l⟩
  ·rintro (h | ⟨h | h, l⟩)
   ·exact .inl (.inl h)
   ·exact .inl (.inr ⟨h, l⟩)
   ·exact .inr ⟨h, l⟩
end MF
namespace MF
section rs
variable (st : Nat → Bool)
def lookS (m : Nat) (P : List Pr) (L : List Bool) (j : Nat) : List Bool :=
 if L.getD (m + 1 + j) false && !(st (m + 1 + j)) then mark (mark L (P.getD j (0, 0)).1) (P.getD j (0, 0)).2 else L
def downS (m : Nat) (P : List Pr) (L : List Bool) : Nat → List Bool
 | 0 => L
 | i + 1 => lookS st m P (downS m P L i) (P.length - 1 - i)
def reachL (m : Nat) (P : List Pr) (ts : List Int) : List Bool := downS st m P (marks (List.replicate (1 + m + P.length) false) ts) P.length
def reach (m : Nat) (P : List Pr) (ts : List Int) (k : Nat) : Bool := (reachL st m P ts).getD k false
def reached (m : Nat) (P : List Pr) (ts : List Int) : List Nat := (List.range (1 + m + P.length)).filter (reach st m P ts)
variable {st}
theorem lookS_len (m : Nat) (P : List Pr) (L : List Bool) (j : Nat) : (lookS st m P L j).length = L.length := by
 unfold lookS; split
 ·rw [mark_len, mark_len]
 ·rfl
theorem downS_len (m : Nat) (P : List Pr) (L : List Bool) : ∀ i, (downS st m P L i).length = L.length
 | 0 => rfl
 | i + 1 => by unfold downS; rw [lookS_len, downS_len m P L i]
theorem reachL_len (m : Nat) (P : List Pr) (ts : List Int) : (reachL st m P ts).length = 1 + m + P.length := by
 unfold reachL; rw [downS_len, marks_len, List.length_replicate]
theorem lookS_get (m : Nat) (P : List Pr) (L : List Bool) (j k : Nat) : (lookS st m P L j).getD k false = true ↔
  L.getD k false = true ∨ ((L.getD (m + 1 + j) false = true ∧ st (m + 1 + j) = false) ∧ (k = ((P.getD j (0, 0)).1 / 2).toNat ∨ k = ((P.getD j (0, 0)).2 / 2).toNat) ∧ k < L.length) := by
 unfold lookS
 split
 ·rename_i h
  have h' : L.getD (m + 1 + j) false = true ∧ st (m + 1 + j) = false := by simpa using h
  rw [mark_get, mark_get, mark_len]
  constructor
  ·rintro ((a | ⟨a, b⟩) | ⟨a, b⟩)
   ·exact .inl a
   ·exact .inr ⟨h', .inl a, b⟩
   ·exact .inr ⟨h', .inr a, b⟩
  ·rintro (a | ⟨_, a | a, b⟩)
   ·exact .inl (.inl a)
   ·exact .inl (.inr ⟨a, b⟩)
   ·exact .inr ⟨a, b⟩
 ·rename_i h
  constructor
  ·exact .inl
  ·rintro (a | ⟨a, _⟩)
   ·exact a
   ·exact absurd (by simpa using a) h
theorem downS_keep (m : Nat) (P : List Pr) (L : List Bool) (k : Nat) {i : Nat} : ∀ {i'}, i ≤ i' → (downS st m P L i).getD k false = true → (downS st m P L i').getD k false = true
  | 0, h, a => by have : i = 0 := by omega
                  subst this; exact a
  | j + 1, h, a => by
    rcases Nat.lt_or_ge i (j + 1) with l | l
    · exact (lookS_get ..).mpr (.inl (downS_keep m P L k (i' := j) (by omega) a))
    · have : i = j + 1 := by omega
      subst this; exact a
theorem downS_high {m : Nat} {P : List Pr} (ho : Ok m P) (L : List Bool) {j : Nat} (hj : j < P.length) : ∀ {i}, P.length - j ≤ i → i ≤ P.length → (downS st m P L i).getD (m + 1 + j) false = true → (downS st m P L (P.length - 1 - j)).getD (m + 1 + j) false = true
 | 0, h, _, a => by omega
 | i + 1, h, hi, a => by
  have hp : P[P.length - 1 - i]? = some P[P.length - 1 - i] := List.getElem?_eq_getElem (by omega)
  have o := ho _ _ hp
  have e : P.getD (P.length - 1 - i) (0, 0) = P[P.length - 1 - i] := by rw [List.getD_eq_getElem?_getD, hp]; rfl
  rcases (lookS_get ..).mp a with a | ⟨a, b, _⟩
  ·rcases Nat.lt_or_ge i (P.length - j) with l | l
   ·have : i = P.length - 1 - j := by omega
    subst this; exact a
   ·exact downS_high ho L hj l (by omega) a
  ·rw [e] at b
   omega
theorem reach_ts {m : Nat} {P : List Pr} {ts : List Int} {t : Int} (ht : t ∈ ts) (h : 0 ≤ t ∧ t < 2 * ((m : Int) + 1 + P.length)) : reach st m P ts (t / 2).toNat = true :=
 downS_keep m P _ _ (i := 0) (Nat.zero_le _) ((marks_get ..).mpr (.inr ⟨⟨t, ht, rfl⟩, by rw [List.length_replicate]; omega⟩))
theorem get_lt {α : Type} {P : List α} {j : Nat} {p : α} (hp : P[j]? = some p) : j < P.length := by
 rcases Nat.lt_or_ge j P.length with z | z
 ·exact z
 ·rw [List.getElem?_eq_none z] at hp; cases hp
theorem reach_clo {m : Nat} {P : List Pr} (ho : Ok m P) (ts : List Int) {j : Nat} {p : Pr} (hp : P[j]? = some p) (hn : reach st m P ts (m + 1 + j) = true) (hs : st (m + 1 + j) = false) : reach st m P ts (p.1 / 2).toNat = true ∧ reach st m P ts (p.2 / 2).toNat = true := by
 have hlt := get_lt hp
 have a := downS_high ho _ hlt (i := P.length) (by omega) (Nat.le_refl _) hn
 have o := ho _ _ hp
 have e : P.getD (P.length - 1 - (P.length - 1 - j)) (0, 0) = p := by rw [show P.length - 1 - (P.length - 1 - j) = j by omega, List.getD_eq_getElem?_getD, hp]; rfl
 have key : ∀ k, (k = (p.1 / 2).toNat ∨ k = (p.2 / 2).toNat) → reach st m P ts k = true := by
  intro k hk
  refine downS_keep m P _ _ (i := P.length - 1 - j + 1) (by omega) ((lookS_get ..).mpr (.inr ⟨?_, ?_, ?_⟩))
  ·rw [show P.length - 1 - (P.length - 1 - j) = j by omega]; exact ⟨a, hs⟩
  ·rw [e]; exact hk
  ·rw [downS_len, marks_len, List.length_replicate]; omega
 exact ⟨key _ (.inl rfl), key _ (.inr rfl)⟩
theorem reach_least {m : Nat} {P : List Pr} {ts : List Int} (S : Nat → Prop) (h1 : ∀ t ∈ ts, S (t / 2).toNat) (h2 : ∀ j p, P[j]? = some p → S (m + 1 + j) → st (m + 1 + j) = false → S (p.1 / 2).toNat ∧ S (p.2 / 2).toNat) {k : Nat} (h : reach st m P ts k = true) : S k := by
 have key : ∀ i, i ≤ P.length → ∀ k, (downS st m P (marks (List.replicate (1 + m + P.length) false) ts) i).getD k false = true → S k := by
  intro i
  induction i with
  | zero =>
   intro _ k a
   rcases (marks_get ..).mp a with a | ⟨⟨t, ht, rfl⟩, _⟩
   ·rw [List.getD_eq_getElem?_getD, List.getElem?_replicate] at a
    split at a <;> cases a
   ·exact h1 t ht
  | succ i ih =>
   intro hi k a
   have hp : P[P.length - 1 - i]? = some P[P.length - 1 - i] := List.getElem?_eq_getElem (by omega)
   have e : P.getD (P.length - 1 - i) (0, 0) = P[P.length - 1 - i] := by rw [List.getD_eq_getElem?_getD, hp]; rfl
   rcases (lookS_get ..).mp a with a | ⟨⟨a, a'⟩, b, _⟩
   ·exact ih (by omega) k a
   ·rw [e] at b
    have := h2 _ _ hp (ih (by omega) _ a) a'
    rcases b with rfl | rfl
    ·exact this.1
    ·exact this.2
 exact key P.length (Nat.le_refl _) k h
theorem reach_out {m : Nat} {P : List Pr} {ts : List Int} {k : Nat} (h : 1 + m + P.length ≤ k) : reach st m P ts k = false := by
 unfold reach
 rw [List.getD_eq_getElem?_getD, List.getElem?_eq_none (by rw [reachL_len]; exact h)]
 rfl
end rs
theorem tie2 (k : Nat) : (2 * (k : Int) / 2).toNat = k := by omega
def coneL (m : Nat) (P : List Pr) (n : Nat) : List Nat := reached (fun _ => false) m P [2 * (n : Int)]
theorem reach_self {st : Nat → Bool} {m : Nat} {P : List Pr} {n : Nat} (h : n < 1 + m + P.length) : reach st m P [2 * (n : Int)] n = true := by
 have := reach_ts (st := st) (m := m) (P := P) (ts := [2 * (n : Int)]) (List.mem_singleton.mpr rfl) (by omega)
 rwa [tie2] at this
structure HungAt (st : Nat → Bool) (m : Nat) (P : List Pr) (n i : Nat) (S : Nat → Prop) : Prop where
 self : S n
 low : ∀ k, S k → reach st m P [2 * (n : Int)] k = true
 clo : ∀ j p, P[j]? = some p → m + 1 + j ≤ n → n - (m + 1 + j) < i → S (m + 1 + j) → st (m + 1 + j) = false → S (p.1 / 2).toNat ∧ S (p.2 / 2).toNat
theorem HungAt.new {st : Nat → Bool} {m : Nat} {P : List Pr} {n : Nat} {S : Nat → Prop} (h : ∀ k, S k ↔ k = n) (hn : n < 1 + m + P.length) : HungAt st m P n 0 S :=
 ⟨(h n).mpr rfl, fun k hk => by rw [(h k).mp hk]; exact reach_self hn, fun j p _ _ hi => absurd hi (Nat.not_lt_zero _)⟩
theorem HungAt.skip {st : Nat → Bool} {m : Nat} {P : List Pr} {n i : Nat} {S : Nat → Prop} (h : HungAt st m P n i S) (hn : ¬ S (n - i)) : HungAt st m P n (i + 1) S := by
 refine ⟨h.self, h.low, fun j p hp hl hi hs ht => ?_⟩
 rcases Nat.lt_or_ge (n - (m + 1 + j)) i with l | l
 ·exact h.clo j p hp hl l hs ht
 ·have : m + 1 + j = n - i := by omega
  rw [this] at hs
  exact absurd hs hn
end MF
namespace MF
def rising (xs : List Int) : Bool := ((List.range (xs.length - 1)).map fun j => decide (xs.getD j 0 < xs.getD (j + 1) 0)).all id
def isStop (xs : List Int) (k : Nat) : Bool := decide ((k : Int) ∈ xs)
def isCut (m : Nat) (P : List Pr) (k : Int) (xs : List Int) : Bool :=
 decide ((m : Int) < k ∧ k < 1 + m + P.length ∧ k ∉ xs) && rising xs && (xs.map fun x => decide (x ∈ (coneL m P k.toNat).map fun j : Nat => (j : Int))).all id &&
  ((reached (isStop xs) m P [2 * k]).map fun j => decide (m < j) || decide ((j : Int) ∈ xs)).all id
theorem mem_reached {st : Nat → Bool} {m : Nat} {P : List Pr} {ts : List Int} {j : Nat} : j ∈ reached st m P ts ↔ reach st m P ts j = true := by
 unfold reached
 rw [List.mem_filter, List.mem_range]
 constructor
 ·exact fun h => h.2
 ·intro h
  refine ⟨?_, h⟩
  rcases Nat.lt_or_ge j (1 + m + P.length) with l | l
  ·exact l
  ·rw [reach_out l] at h; cases h
def RisC (xs : List Int) : Prop := ∀ j, j + 1 < xs.length → xs.getD j 0 < xs.getD (j + 1) 0
theorem rising_iff (xs : List Int) : rising xs = true ↔ RisC xs := by
 unfold rising RisC
 rw [List.all_map, List.all_eq_true]
 constructor
 ·intro h j hj
  have := h j (List.mem_range.mpr (by omega))
  simpa using this
 ·intro h j hj
  rw [List.mem_range] at hj
  simpa using h j (by omega)
theorem ris_of {xs : List Int} (h : xs.Pairwise (· < ·)) : RisC xs := by
 intro j hj
 have a : xs.getD j 0 = xs[j] := by simp [List.getD, show j < xs.length by omega]
 have b : xs.getD (j + 1) 0 = xs[j + 1] := by simp [List.getD, hj]
 rw [a, b]
 exact List.pairwise_iff_getElem.mp h j (j + 1) (by omega) hj (by omega)
def HangC (m : Nat) (P : List Pr) (k : Int) (xs : List Int) : Prop := ∀ x ∈ xs, x ∈ (coneL m P k.toNat).map fun j : Nat => (j : Int)
def StopC (m : Nat) (P : List Pr) (k : Int) (xs : List Int) : Prop := ∀ j, reach (isStop xs) m P [2 * k] j = true → m < j ∨ (j : Int) ∈ xs
theorem isCut_iff (m : Nat) (P : List Pr) (k : Int) (xs : List Int) : isCut m P k xs = true ↔ ((m : Int) < k ∧ k < 1 + m + P.length ∧ k ∉ xs) ∧ RisC xs ∧ HangC m P k xs ∧ StopC m P k xs := by
 unfold isCut
 rw [Bool.and_eq_true, Bool.and_eq_true, Bool.and_eq_true, decide_eq_true_eq, rising_iff, List.all_map, List.all_eq_true, List.all_map, List.all_eq_true]
 unfold HangC StopC
 constructor
 ·rintro ⟨⟨⟨a, b⟩, c⟩, d⟩
  refine ⟨a, b, fun x hx => by simpa using c x hx, fun j hj => ?_⟩
  have := d j (mem_reached.mpr hj)
  simpa using this
 ·rintro ⟨a, b, c, d⟩
  refine ⟨⟨⟨a, b⟩, fun x hx => by simpa using c x hx⟩, fun j hj => ?_⟩
  have := d j (mem_reached.mp hj)
  simpa using this
theorem mem_cone {m : Nat} {P : List Pr} {n : Nat} {x : Int} : x ∈ (coneL m P n).map (fun j : Nat => (j : Int)) ↔ 0 ≤ x ∧ reach (fun _ => false) m P [2 * (n : Int)] x.toNat = true := by
 rw [List.mem_map]
 constructor
 ·rintro ⟨j, hj, rfl⟩
  exact ⟨by omega, by rw [Int.toNat_natCast]; exact mem_reached.mp hj⟩
 ·rintro ⟨h0, h⟩
  exact ⟨x.toNat, mem_reached.mpr h, by omega⟩
structure LowC (m : Nat) (P : List Pr) (n : Nat) (xs : List Int) : Prop where
 ris : xs.Pairwise (· < ·)
 pos : ∀ x ∈ xs, 0 < x ∧ x < n
 hang : ∀ x ∈ xs, reach (fun _ => false) m P [2 * (n : Int)] x.toNat = true
 stop : StopC m P n xs
theorem LowC.cut {m : Nat} {P : List Pr} {n : Nat} {xs : List Int} (h : LowC m P n xs) (h1 : m < n) (h2 : n < 1 + m + P.length) : isCut m P n xs = true := by
 rw [isCut_iff]
 refine ⟨⟨by omega, by omega, fun z => ?_⟩, ris_of h.ris, fun x hx => ?_, h.stop⟩
 ·have := h.pos _ z; omega
 ·rw [Int.toNat_natCast, mem_cone]
  exact ⟨by have := h.pos x hx; omega, h.hang x hx⟩
theorem stop_step {m : Nat} {P : List Pr} (ho : Ok m P) {n : Nat} {xs ys : List Int} {j : Nat} {p : Pr} (hn : n < 1 + m + P.length) (hp : P[j]? = some p) (hs : StopC m P n xs)
  (hy : ∀ x : Int, (x ∈ xs ∧ x ≠ ((m + 1 + j : Nat) : Int)) ∨ x = p.1 / 2 ∨ x = p.2 / 2 → x ∈ ys) : StopC m P n ys := by
 intro k hk
 have o := ho j p hp
 have key := reach_least (st := isStop ys) (S := fun k => reach (isStop xs) m P [2 * (n : Int)] k = true ∨ (k : Int) = p.1 / 2 ∨ (k : Int) = p.2 / 2) ?_ ?_ hk
 ·rcases key with h | h
  ·rcases hs k h with h | h
   ·exact .inl h
   ·by_cases e : (k : Int) = ((m + 1 + j : Nat) : Int)
    ·left; omega
    ·exact .inr (hy _ (.inl ⟨h, e⟩))
  ·exact .inr (hy _ (.inr h))
 ·intro t ht
  rw [List.mem_singleton] at ht
  subst ht
  left
  exact reach_ts (List.mem_singleton.mpr rfl) (by omega)
 ·intro i q hq hS hst
  have oi := ho i q hq
  have nst : ((m + 1 + i : Nat) : Int) ∉ ys := by unfold isStop at hst; simpa using hst
  rcases hS with h | h
  ·by_cases hx : ((m + 1 + i : Nat) : Int) ∈ xs
   ·have e : i = j := by
     by_cases e : ((m + 1 + i : Nat) : Int) = ((m + 1 + j : Nat) : Int)
     ·omega
     ·exact absurd (hy _ (.inl ⟨hx, e⟩)) nst
    subst e
    rw [hp] at hq
    cases hq
    exact ⟨.inr (.inl (by omega)), .inr (.inr (by omega))⟩
   ·have hst' : isStop xs (m + 1 + i) = false := by unfold isStop; simpa using hx
    have := reach_clo ho [2 * (n : Int)] hq h hst'
    exact ⟨.inl this.1, .inl this.2⟩
  ·exact absurd (hy _ (.inr h)) nst
theorem LowC.first {m : Nat} {P : List Pr} (ho : Ok m P) {j : Nat} {p : Pr} (hp : P[j]? = some p) : LowC m P (m + 1 + j) [p.1 / 2, p.2 / 2] := by
 have o := ho j p hp
 have hlt := get_lt hp
 have rc := reach_clo (st := fun _ => false) ho [2 * ((m + 1 + j : Nat) : Int)] hp (reach_self (by omega)) rfl
 refine ⟨?_, ?_, ?_, ?_⟩
 ·rw [List.pairwise_cons]
  refine ⟨fun y hy => ?_, List.pairwise_singleton ..⟩
  rw [List.mem_singleton] at hy
  subst hy
  omega
 ·intro x hx
  simp only [List.mem_cons, List.not_mem_nil, or_false] at hx
  rcases hx with rfl | rfl <;> omega
 ·intro x hx
  simp only [List.mem_cons, List.not_mem_nil, or_false] at hx
  rcases hx with rfl | rfl
  ·exact rc.1
  ·exact rc.2
 ·have h0 : StopC m P (m + 1 + j : Nat) [((m + 1 + j : Nat) : Int)] := by
   intro k hk
   have := reach_least (st := isStop [((m + 1 + j : Nat) : Int)]) (S := fun k => k = m + 1 + j) ?_ ?_ hk
   ·left; omega
   ·intro t ht
    rw [List.mem_singleton] at ht
    subst ht
    rw [tie2]
   ·intro i q hq hS hst
    unfold isStop at hst
    simp [hS] at hst
  refine stop_step ho (by omega) hp h0 ?_
  rintro x (⟨hx, hne⟩ | rfl | rfl)
  ·rw [List.mem_singleton] at hx
   exact absurd hx hne
  ·exact List.mem_cons_self ..
  ·exact List.mem_cons_of_mem _ (List.mem_singleton.mpr rfl)
theorem sort_lt {ns ns' : List Int} (hp : ns'.Perm ns) (hs : ns'.Pairwise (· ≤ ·)) (hd : ns.Nodup) : ns'.Pairwise (· < ·) := by
 have hd' : ns'.Nodup := hp.nodup_iff.mpr hd
 refine List.Pairwise.imp₂ (fun a b h1 h2 => ?_) hs hd'
 omega
theorem nodup_len : ∀ (N : Nat) (ws : List Nat), ws.Nodup → (∀ x ∈ ws, x < N) → ws.length ≤ N
 | 0, ws, _, h => by
  cases ws with
  | nil => exact Nat.le_refl _
  | cons x r => exact absurd (h x (List.mem_cons_self ..)) (Nat.not_lt_zero _)
 | N + 1, ws, hd, h => by
  by_cases hN : N ∈ ws
  ·have hl := List.length_erase_of_mem hN
   have := nodup_len N (ws.erase N) (hd.erase N) (fun x hx => by
    have h1 := h x (List.mem_of_mem_erase hx)
    have h2 : x ≠ N := fun e => by subst e; exact hd.not_mem_erase hx
    omega)
   omega
  ·have := nodup_len N ws hd fun x hx => by
    have h1 := h x hx
    have h2 : x ≠ N := fun e => hN (e ▸ hx)
    omega
   omega
structure WalkC (m : Nat) (P : List Pr) (n : Nat) (xs : List Int) (ws : List Nat) (c : Nat) : Prop where
 nd : ws.Nodup
 self : n ∈ ws
 rch : ∀ w ∈ ws, reach (isStop xs) m P [2 * (n : Int)] w = true
 out : ∀ w ∈ ws, (w : Int) ∉ xs
 le : ∀ w ∈ ws, w ≤ n
 high : ∀ (i : Nat) w, i < c → ws[i]? = some w → m < w
 clo : ∀ (i : Nat) j p, i < c → ws[i]? = some (m + 1 + j) → P[j]? = some p → (p.1 / 2 ∈ xs ∨ (p.1 / 2).toNat ∈ ws) ∧ (p.2 / 2 ∈ xs ∨ (p.2 / 2).toNat ∈ ws)
theorem WalkC.len {m : Nat} {P : List Pr} {n : Nat} {xs : List Int} {ws : List Nat} {c : Nat} (h : WalkC m P n xs ws c) : ws.length ≤ n + 1 := nodup_len _ _ h.nd fun x hx => Nat.lt_succ_of_le (h.le x hx)
theorem WalkC.first {m : Nat} {P : List Pr} {n : Nat} {xs : List Int} (hn : n < 1 + m + P.length) (hx : (n : Int) ∉ xs) : WalkC m P n xs [n] 0 :=
 ⟨by simp, List.mem_singleton.mpr rfl, fun w hw => by rw [List.mem_singleton] at hw; subst hw; exact reach_self hn, fun w hw => by rw [List.mem_singleton] at hw; subst hw; exact hx, fun w hw => by rw [List.mem_singleton] at hw; omega,
  fun i w hi => absurd hi (Nat.not_lt_zero _), fun i j p hi => absurd hi (Nat.not_lt_zero _)⟩
end MF
set_option maxHeartbeats 4000000
namespace L2
open PySem PySem.Spec PyProof.Rows
theorem tComp_zip {K : PySem.W.Frag} {ta : TA} {k : Nat} {sel : List Nat} {g : TG} {tt : TT} {el : TE} {σ : L2.St} {H : Hp} {Q : VK} : tComp (iZip K ta) k sel g tt el σ H Q = ta σ H (fun vs H1 => ∃ a b : Addr, vs = [.ref a, .ref b] ∧ (∃ xs, SqL K H1 a xs) ∧ (∃ ys, SqL K H1 b ys) ∧ CompG (Itz K a b) σ k sel g tt el Q H1) := rfl
theorem comp_zG {K : PySem.W.Frag} {σ : L2.St} {k : Nat} {sel : List Nat} {g : TG} {tt : TT} {te : TE} {Q : VK} {H : Hp} {p a b : Addr} {xs ys : List V} {n : Nat} (hn : n = min xs.length ys.length) (Sv : L2.St → Prop) (Pv : Nat → Hp → Prop) (hS : Sv (cst σ k sel)) (h0 : Pv 0 (upd H p (.lst [])))
  (hk : ∀ i H2, i ≤ n → Pv i H2 → SqL K H2 a xs ∧ SqL K H2 b ys)
  (step : ∀ i x y t σ2 H2 (R : L2.St → Hp → Prop), xs[i]? = some x → ys[i]? = some y → H2 t = none → Sv σ2 → Pv i H2 → (∀ σ' H', Sv σ' → Pv (i + 1) H' → R σ' H') → g (.ref t) σ2 (upd H2 t (.tup [x, y])) fun σ4 H4 => tt σ4 H4 fun bb H5 =>
   if bb = true then te σ4 H5 fun v H6 => ∃ zs, H6 p = some (.lst zs) ∧ zs.length < sizeLine ∧ R σ4 (upd H6 p (.lst (zs ++ [v]))) else R σ4 H5)
  (hQ : ∀ H2, Pv n H2 → Q (.ref p) H2) : CompGoal (Itz K a b) σ k sel g tt te Q H p := by
 refine ⟨fun i m σ2 H2 => i ≤ n ∧ m = n - i + 1 ∧ Sv σ2 ∧ Pv i H2, ⟨n + 1, Nat.zero_le _, rfl, hS, h0⟩, ?_⟩
 rintro i m σ2 H2 ⟨hi, rfl, hs, hP⟩
 obtain ⟨s1, s2⟩ := hk i H2 hi hP
 by_cases hlt : i < n
 ·right
  have h1 : i < xs.length := by omega
  have h2 : i < ys.length := by omega
  refine ⟨⟨xs, ys, xs[i], ys[i], s1, s2, List.getElem?_eq_getElem h1, List.getElem?_eq_getElem h2⟩, ?_⟩
  rintro x H3 ⟨T, x1, y1, e1, e2, e3, e4, e5⟩
  subst e1 e3
  exact step i x1 y1 T σ2 H2 (fun σ' H' => ∃ m', m' < n - i + 1 ∧ (i + 1 ≤ n ∧ m' = n - (i + 1) + 1 ∧ Sv σ' ∧ Pv (i + 1) H')) (e4 xs s1) (e5 ys s2) e2 hs hP fun σ' H' g1 g2 => ⟨_, by omega, hlt, rfl, g1, g2⟩
 ·left
  have e : i = n := by omega
  subst e
  exact ⟨⟨xs, ys, s1, s2, by omega⟩, hQ H2 hP⟩
theorem inV_ints (x : Int) (xs : List Int) : inV (.int x) (xs.map V.int) = decide (x ∈ xs) := by
 unfold inV
 rw [List.any_map, Bool.eq_iff_iff, List.any_eq_true, decide_eq_true_eq]
 constructor
 ·rintro ⟨y, hy, e⟩
  have : y = x := by
   first
   | (simp only [Function.comp, eqV, decide_eq_true_eq] at e; exact e)
   | (simp only [Function.comp, eqV, decide_eq_true_eq] at e; exact e.symm)
   | (simp [Function.comp, eqV] at e; omega)
  exact this ▸ hy
 ·intro h
  exact ⟨x, h, by simp [Function.comp, eqV]⟩
theorem flat_ints (xs : List Int) : (xs.map V.int).all flatV = true := by
 rw [List.all_map, List.all_eq_true]
 intro x _
 rfl
theorem val_merge (ks : List Int) (j : Int) : ∀ (acc : List (Key × V)), (valV ((ks.map fun k => ((.inl k : Key), V.bl true)).foldl (fun acc kv => putK acc kv.1 kv.2) acc) (.inl j)).isSome = ((valV acc (.inl j)).isSome || decide (j ∈ ks)) := by
 induction ks with
 | nil => intro acc; simp
 | cons k r ih =>
  intro acc
  rw [List.map_cons, List.foldl_cons, ih, valV_put]
  by_cases e : j = k
  ·subst e
   simp
  ·rw [if_neg (fun z => e (Sum.inl.inj z))]
   simp [e]
def cSorted (K : PySem.W.Frag) : List V → Hp → VK → Prop := fun vs H Q => match vs with
 | [.ref p] => ∃ ns : List Int, SqL K H p (ns.map V.int) ∧ ns.length < 64 ∧ ∀ (ns' : List Int) (l : Addr) (H' : Hp), ns'.Perm ns → ns'.Pairwise (· ≤ ·) → New H l (.lst (ns'.map V.int)) H' → Q (.ref l) H'
 | _ => False
theorem c_sorted {X : Cx} : CallR X (.builtin "sorted") (cSorted X.K) := by
 intro pins s σ H xs us Q I r h
 match xs, h with
 | [.ref p], h =>
  obtain ⟨ns, hq, h64, q⟩ := h
  obtain ⟨u, rfl, rx⟩ := vals1 r
  cases rx
  obtain ⟨its, r', pl, hz⟩ := I.list hq
  have hlen := r'.length
  rw [List.length_map] at hlen hz
  refine sorted_ints (vs := its) pl.isList (intsAre_of r') (by omega) fun out ns' a1 a2 a3 => ?_
  obtain ⟨e, he⟩ := sortedAll_at s.heap its out
  have hl' : ns'.length = ns.length := a2.length_eq
  refine ⟨.ref (s.heap.objs.size + 1), _, I.laid (t' := s.toks) (fun b u => sortedAll_old) (Nat.le_succ _) (show ObjOk X.prog X.w _ _ _ (.lst (ns'.map V.int)) from ⟨by rw [List.length_map]; omega, out.toList, e, vals_ints a1, ?_⟩), rfl, q ns' _ _ a2 a3 ⟨I.hok.fresh (Nat.le_succ _), rfl⟩⟩
  rw [Array.toArray_toList]
  exact he
def cListRange2 (t : TA) : TE := fun σ H Q => t σ H fun vs H1 => ∃ i j : Int, vs = [.int i, .int j] ∧ (-(2 ^ 62) ≤ i ∧ i < 2 ^ 62 ∧ -(2 ^ 62) ≤ j ∧ j < 2 ^ 62) ∧ (j - i).toNat ≤ 2 ^ 24 ∧ (j - i).toNat ≤ sizeLine ∧ ∀ p H', New H1 p (.lst ((List.range (j - i).toNat).map fun k : Nat => V.int (i + (k : Int)))) H' → Q (.ref p) H'
theorem e_listrange2 {X : Cx} {a b : Expr} {t : TA} {p1 p2 p3 p4 : Pos} (hc : X.calm = true) (hg1 : Gl X "list") (hg2 : Gl X "range") (hm1 : X.mg "list" = none) (hm2 : X.mg "range" = none) (ha : PA X [a, b] t)
  (hs : starEach [a, b] X.env = [(false, eval a X.env), (false, eval b X.env)] := by rfl) (hs2 : starEach [b] X.env = [(false, eval b X.env)] := by rfl)
  (he2 : starEach [Expr.Call (.Name "range" p2) [a, b] [] p3] X.env = (false, eval (Expr.Call (.Name "range" p2) [a, b] [] p3) X.env) :: starEach [] X.env := by rfl) (hpl2 : (backTo p4 (starEach [] X.env)).any (·.1) = false := by rfl) :
  PE X (.Call (.Name "list" p1) [.Call (.Name "range" p2) [a, b] [] p3] [] p4) (cListRange2 t) := by
 intro pins s σ H Q I h
 refine wpAny_Call_Name_kw (ld_blt I hg1 hm1 PyProof.Rows.boot_list ?_ (by decide) (by decide))
 refine PyProof.Rows.callWith_type1 ?_ he2 hpl2
 rw [he2]
 show wpAny _ _ (spliced ((false, eval (Expr.Call (.Name "range" p2) [a, b] [] p3) X.env) :: backTo p4 (starEach [] X.env))) _ _ s
 refine Calls.spliced_cons ?_
 refine wpAny_Call_Name_kw (ld_blt I hg2 hm2 boot_range ?_ (by decide) (by decide))
 refine PyProof.Rows.callWith_type1 (thn (ha p3 pins s σ H _ I h) fun us s1 ⟨vs, H1, I1, r1, q1⟩ => ?_) (by rw [hs, hs2]) (by rw [hs2]; rfl)
 obtain ⟨lo, hi, e, ⟨b1, b2, b3, b4⟩, b5, b6, q⟩ := q1
 subst e
 obtain ⟨u1, u2, rfl, e1, e2⟩ := vals2 r1
 obtain ⟨tk, rfl⟩ := e1
 obtain ⟨tu, rfl⟩ := e2
 refine call_range_2 (Calls.spliced_nil ?_)
 have I2 : Inv X pins σ H1 { s1 with heap := s1.heap.push { cls := .type "range", data := .fields #[.int lo tk, .int hi tu, .int 1 s1.toks] }, toks := s1.toks + 1 } := I1.kept fun b o e => Heap.get?_push_of_some _ e
 have hsz : Builtin.Range.rangeSize lo hi 1 = ((hi - lo).toNat : Int) := by rw [rangeSize_one]; split <;> omega
 refine call_list_range (I.ok.hd hc) (IsRange.new ..) (small_one b1 b2 b3 b4) hsz b5 fun h' t' acc c up at' items => ?_
 obtain ⟨hl, hit⟩ := items
 generalize hs2 : s1.heap.push { cls := .type "range", data := .fields #[.int lo tk, .int hi tu, .int 1 s1.toks] } = k2 at I2 up at' ⊢
 have hfree : H1 k2.objs.size = none := I2.hok.fresh (Nat.le_refl _)
 refine ⟨.ref k2.objs.size, upd H1 k2.objs.size (.lst ((List.range (hi - lo).toNat).map fun k : Nat => V.int (lo + (k : Int)))), ?_, rfl, q _ _ ⟨hfree, rfl⟩⟩
 refine I2.laid (a := k2.objs.size) (t' := t') up (Nat.le_refl _) ⟨by rw [List.length_map, List.length_range]; exact b6, acc.toList, c, ?_, by simpa using at'⟩
 have := vals_items (hi - lo).toNat acc.toList (fun i => V.int (lo + (i : Nat))) 0 (by simpa using hl) fun i u hu => by
  have hu' : acc[i]? = some u := by simpa using hu
  obtain ⟨t2, ht2⟩ := hit i u hu'
  exact ⟨t2, by rw [ht2]; congr 1 <;> omega⟩
 simpa using this
def cStr : List V → Hp → VK → Prop := fun vs H Q => match vs with
 | [.int i] => i.natAbs.log2 < 1920 ∧ Q (.str (toString i)) H
 | _ => False
theorem c_str {X : Cx} : CallR X (.type "str") cStr := by
 intro pins s σ H xs us Q I r h
 match xs, h with
 | [.int i], h => exact call_str_int pins s σ H _ us Q I r ⟨i, rfl, h.1, h.2⟩
theorem tComp_rng2 {ta : TA} {k : Nat} {sel : List Nat} {g : TG} {tt : TT} {el : TE} {σ : L2.St} {H : Hp} {Q : VK} : tComp (iRng2 ta) k sel g tt el σ H Q = ta σ H (fun vs H1 => ∃ i j : Int, vs = [.int i, .int j] ∧ (-(2 ^ 62) ≤ i ∧ i < 2 ^ 62 ∧ -(2 ^ 62) ≤ j ∧ j < 2 ^ 62) ∧ CompG (Itr i (j - i).toNat) σ k sel g tt el Q H1) := rfl
def CDivB (i j : Int) : Prop := 0 < j ∧ j.natAbs.log2 < 9000
theorem o_fdivB {X : Cx} : OpR X (binaryOp .FloorDiv) (cI2c CDivB fun i j => .int (i / j)) := (opI (C := CDivB) (g := fun i j => i / j) fun i j _ _ _ _ _ hc q => by
 have h1 : (0 : Int) < j := hc.1
 exact floordiv_int (by omega) (by rw [Int.fdiv_eq_ediv_of_nonneg i (by omega)]; exact q) (.inl (PyProof.noPylong_of_log2 hc.2))).imp fun _ _ _ _ h => cI2c_of h
end L2
set_option maxHeartbeats 4000000
namespace K38
open PySem PySem.Spec PyProof.Rows L2
def top (i : Nat) : Stmt := PySem.Challenge.pw_gatefold_k38_board_lines.main.body.getD i (.Pass ⟨0, 0, 0, 0⟩)
abbrev s_full_column : Stmt := top 2
abbrev N_full_column : List Str := ["many"]
theorem sc_full_column : FnScope N_full_column ["many"] (defScope s_full_column) := ⟨rfl, rfl, rfl, by decide +kernel, rfl, by decide +kernel, by decide +kernel⟩
abbrev s_is_whole : Stmt := top 7
abbrev N_is_whole : List Str := ["thing"]
theorem sc_is_whole : FnScope N_is_whole ["thing"] (defScope s_is_whole) := ⟨rfl, rfl, rfl, by decide +kernel, rfl, by decide +kernel, by decide +kernel⟩
abbrev s_is_between : Stmt := top 8
abbrev N_is_between : List Str := ["thing", "least", "greatest"]
theorem sc_is_between : FnScope N_is_between ["thing", "least", "greatest"] (defScope s_is_between) := ⟨rfl, rfl, rfl, by decide +kernel, rfl, by decide +kernel, by decide +kernel⟩
abbrev s_is_rising : Stmt := top 9
abbrev N_is_rising : List Str := ["numbers"]
theorem sc_is_rising : FnScope N_is_rising ["numbers"] (defScope s_is_rising) := ⟨rfl, rfl, rfl, by decide +kernel, rfl, by decide +kernel, by decide +kernel⟩
abbrev s_is_cut_of : Stmt := top 14
abbrev N_is_cut_of : List Str := ["cut", "lowers"]
theorem sc_is_cut_of : FnScope N_is_cut_of ["cut", "lowers"] (defScope s_is_cut_of) := ⟨rfl, rfl, rfl, by decide +kernel, rfl, by decide +kernel, by decide +kernel⟩
abbrev s_need_pieces : Stmt := top 15
abbrev N_need_pieces : List Str := ["many", "pieces", "lowers", "top", "knot", "cut", "table"]
theorem sc_need_pieces : FnScope N_need_pieces ["many", "pieces"] (defScope s_need_pieces) := ⟨rfl, rfl, rfl, by decide +kernel, rfl, by decide +kernel, by decide +kernel⟩
abbrev s_need_ties : Stmt := top 16
abbrev N_need_ties : List Str := ["ties", "lowers", "tie"]
theorem sc_need_ties : FnScope N_need_ties ["ties", "lowers"] (defScope s_need_ties) := ⟨rfl, rfl, rfl, by decide +kernel, rfl, by decide +kernel, by decide +kernel⟩
abbrev s_Board___init__ : Stmt := inClass (top 17) 0
abbrev N_Board___init__ : List Str := ["self", "many", "pieces", "ties"]
theorem sc_Board___init__ : FnScope N_Board___init__ ["self", "many", "pieces", "ties"] (defScope s_Board___init__) := ⟨rfl, rfl, rfl, by decide +kernel, rfl, by decide +kernel, by decide +kernel⟩
abbrev s_Board_pieces : Stmt := inClass (top 17) 1
abbrev N_Board_pieces : List Str := ["self"]
theorem sc_Board_pieces : FnScope N_Board_pieces ["self"] (defScope s_Board_pieces) := ⟨rfl, rfl, rfl, by decide +kernel, rfl, by decide +kernel, by decide +kernel⟩
abbrev s_Board_ties : Stmt := inClass (top 17) 2
abbrev N_Board_ties : List Str := ["self"]
theorem sc_Board_ties : FnScope N_Board_ties ["self"] (defScope s_Board_ties) := ⟨rfl, rfl, rfl, by decide +kernel, rfl, by decide +kernel, by decide +kernel⟩
abbrev s_table_text : Stmt := top 19
abbrev N_table_text : List Str := ["table", "count"]
theorem sc_table_text : FnScope N_table_text ["table", "count"] (defScope s_table_text) := ⟨rfl, rfl, rfl, by decide +kernel, rfl, by decide +kernel, by decide +kernel⟩
abbrev s_tie_text : Stmt := top 20
abbrev N_tie_text : List Str := ["tie", "sign"]
theorem sc_tie_text : FnScope N_tie_text ["tie"] (defScope s_tie_text) := ⟨rfl, rfl, rfl, by decide +kernel, rfl, by decide +kernel, by decide +kernel⟩
abbrev s_board_lines : Stmt := top 21
abbrev N_board_lines : List Str := ["board", "lines", "knot", "cut", "table", "numbers"]
theorem sc_board_lines : FnScope N_board_lines ["board"] (defScope s_board_lines) := ⟨rfl, rfl, rfl, by decide +kernel, rfl, by decide +kernel, by decide +kernel⟩
abbrev s_law_cell_at : Stmt := top 23
abbrev N_law_cell_at : List Str := ["_law_script", "_law_k"]
theorem sc_law_cell_at : FnScope N_law_cell_at ["_law_script", "_law_k"] (defScope s_law_cell_at) := ⟨rfl, rfl, rfl, by decide +kernel, rfl, by decide +kernel, by decide +kernel⟩
abbrev s_law_cut : Stmt := top 24
abbrev N_law_cut : List Str := ["_law_cell", "_law_known", "_law_cut_here", "_law_j", "_law_one", "_law_at"]
theorem sc_law_cut : FnScope N_law_cut ["_law_cell", "_law_known"] (defScope s_law_cut) := ⟨rfl, rfl, rfl, by decide +kernel, rfl, by decide +kernel, by decide +kernel⟩
abbrev s_law_pieces : Stmt := top 25
abbrev N_law_pieces : List Str := ["_law_script", "_law_many", "_law_known", "_law_pieces_here", "_law_k", "_law_cell", "_law_knot", "_law_cut_here"]
theorem sc_law_pieces : FnScope N_law_pieces ["_law_script", "_law_many"] (defScope s_law_pieces) := ⟨rfl, rfl, rfl, by decide +kernel, rfl, by decide +kernel, by decide +kernel⟩
abbrev s_law_ties : Stmt := top 26
abbrev N_law_ties : List Str := ["_law_cell", "_law_many", "_law_pieces_here", "_law_knots", "_law_ties_here", "_law_j", "_law_one", "_law_at"]
theorem sc_law_ties : FnScope N_law_ties ["_law_cell", "_law_many", "_law_pieces_here"] (defScope s_law_ties) := ⟨rfl, rfl, rfl, by decide +kernel, rfl, by decide +kernel, by decide +kernel⟩
abbrev s_law_lines : Stmt := top 27
abbrev N_law_lines : List Str := ["_law_many", "_law_pieces_here", "_law_ties_here", "_law_lines_here", "_law_knot", "_law_cut_here", "_law_bits", "_law_text", "_law_place"]
theorem sc_law_lines : FnScope N_law_lines ["_law_many", "_law_pieces_here", "_law_ties_here"] (defScope s_law_lines) := ⟨rfl, rfl, rfl, by decide +kernel, rfl, by decide +kernel, by decide +kernel⟩
abbrev s_law_same : Stmt := top 28
abbrev N_law_same : List Str := ["_law_board", "_law_many", "_law_pieces_here", "_law_ties_here", "_law_found", "_law_piece"]
theorem sc_law_same : FnScope N_law_same ["_law_board", "_law_many", "_law_pieces_here", "_law_ties_here"] (defScope s_law_same) := ⟨rfl, rfl, rfl, by decide +kernel, rfl, by decide +kernel, by decide +kernel⟩
abbrev s_law : Stmt := top 29
abbrev N_law : List Str := ["_law_script", "_law_many", "_law_pieces_here", "_law_ties_here", "_law_handed", "_law_board", "_law_piece", "_law_found", "_law_due", "_law_k"]
theorem sc_law : FnScope N_law ["_law_script"] (defScope s_law) := ⟨rfl, rfl, rfl, by decide +kernel, rfl, by decide +kernel, by decide +kernel⟩
structure Adr where
 f_full_column : Addr
 d_full_column : FuncData
 f_is_whole : Addr
 d_is_whole : FuncData
 f_is_between : Addr
 d_is_between : FuncData
 f_is_rising : Addr
 d_is_rising : FuncData
 f_is_cut_of : Addr
 d_is_cut_of : FuncData
 f_need_pieces : Addr
 d_need_pieces : FuncData
 f_need_ties : Addr
 d_need_ties : FuncData
 f_Board___init__ : Addr
 d_Board___init__ : FuncData
 f_Board_pieces : Addr
 d_Board_pieces : FuncData
 f_Board_ties : Addr
 d_Board_ties : FuncData
 f_table_text : Addr
 d_table_text : FuncData
 f_tie_text : Addr
 d_tie_text : FuncData
 f_board_lines : Addr
 d_board_lines : FuncData
 f_law_cell_at : Addr
 d_law_cell_at : FuncData
 f_law_cut : Addr
 d_law_cut : FuncData
 f_law_pieces : Addr
 d_law_pieces : FuncData
 f_law_ties : Addr
 d_law_ties : FuncData
 f_law_lines : Addr
 d_law_lines : FuncData
 f_law_same : Addr
 d_law_same : FuncData
 f_law : Addr
 d_law : FuncData
 c_Board : Addr
def gv_GREATEST_KNOT (_ : Adr) : V := .int 999
def gv_LONGEST_CUT (_ : Adr) : V := .int 6
def gv_MOST_INPUTS (_ : Adr) : V := .int 10
structure Txt (K : PySem.W.Frag) (mg : Str → Option Value) (a : Adr) : Prop where
 mg_full_column : mg "full_column" = some (.ref a.f_full_column)
 fn_full_column : Fun K "full_column" "full_column" s_full_column a.f_full_column a.d_full_column
 bi_full_column : Binds K a.d_full_column ["many"] []
 mg_is_whole : mg "is_whole" = some (.ref a.f_is_whole)
 fn_is_whole : Fun K "is_whole" "is_whole" s_is_whole a.f_is_whole a.d_is_whole
 bi_is_whole : Binds K a.d_is_whole ["thing"] []
 mg_is_between : mg "is_between" = some (.ref a.f_is_between)
 fn_is_between : Fun K "is_between" "is_between" s_is_between a.f_is_between a.d_is_between
 bi_is_between : Binds K a.d_is_between ["thing", "least", "greatest"] []
 mg_is_rising : mg "is_rising" = some (.ref a.f_is_rising)
 fn_is_rising : Fun K "is_rising" "is_rising" s_is_rising a.f_is_rising a.d_is_rising
 bi_is_rising : Binds K a.d_is_rising ["numbers"] []
 mg_is_cut_of : mg "is_cut_of" = some (.ref a.f_is_cut_of)
 fn_is_cut_of : Fun K "is_cut_of" "is_cut_of" s_is_cut_of a.f_is_cut_of a.d_is_cut_of
 bi_is_cut_of : Binds K a.d_is_cut_of ["cut", "lowers"] []
 mg_need_pieces : mg "need_pieces" = some (.ref a.f_need_pieces)
 fn_need_pieces : Fun K "need_pieces" "need_pieces" s_need_pieces a.f_need_pieces a.d_need_pieces
 bi_need_pieces : Binds K a.d_need_pieces ["many", "pieces"] []
 mg_need_ties : mg "need_ties" = some (.ref a.f_need_ties)
 fn_need_ties : Fun K "need_ties" "need_ties" s_need_ties a.f_need_ties a.d_need_ties
 bi_need_ties : Binds K a.d_need_ties ["ties", "lowers"] []
 fn_Board___init__ : Fun K "__init__" "Board.__init__" s_Board___init__ a.f_Board___init__ a.d_Board___init__
 bi_Board___init__ : Binds K a.d_Board___init__ ["self", "many", "pieces", "ties"] []
 fn_Board_pieces : Fun K "pieces" "Board.pieces" s_Board_pieces a.f_Board_pieces a.d_Board_pieces
 bi_Board_pieces : Binds K a.d_Board_pieces ["self"] []
 me_Board_pieces : Meth K a.c_Board "pieces" a.f_Board_pieces
 fn_Board_ties : Fun K "ties" "Board.ties" s_Board_ties a.f_Board_ties a.d_Board_ties
 bi_Board_ties : Binds K a.d_Board_ties ["self"] []
 me_Board_ties : Meth K a.c_Board "ties" a.f_Board_ties
 mg_table_text : mg "table_text" = some (.ref a.f_table_text)
 fn_table_text : Fun K "table_text" "table_text" s_table_text a.f_table_text a.d_table_text
 bi_table_text : Binds K a.d_table_text ["table", "count"] []
 mg_tie_text : mg "tie_text" = some (.ref a.f_tie_text)
 fn_tie_text : Fun K "tie_text" "tie_text" s_tie_text a.f_tie_text a.d_tie_text
 bi_tie_text : Binds K a.d_tie_text ["tie"] []
 mg_board_lines : mg "board_lines" = some (.ref a.f_board_lines)
 fn_board_lines : Fun K "board_lines" "board_lines" s_board_lines a.f_board_lines a.d_board_lines
 bi_board_lines : Binds K a.d_board_lines ["board"] []
 mg_law_cell_at : mg "_law_cell_at" = some (.ref a.f_law_cell_at)
 fn_law_cell_at : Fun K "_law_cell_at" "_law_cell_at" s_law_cell_at a.f_law_cell_at a.d_law_cell_at
 bi_law_cell_at : Binds K a.d_law_cell_at ["_law_script", "_law_k"] []
 mg_law_cut : mg "_law_cut" = some (.ref a.f_law_cut)
 fn_law_cut : Fun K "_law_cut" "_law_cut" s_law_cut a.f_law_cut a.d_law_cut
 bi_law_cut : Binds K a.d_law_cut ["_law_cell", "_law_known"] []
 mg_law_pieces : mg "_law_pieces" = some (.ref a.f_law_pieces)
 fn_law_pieces : Fun K "_law_pieces" "_law_pieces" s_law_pieces a.f_law_pieces a.d_law_pieces
 bi_law_pieces : Binds K a.d_law_pieces ["_law_script", "_law_many"] []
 mg_law_ties : mg "_law_ties" = some (.ref a.f_law_ties)
 fn_law_ties : Fun K "_law_ties" "_law_ties" s_law_ties a.f_law_ties a.d_law_ties
 bi_law_ties : Binds K a.d_law_ties ["_law_cell", "_law_many", "_law_pieces_here"] []
 mg_law_lines : mg "_law_lines" = some (.ref a.f_law_lines)
 fn_law_lines : Fun K "_law_lines" "_law_lines" s_law_lines a.f_law_lines a.d_law_lines
 bi_law_lines : Binds K a.d_law_lines ["_law_many", "_law_pieces_here", "_law_ties_here"] []
 mg_law_same : mg "_law_same" = some (.ref a.f_law_same)
 fn_law_same : Fun K "_law_same" "_law_same" s_law_same a.f_law_same a.d_law_same
 bi_law_same : Binds K a.d_law_same ["_law_board", "_law_many", "_law_pieces_here", "_law_ties_here"] []
 mg_law : mg "law" = some (.ref a.f_law)
 fn_law : Fun K "law" "law" s_law a.f_law a.d_law
 bi_law : Binds K a.d_law ["_law_script"] []
 mg_Board : mg "Board" = some (.ref a.c_Board)
 cl_Board : Cls K a.c_Board
 mk_Board : Mk K a.c_Board a.f_Board___init__
 na_Board_many : NoAttr K a.c_Board "many"
 na_Board_kept_pieces : NoAttr K a.c_Board "kept_pieces"
 na_Board_kept_ties : NoAttr K a.c_Board "kept_ties"
 gx_GREATEST_KNOT : ∃ u, mg "GREATEST_KNOT" = some u ∧ RelV (gv_GREATEST_KNOT a) u
 gx_LONGEST_CUT : ∃ u, mg "LONGEST_CUT" = some u ∧ RelV (gv_LONGEST_CUT a) u
 gx_MOST_INPUTS : ∃ u, mg "MOST_INPUTS" = some u ∧ RelV (gv_MOST_INPUTS a) u
 no_all : mg "all" = none
 no_bool : mg "bool" = none
 no_dict : mg "dict" = none
 no_int : mg "int" = none
 no_isinstance : mg "isinstance" = none
 no_len : mg "len" = none
 no_list : mg "list" = none
 no_max : mg "max" = none
 no_min : mg "min" = none
 no_range : mg "range" = none
 no_sorted : mg "sorted" = none
 no_str : mg "str" = none
 no_tuple : mg "tuple" = none
 no_zip : mg "zip" = none
seal PE PT PS PSs PA PG PGs PI PO PW PTs PPs PK PC PSet PIp OpR UnR CallR IxR SlR MtR MtM tMid
local macro_rules | `(tactic| walk_at "go") => `(tactic| try simp only [tSeq, tAsg, gName, gTup, gCons, gNil, tOp, tC, cVar, cI2, cI2c, cAdd, cMul, cEq, cNe, cIn, cBool, cTst, cTru, cChain, tRet, tDrop, tIfS, tIf, tCall, tCons, tNil, tNext, tCB, cLen, cIsinst, cMin, cMax, cAll, tNot, tOr, tAnd, cAndV, cNotV, tUn, cNeg, tFor_list, tFor_tup, tFor_rng1, tFor_rng2, tComp_list, tComp_tup, tComp_rng1, tComp_zip, cRef, cInt1, cInt2, cIx, tSl, cSlU, cPart, tNoPart, tVals, tLst_n, tTup_n, cList_n, cTuple_n, tDIn, tDNotIn, sDPut, tBM, tBM0, tMake, tMeth, tFld, sFld, tyV, cListRange, cListRange2, cStr, tComp_rng2, cSorted, tNo, cDictP, tFor_zip, rJoin, List.append_nil, List.cons_append, List.nil_append, List.getElem?_cons_zero, List.getElem?_cons_succ, List.set_cons_zero, List.set_cons_succ, decide_eq_true_eq, if_true, if_false, Bool.false_eq_true, eq_self, decide_true, decide_false, Bool.not_true, Bool.not_false, Bool.not_eq_true', decide_eq_false_iff_not, Bool.and_true, Bool.true_and])
local macro_rules | `(tactic| walk_at "sd") => `(tactic| first | exact And.intro (by decide) (by decide) | decide | omega | exact Or.inl (And.intro (by omega) (by omega)) | exact Or.inr (And.intro (by omega) (by omega)) | exact And.intro (by omega) (And.intro (by omega) (by decide)) | exact And.intro (by omega) (by omega))
local macro_rules | `(tactic| walk_at "gs") => `(tactic| (walk_at "go"; repeat (first | (refine And.intro (by walk_at "sd") ?_; walk_at "go"))))
local macro_rules | `(tactic| walk_at "o") => `(tactic| first | exact Or.inl rfl | exact Or.inr rfl)
variable {P : Program} {w : World} {K : PySem.W.Frag} {mg : Str → Option Value} {base : Heap} {a : Adr}
abbrev Pc := Int × List Int × Int
structure PLst (H : Hp) (l : Addr) (ts : List (Addr × Addr)) (ps : List Pc) : Prop where
 lst : H l = some (.lst (ts.map fun t => V.ref t.1))
 len : ts.length = ps.length
 at_ : ∀ (i : Nat) t p, ts[i]? = some t → ps[i]? = some p → H t.1 = some (.tup [.int p.1, .ref t.2, .int p.2.2]) ∧ H t.2 = some (.lst (p.2.1.map V.int))
structure PTup (H : Hp) (l : Addr) (ts : List (Addr × Addr)) (ps : List Pc) : Prop where
 tup : H l = some (.tup (ts.map fun t => V.ref t.1))
 len : ts.length = ps.length
 at_ : ∀ (i : Nat) t p, ts[i]? = some t → ps[i]? = some p → H t.1 = some (.tup [.int p.1, .ref t.2, .int p.2.2]) ∧ H t.2 = some (.tup (p.2.1.map V.int))
theorem PLst.same {H H' : Hp} {l : Addr} {ts : List (Addr × Addr)} {ps : List Pc} (h : PLst H l ts ps) (s : Same H H') : PLst H' l ts ps :=
 ⟨s _ _ h.lst, h.len, fun i t p ht hp => ⟨s _ _ (h.at_ i t p ht hp).1, s _ _ (h.at_ i t p ht hp).2⟩⟩
def NL (H H' : Hp) : Prop := ∀ b o, (∀ xs, o ≠ HO.lst xs) → H b = some o → H' b = some o
theorem NL.of {H H' : Hp} (s : Same H H') : NL H H' := fun b o _ e => s b o e
theorem NL.trans {H H' H1 : Hp} (s : NL H H') (t : NL H' H1) : NL H H1 := fun b o n e => t b o n (s b o n e)
theorem NL.upd {H : Hp} {a : Addr} {xs : List V} {o : HO} (h : H a = some (.lst xs)) : NL H (upd H a o) := fun b o' n e => by
 have : b ≠ a := fun z => by subst z; rw [h] at e; cases e; exact n xs rfl
 rw [upd_ne this]; exact e
theorem PTup.nl {H H' : Hp} {l : Addr} {ts : List (Addr × Addr)} {ps : List Pc} (h : PTup H l ts ps) (s : NL H H') : PTup H' l ts ps :=
 ⟨s _ _ (fun _ z => nomatch z) h.tup, h.len, fun i t p ht hp => ⟨s _ _ (fun _ z => nomatch z) (h.at_ i t p ht hp).1, s _ _ (fun _ z => nomatch z) (h.at_ i t p ht hp).2⟩⟩
theorem PLst.get {H : Hp} {l : Addr} {ts : List (Addr × Addr)} {ps : List Pc} (h : PLst H l ts ps) {i : Nat} (hi : i < ts.length) : ∃ p, ps[i]? = some p ∧ H (ts[i]).1 = some (.tup [.int p.1, .ref (ts[i]).2, .int p.2.2]) ∧ H (ts[i]).2 = some (.lst (p.2.1.map V.int)) := by
 have hp : ps[i]? = some (ps[i]'(by rw [← h.len]; exact hi)) := List.getElem?_eq_getElem _
 exact ⟨_, hp, h.at_ i _ _ (List.getElem?_eq_getElem hi) hp⟩
theorem PTup.get {H : Hp} {l : Addr} {ts : List (Addr × Addr)} {ps : List Pc} (h : PTup H l ts ps) {i : Nat} (hi : i < ts.length) : ∃ p, ps[i]? = some p ∧ H (ts[i]).1 = some (.tup [.int p.1, .ref (ts[i]).2, .int p.2.2]) ∧ H (ts[i]).2 = some (.tup (p.2.1.map V.int)) := by
 have hp : ps[i]? = some (ps[i]'(by rw [← h.len]; exact hi)) := List.getElem?_eq_getElem _
 exact ⟨_, hp, h.at_ i _ _ (List.getElem?_eq_getElem hi) hp⟩
theorem ref_at (ts : List (Addr × Addr)) {i : Nat} (hi : i < ts.length) : (ts.map fun t => V.ref t.1).getD i .non = .ref (ts[i]).1 := by
 rw [List.getD_eq_getElem?_getD, List.getElem?_map, List.getElem?_eq_getElem hi]
 rfl
def known (m : Nat) (ps : List Pc) : List Int := ((List.range m).map fun i : Nat => 1 + (i : Int)) ++ ps.map (·.1)
def topK (m : Nat) (ps : List Pc) : Int := (ps.map (·.1)).getLastD m
structure WPc (m : Nat) (ps : List Pc) (p : Pc) : Prop where
 up : topK m ps < p.1
 hi : p.1 ≤ 999
 l1 : 1 ≤ p.2.1.length
 l6 : p.2.1.length ≤ 6
 ris : p.2.1.Pairwise (· < ·)
 kn : ∀ x ∈ p.2.1, x ∈ known m ps
 t0 : 0 ≤ p.2.2
 t1 : p.2.2 < ((2 ^ 2 ^ p.2.1.length : Nat) : Int)
def WP (m : Nat) (ps : List Pc) : Prop := ∀ i p, ps[i]? = some p → WPc m (ps.take i) p
structure WT (m : Nat) (ps : List Pc) (ties : List Int) : Prop where
 l1 : 1 ≤ ties.length
 lh : ties.length ≤ 100
 tie : ∀ t ∈ ties, 0 ≤ t ∧ (t / 2 = 0 ∨ t / 2 ∈ known m ps)
theorem top_snoc (m : Nat) (ps : List Pc) (p : Pc) : topK m (ps ++ [p]) = p.1 := by
 unfold topK
 rw [List.map_append]
 simp
theorem known_snoc (m : Nat) (ps : List Pc) (p : Pc) : known m (ps ++ [p]) = known m ps ++ [p.1] := by
 unfold known
 rw [List.map_append, List.append_assoc]
 rfl
theorem take_snoc {ps : List Pc} {i : Nat} {p : Pc} (h : ps[i]? = some p) : ps.take (i + 1) = ps.take i ++ [p] := by rw [List.take_add_one, h]; rfl
def sp_is_whole (_ : PySem.W.Frag) : Sp := fun vs H Q _ => ∃ i : Int, vs = [.int i] ∧ Q (.bl true) H
def rd_is_whole (K : PySem.W.Frag) : TS := (tRet (cAndV (tCB (cIsinst K) (tCons (cVar 0) (tCons (tC (.ty "int")) tNil))) (cNotV (tCB (cIsinst K) (tCons (cVar 0) (tCons (tC (.ty "bool")) tNil))))))
theorem tm_is_whole (T : Txt K mg a) {cdv : Value} {A : Around} {outer : List Env} {s : Shared} {H : Hp} {E : XK} (hr : Room 0 (A.deeper (envOfC "is_whole" (defScope s_is_whole) s.heap.objs.size a.f_is_whole cdv))) :
  PSs (cxOf CX0 P w K mg base N_is_whole "is_whole" (defScope s_is_whole) a.f_is_whole cdv A outer s H E).nox (defBody s_is_whole) (rd_is_whole K) :=
 (pss_one (ps_ret (e_and (pe_callB c_isinst (by rfl) T.no_isinstance PyProof.Rows.boot_isinstance (pa_cons (cv 0) (pa_cons (pe_bltn (v := .ty "int") rfl T.no_int PyProof.Rows.boot_int rfl) pa_nil))) (pe_one (e_not (pe_callB c_isinst (by rfl) T.no_isinstance PyProof.Rows.boot_isinstance (pa_cons (cv 0) (pa_cons (pe_bltn (v := .ty "bool") rfl T.no_bool PyProof.Rows.boot_bool rfl) pa_nil))))))))
theorem ok_is_whole (T : Txt K mg a) : FnOk P w K mg base CX0 1 a.f_is_whole a.d_is_whole ["thing"] (sp_is_whole K) := by
 refine T.fn_is_whole.ok sc_is_whole (fun vs H Q E h => ?_) (fun cdv A outer s H vs Q E hr h => ⟨_, tm_is_whole T hr, ?_⟩)
 ·obtain ⟨i, rfl, _⟩ := h; rfl
 ·obtain ⟨i, rfl, q⟩ := h
  show rd_is_whole K _ [some (.int i)] H
  unfold rd_is_whole
  walk_at "gs"
  refine ⟨_, true, .int _, rfl, ?_⟩
  walk_at "gs"
  refine ⟨_, false, .int _, rfl, ?_⟩
  walk_at "gs"
  exact q
def sp_is_between (_ : PySem.W.Frag) : Sp := fun vs H Q _ => ∃ i l g : Int, vs = [.int i, .int l, .int g] ∧ Q (.bl (decide (l ≤ i ∧ i ≤ g))) H
def rd_is_between (K : PySem.W.Frag) : TS := (tRet (cAndV (tCall (sp_is_whole K) [] E0 (tCons (cVar 0) tNil)) (cChain (cI2 fun i j => .bl (decide (i ≤ j))) (cI2 fun i j => .bl (decide (i ≤ j))) (cVar 1) (cVar 0) (cVar 2))))
theorem tm_is_between (T : Txt K mg a) {cdv : Value} {A : Around} {outer : List Env} {s : Shared} {H : Hp} {E : XK} (hr : Room 1 (A.deeper (envOfC "is_between" (defScope s_is_between) s.heap.objs.size a.f_is_between cdv))) :
  PSs (cxOf CX0 P w K mg base N_is_between "is_between" (defScope s_is_between) a.f_is_between cdv A outer s H E).nox (defBody s_is_between) (rd_is_between K) :=
 (pss_one (ps_ret (e_and (pe_call (ok_is_whole T) (hr.mono (by decide)) rfl T.mg_is_whole T.fn_is_whole.kp T.bi_is_whole .nil pass0 (pa_cons (cv 0) pa_nil)) (pe_one (e_chain o_le o_le (cv 1) (cv 0) (cv 2))))))
theorem ok_is_between (T : Txt K mg a) : FnOk P w K mg base CX0 2 a.f_is_between a.d_is_between ["thing", "least", "greatest"] (sp_is_between K) := by
 refine T.fn_is_between.ok sc_is_between (fun vs H Q E h => ?_) (fun cdv A outer s H vs Q E hr h => ⟨_, tm_is_between T hr, ?_⟩)
 ·obtain ⟨i, l, g, rfl, _⟩ := h; rfl
 ·obtain ⟨i, l, g, rfl, q⟩ := h
  show rd_is_between K _ [some (.int i), some (.int l), some (.int g)] H
  unfold rd_is_between
  walk_at "gs"
  refine ⟨_, rfl, ?_⟩
  walk_at "gs"
  by_cases h : l ≤ i
  ·rw [if_pos h]
   rw [show decide (l ≤ i ∧ i ≤ g) = decide (i ≤ g) by rw [decide_eq_decide]; omega] at q
   exact q
  ·rw [if_neg h]
   rw [decide_eq_false (fun z => h z.1)] at q
   exact q
def fullN (m : Nat) : Nat := 2 ^ 2 ^ m - 1
def sp_full_column (_ : PySem.W.Frag) : Sp := fun vs H Q _ => ∃ m : Nat, vs = [.int m] ∧ m ≤ 10 ∧ Q (.int (fullN m : Nat)) H
def rd_full_column (K : PySem.W.Frag) : TS := (tRet (tOp (cI2 fun i j => .int (i - j)) (tOp (cI2c CPow fun i j => .int (i * 2 ^ j.toNat)) (tC (.int 1)) (tOp (cI2c CPow fun i j => .int (i * 2 ^ j.toNat)) (tC (.int 1)) (cVar 0))) (tC (.int 1))))
theorem tm_full_column (T : Txt K mg a) {cdv : Value} {A : Around} {outer : List Env} {s : Shared} {H : Hp} {E : XK} (hr : Room 0 (A.deeper (envOfC "full_column" (defScope s_full_column) s.heap.objs.size a.f_full_column cdv))) :
  PSs (cxOf CX0 P w K mg base N_full_column "full_column" (defScope s_full_column) a.f_full_column cdv A outer s H E).nox (defBody s_full_column) (rd_full_column K) :=
 (pss_one (ps_ret (pe_op o_sub (pe_op o_shl pe_int (pe_op o_shl pe_int (cv 0))) pe_int)))
theorem ok_full_column (T : Txt K mg a) : FnOk P w K mg base CX0 1 a.f_full_column a.d_full_column ["many"] (sp_full_column K) := by
 refine T.fn_full_column.ok sc_full_column (fun vs H Q E h => ?_) (fun cdv A outer s H vs Q E hr h => ⟨_, tm_full_column T hr, ?_⟩)
 ·obtain ⟨m, rfl, _⟩ := h; rfl
 ·obtain ⟨m, rfl, m10, q⟩ := h
  show rd_full_column K _ [some (.int m)] H
  unfold rd_full_column
  have hp10 : (2 : Nat) ^ m ≤ 2 ^ 10 := Nat.pow_le_pow_right (by decide) m10
  have ec : (1 * 2 ^ ((m : Int)).toNat : Int) = ((2 ^ m : Nat) : Int) := by simp
  have ef : (1 * 2 ^ (((2 ^ m : Nat) : Int)).toNat - 1 : Int) = ((fullN m : Nat) : Int) := by
   have := shl_val 1 (2 ^ m)
   rw [show ((1 : Nat) : Int) = 1 from rfl] at this
   rw [this, Nat.one_mul]
   have h1 : 1 ≤ 2 ^ 2 ^ m := Nat.one_le_two_pow
   unfold fullN
   omega
  walk_at "gs"
  rw [ec]
  have cp : CPow 1 ((2 ^ m : Nat) : Int) := by
   generalize 2 ^ m = N at hp10
   exact ⟨by omega, by omega, by decide⟩
  refine ⟨cp, ?_⟩
  rw [ef]
  exact q
def sp_is_rising (K : PySem.W.Frag) : Sp := fun vs H Q _ => ∃ (p : Addr) (xs : List Int), vs = [.ref p] ∧ SqL K H p (xs.map V.int) ∧ xs.length ≤ 4000 ∧ ∀ H', Same H H' → Q (.bl (MF.rising xs)) H'
def rd_is_rising (K : PySem.W.Frag) : TS := (tRet (tCB (cAll K) (tCons (tComp (iZip K (tCons (cVar 0) (tCons (tSl (cSlU K) (cVar 0) (cPart (tC (.int 1))) tNoPart) tNil))) 2 [] (gTup K 2 (gCons (gName 0) (gCons (gName 1) gNil))) tTrue (tOp (cI2 fun i j => .bl (decide (i < j))) (cVar 0) (cVar 1))) tNil)))
theorem tm_is_rising (T : Txt K mg a) {cdv : Value} {A : Around} {outer : List Env} {s : Shared} {H : Hp} {E : XK} (hr : Room 0 (A.deeper (envOfC "is_rising" (defScope s_is_rising) s.heap.objs.size a.f_is_rising cdv))) :
  PSs (cxOf CX0 P w K mg base N_is_rising "is_rising" (defScope s_is_rising) a.f_is_rising cdv A outer s H E).nox (defBody s_is_rising) (rd_is_rising K) :=
 (pss_one (ps_ret (pe_callB (c_all rfl) (by rfl) T.no_all PyProof.Rows.boot_all (pa_cons (pe_comp (N := ["one", "other"]) (k := 2) (sel := []) (CScope.of (defScope s_is_rising).names (by decide +kernel)) (CNames.of N_is_rising (by decide +kernel)) rfl (pi_zip rfl T.no_zip (pa_cons (cv 0) (pa_cons (pe_slice s_u (cv 0) (e_part pe_int) po_none) pa_nil))) (fun _ _ _ _ => (pg_tup rfl (pgs_cons (pg_name (i := 0) (show List.Nodup (["one", "other"] : List Str) by decide +kernel) rfl (by walk_at "o")) (pgs_cons (pg_name (i := 1) (show List.Nodup (["one", "other"] : List Str) by decide +kernel) rfl (by walk_at "o")) pgs_nil)))) (fun _ _ _ _ => pts_nil) (fun _ _ _ _ => (pe_cmpR o_lt (cv 0) (cv 1) (nomark _)))) pa_nil))))
theorem ok_is_rising (T : Txt K mg a) : FnOk P w K mg base CX0 1 a.f_is_rising a.d_is_rising ["numbers"] (sp_is_rising K) := by
 refine T.fn_is_rising.ok sc_is_rising (fun vs H Q E h => ?_) (fun cdv A outer s H vs Q E hr h => ⟨_, tm_is_rising T hr, ?_⟩)
 ·obtain ⟨p, xs, rfl, _⟩ := h; rfl
 ·obtain ⟨p, xs, rfl, hS, hz, q⟩ := h
  show rd_is_rising K _ [some (.ref p)] H
  unfold rd_is_rising
  have big : (20000 : Nat) ≤ sizeLine := by decide
  walk_at "gs"
  refine ⟨_, hS, fun q1 H1 n1 => ?_⟩
  rw [cut_1] at n1
  refine ⟨p, q1, rfl, ⟨_, n1.same.seq hS⟩, ⟨_, n1.sq⟩, fun r hr => comp_zG (xs := xs.map V.int) (ys := (xs.map V.int).drop 1) (n := xs.length - 1) (by rw [List.length_drop, List.length_map]; omega) (fun σ => ∃ v0 v1, σ = [v0, v1]) (fun i H3 => H3 r = some (.lst (((List.range i).map fun j => decide (xs.getD j 0 < xs.getD (j + 1) 0)).map V.bl)) ∧ Same H1 H3) ⟨_, _, rfl⟩ ⟨upd_same, same_upd hr⟩ ?_ ?_ ?_⟩
  ·rintro i H2 _ ⟨_, s2⟩
   exact ⟨s2.seq (n1.same.seq hS), s2.seq n1.sq⟩
  ·rintro i x y t σ2 H2 R hx hy ht ⟨v0, v1, rfl⟩ ⟨h1, s2⟩ hR
   have hi : i + 1 < xs.length := by
    have := (List.getElem?_eq_some_iff.mp hy).1
    rw [List.length_drop, List.length_map] at this
    omega
   have ex : x = .int (xs.getD i 0) := by
    rw [List.getElem?_map, List.getElem?_eq_getElem (by omega)] at hx
    cases hx
    simp [List.getD, show i < xs.length by omega]
   have ey : y = .int (xs.getD (i + 1) 0) := by
    rw [List.getElem?_drop, List.getElem?_map, show 1 + i = i + 1 by omega, List.getElem?_eq_getElem hi] at hy
    cases hy
    simp [List.getD, hi]
   subst ex ey
   have ntr : t ≠ r := (ne_of_none h1 ht).symm
   walk_at "gs"
   refine ⟨t, _, rfl, .of upd_same, rfl, _, _, rfl, _, _, rfl, rfl, ?_⟩
   walk_at "gs"
   refine ⟨_, by rw [upd_ne ntr.symm]; exact h1, by rw [List.length_map, List.length_map, List.length_range]; omega, hR _ _ ⟨_, _, rfl⟩ ⟨?_, ((s2.trans (same_upd ht))).put hr⟩⟩
   rw [upd_same, List.range_succ, List.map_append, List.map_append]
   rfl
  ·rintro H3 ⟨h1, s3⟩
   walk_at "gs"
   refine ⟨_, .of h1, ?_⟩
   exact q H3 (n1.same.trans s3)
theorem all_true {α : Type} (xs : List α) : (xs.map fun _ => true).all id = true := by
 rw [List.all_map, List.all_eq_true]
 intro _ _
 rfl
def sp_is_cut_of (K : PySem.W.Frag) : Sp := fun vs H Q _ => ∃ (c d : Addr) (xs : List Int) (kvs : List (Key × V)), vs = [.ref c, .ref d] ∧ SqL K H c (xs.map V.int) ∧ H d = some (.dK kvs) ∧ 1 ≤ xs.length ∧ xs.length ≤ 6 ∧ xs.Pairwise (· < ·) ∧ (∀ x ∈ xs, (valV kvs (.inl x)).isSome = true) ∧ ∀ H', Same H H' → Q (.bl true) H'
def rd_is_cut_of (a : Adr) (K : PySem.W.Frag) : TS := (tSeq (tIfS (tOr (cTst (tOp (cI2 fun i j => .bl (decide (i < j))) (tCB (cLen K) (tCons (cVar 0) tNil)) (tC (.int 1)))) (cTst (tOp (cI2 fun i j => .bl (decide (j < i))) (tCB (cLen K) (tCons (cVar 0) tNil)) (tC (gv_LONGEST_CUT a))))) (tRet (tC (.bl false))) tNext)
  (tSeq (tIfS (tNot (cTru K (tCB (cAll K) (tCons (tComp (iList K (cVar 0)) 1 [1] (gName 0) tTrue (cAndV (tCall (sp_is_whole K) [] E0 (tCons (cVar 0) tNil)) (tDIn (cVar 0) (cVar 1)))) tNil)))) (tRet (tC (.bl false))) tNext)
  (tRet (tCall (sp_is_rising K) [] E0 (tCons (cVar 0) tNil)))))
theorem tm_is_cut_of (T : Txt K mg a) {cdv : Value} {A : Around} {outer : List Env} {s : Shared} {H : Hp} {E : XK} (hr : Room 1 (A.deeper (envOfC "is_cut_of" (defScope s_is_cut_of) s.heap.objs.size a.f_is_cut_of cdv))) :
  PSs (cxOf CX0 P w K mg base N_is_cut_of "is_cut_of" (defScope s_is_cut_of) a.f_is_cut_of cdv A outer s H E).nox (defBody s_is_cut_of) (rd_is_cut_of a K) :=
 (pss_cons (ps_if (PW.pt (pw_or (t_cmp o_lt (pe_callB c_len (by rfl) T.no_len PySem.boot_len (pa_cons (cv 0) pa_nil)) pe_int (nomark _)) (pw_or1 (t_cmp o_gt (pe_callB c_len (by rfl) T.no_len PySem.boot_len (pa_cons (cv 0) pa_nil)) (pe_globE rfl T.gx_LONGEST_CUT) (nomark _))))) (pss_one (ps_ret pe_bl)) pss_nil)
   (pss_cons (ps_if (pt_not (pt_tru (pe_callB (c_all rfl) (by rfl) T.no_all PyProof.Rows.boot_all (pa_cons (pe_comp (N := ["lower", "lowers"]) (k := 1) (sel := [1]) (CScope.of (defScope s_is_cut_of).names (by decide +kernel)) (CNames.of N_is_cut_of (by decide +kernel)) rfl (pi_list (cv 0)) (fun _ _ _ _ => (pg_name (i := 0) (show List.Nodup (["lower", "lowers"] : List Str) by decide +kernel) rfl (by walk_at "o"))) (fun _ _ _ _ => pts_nil) (fun _ _ _ _ => (e_and (pe_call (ok_is_whole T) (hr.mono (by decide)) rfl T.mg_is_whole T.fn_is_whole.kp T.bi_is_whole .nil pass0 (pa_cons (cv 0) pa_nil)) (pe_one (pe_cmp (pc_din (hu_of hr) (cv 0) (cv 1))))))) pa_nil)))) (pss_one (ps_ret pe_bl)) pss_nil)
   (pss_one (ps_ret (pe_call (ok_is_rising T) (hr.mono (by decide)) rfl T.mg_is_rising T.fn_is_rising.kp T.bi_is_rising .nil pass0 (pa_cons (cv 0) pa_nil))))))
theorem ok_is_cut_of (T : Txt K mg a) : FnOk P w K mg base CX0 2 a.f_is_cut_of a.d_is_cut_of ["cut", "lowers"] (sp_is_cut_of K) := by
 refine T.fn_is_cut_of.ok sc_is_cut_of (fun vs H Q E h => ?_) (fun cdv A outer s H vs Q E hr h => ⟨_, tm_is_cut_of T hr, ?_⟩)
 ·obtain ⟨c, d, xs, kvs, rfl, _⟩ := h; rfl
 ·obtain ⟨c, d, xs, kvs, rfl, hc, hd, h1, h6, hr, hk, q⟩ := h
  show rd_is_cut_of a K _ [some (.ref c), some (.ref d)] H
  unfold rd_is_cut_of gv_LONGEST_CUT
  have big : (20000 : Nat) ≤ sizeLine := by decide
  walk_at "gs"
  refine .inl ⟨_, .inl hc, ?_⟩
  rw [List.length_map]
  rw [if_neg (show ¬ ((xs.length : Int) < 1) by omega)]
  refine .inl ⟨_, .inl hc, ?_⟩
  rw [List.length_map]
  rw [if_neg (show ¬ ((6 : Int) < (xs.length : Int)) by omega)]
  walk_at "gs"
  refine ⟨⟨_, hc⟩, compG_list (fun _ => .bl true) hc rfl (by rw [List.length_map]; omega) ?_ ?_⟩
  ·intro v H' Q' hv s' q'
   obtain ⟨y, hy, rfl⟩ := List.mem_map.mp hv
   walk_at "gs"
   refine ⟨_, rfl, ?_⟩
   walk_at "gs"
   refine ⟨d, _, rfl, DGet.k (k := .inl y) (s' _ _ hd), ?_⟩
   rw [hk y hy]
   exact q'
  intro lp H1 n1
  have e1 : (xs.map V.int).map (fun _ => V.bl true) = (xs.map fun _ => true).map V.bl := by rw [List.map_map, List.map_map]; rfl
  rw [e1] at n1
  walk_at "gs"
  refine ⟨_, n1.sq, ?_⟩
  rw [all_true]
  walk_at "gs"
  refine ⟨c, xs, rfl, n1.same.seq hc, by omega, fun H2 s2 => ?_⟩
  rw [(MF.rising_iff xs).mpr (MF.ris_of hr)]
  exact q H2 (n1.same.trans s2)
theorem putK_len {κ : Type} [DecidableEq κ] (kvs : List (κ × V)) (k : κ) (v : V) : (putK kvs k v).length ≤ kvs.length + 1 := by
 unfold putK
 split
 ·rw [List.length_map]; omega
 ·rw [List.length_append]; exact Nat.le_refl _
def sp_need_pieces (_ : PySem.W.Frag) : Sp := fun vs H Q _ => ∃ (m : Nat) (l : Addr) (ts : List (Addr × Addr)) (ps : List Pc), vs = [.int m, .ref l] ∧ PLst H l ts ps ∧ WP m ps ∧ m ≤ 10 ∧ ps.length ≤ 1000 ∧
 ∀ d kvs H', Mad H d (.dK kvs) H' → (∀ x : Int, (valV kvs (.inl x)).isSome = decide (x ∈ known m ps)) → Q (.ref d) H'
def rd_need_pieces (a : Adr) (K : PySem.W.Frag) : TS := (tSeq (tAsg (tCB (cDictP K) (tCons (tComp (iRng2 (tCons (tC (.int 1)) (tCons (tOp cAdd (cVar 0) (tC (.int 1))) tNil))) 1 [] (gName 0) tTrue (tTup (tCons (cVar 0) (tCons (tC (.bl true)) tNil)))) tNil)) (gName 2))
  (tSeq (tAsg (cVar 0) (gName 3))
  (tSeq (tFor (iList K (cVar 1)) (gTup K 3 (gCons (gName 4) (gCons (gName 5) (gCons (gName 6) gNil)))) (tSeq (tIfS (tOr (tNot (cTru K (tCall (sp_is_between K) [] E0 (tCons (cVar 4) (tCons (tOp cAdd (cVar 3) (tC (.int 1))) (tCons (tC (gv_GREATEST_KNOT a)) tNil)))))) (tNot (cTru K (tCall (sp_is_cut_of K) [] E0 (tCons (cVar 5) (tCons (cVar 2) tNil)))))) tNo tNext)
  (tSeq (tIfS (tNot (cTru K (tCall (sp_is_between K) [] E0 (tCons (cVar 6) (tCons (tC (.int 0)) (tCons (tCall (sp_full_column K) [] E0 (tCons (tCB (cLen K) (tCons (cVar 5) tNil)) tNil)) tNil)))))) tNo tNext)
  (tSeq (sDPut (cVar 2) (cVar 4) (tC (.bl true)))
  (tAsg (cVar 4) (gName 3))))))
  (tRet (cVar 2)))))
theorem tm_need_pieces (T : Txt K mg a) {cdv : Value} {A : Around} {outer : List Env} {s : Shared} {H : Hp} {E : XK} (hr : Room 2 (A.deeper (envOfC "need_pieces" (defScope s_need_pieces) s.heap.objs.size a.f_need_pieces cdv))) :
  PSs (cxOf CX0 P w K mg base N_need_pieces "need_pieces" (defScope s_need_pieces) a.f_need_pieces cdv A outer s H E).nox (defBody s_need_pieces) (rd_need_pieces a K) :=
 (pss_cons (ps_set (i := 2) sc_need_pieces.nd rfl (by walk_at "o") (pe_callTy (c_dictP rfl) (by rfl) T.no_dict PyProof.Rows.boot_dict (pa_cons (pe_comp (N := ["knot"]) (k := 1) (sel := []) (CScope.of (defScope s_need_pieces).names (by decide +kernel)) (CNames.of N_need_pieces (by decide +kernel)) rfl (pi_range2 rfl T.no_range (pa_cons pe_int (pa_cons (pe_op o_add (cv 0) pe_int) pa_nil))) (fun _ _ _ _ => (pg_name (i := 0) (show List.Nodup (["knot"] : List Str) by decide +kernel) rfl (by walk_at "o"))) (fun _ _ _ _ => pts_nil) (fun _ _ _ _ => (pe_tup (pa_cons (cv 0) (pa_cons pe_bl pa_nil))))) pa_nil)))
   (pss_cons (ps_set (i := 3) sc_need_pieces.nd rfl (by walk_at "o") (cv 0))
   (pss_cons (ps_for PassesOwn.never rfl (pi_list (cv 1)) (pg_tup rfl (pgs_cons (pg_name (i := 4) sc_need_pieces.nd rfl (by walk_at "o")) (pgs_cons (pg_name (i := 5) sc_need_pieces.nd rfl (by walk_at "o")) (pgs_cons (pg_name (i := 6) sc_need_pieces.nd rfl (by walk_at "o")) pgs_nil)))) (pss_cons (ps_if (PW.pt (pw_or (pt_not (pt_tru (pe_call (ok_is_between T) (hr.mono (by decide)) rfl T.mg_is_between T.fn_is_between.kp T.bi_is_between .nil pass0 (pa_cons (cv 4) (pa_cons (pe_op o_add (cv 3) pe_int) (pa_cons (pe_globE rfl T.gx_GREATEST_KNOT) pa_nil)))))) (pw_or1 (pt_not (pt_tru (pe_call (ok_is_cut_of T) (hr.mono (by decide)) rfl T.mg_is_cut_of T.fn_is_cut_of.kp T.bi_is_cut_of .nil pass0 (pa_cons (cv 5) (pa_cons (cv 2) pa_nil)))))))) (pss_one ps_no) pss_nil)
   (pss_cons (ps_if (pt_not (pt_tru (pe_call (ok_is_between T) (hr.mono (by decide)) rfl T.mg_is_between T.fn_is_between.kp T.bi_is_between .nil pass0 (pa_cons (cv 6) (pa_cons pe_int (pa_cons (pe_call (ok_full_column T) (hr.mono (by decide)) rfl T.mg_full_column T.fn_full_column.kp T.bi_full_column .nil pass0 (pa_cons (pe_callB c_len (by rfl) T.no_len PySem.boot_len (pa_cons (cv 5) pa_nil)) pa_nil)) pa_nil)))))) (pss_one ps_no) pss_nil)
   (pss_cons (ps_dput (hu_of hr) (cv 2) (cv 4) pe_bl rfl)
   (pss_one (ps_set (i := 3) sc_need_pieces.nd rfl (by walk_at "o") (cv 4)))))))
   (pss_one (ps_ret (cv 2))))))
theorem ok_need_pieces (T : Txt K mg a) : FnOk P w K mg base CX0 3 a.f_need_pieces a.d_need_pieces ["many", "pieces"] (sp_need_pieces K) := by
 refine T.fn_need_pieces.ok sc_need_pieces (fun vs H Q E h => ?_) (fun cdv A outer s H vs Q E hr h => ⟨_, tm_need_pieces T hr, ?_⟩)
 ·obtain ⟨m, l, ts, ps, rfl, _⟩ := h; rfl
 ·obtain ⟨m, l, ts, ps, rfl, hP, wp, m10, hz, q⟩ := h
  show rd_need_pieces a K _ [some (.int m), some (.ref l), none, none, none, none, none] H
  unfold rd_need_pieces gv_GREATEST_KNOT
  have big : (20000 : Nat) ≤ sizeLine := by decide
  have htl := hP.len
  walk_at "gs"
  refine ⟨_, _, rfl, ⟨by decide, by decide, by omega, by omega⟩, ?_⟩
  rw [show ((m : Int) + 1 - 1).toNat = m by omega]
  refine fun lp hlp => comp_gen (n := m) (item := fun i => .int ((1 : Int) + (i : Nat))) (fun σ => ∃ v, σ = [v]) (fun i H2 => ∃ us, H2 lp = some (.lst us) ∧ us.length = i ∧ Same H H2 ∧ ∀ j : Nat, j < i → ∃ t, us[j]? = some (.ref t) ∧ H2 t = some (.tup [.int (1 + (j : Int)), .bl true])) ⟨_, rfl⟩ ⟨[], upd_same, rfl, same_upd hlp, fun j hj => absurd hj (Nat.not_lt_zero _)⟩ ?_ ?_ ?_ ?_
  ·intro i H2 hi _
   exact ⟨hi, fun x H5 hy => hy⟩
  ·intro H2 _
   exact Nat.le_refl _
  ·rintro i σ2 H2 R hi ⟨v, rfl⟩ ⟨us, h1, h2, s2, h4⟩ hR
   walk_at "gs"
   refine ⟨by show 2 ≤ sizeLine; decide, fun t5 H5 n5 => ?_⟩
   have hp5 := n5.same _ _ h1
   have npt : t5 ≠ lp := (ne_of_none h1 n5.was).symm
   refine ⟨us, hp5, by omega, hR _ _ ⟨_, rfl⟩ ⟨us ++ [.ref t5], upd_same, by rw [List.length_append, h2]; rfl, (s2.trans n5.same).put hlp, fun j hj => ?_⟩⟩
   by_cases hji : j < i
   ·obtain ⟨t', g1, g2⟩ := h4 j hji
    exact ⟨t', by rw [List.getElem?_append_left (by omega)]; exact g1, by rw [upd_ne (ne_of g2 h1 (fun z => nomatch z))]; exact n5.same _ _ g2⟩
   ·have hj' : j = i := by omega
    subst hj'
    exact ⟨t5, by rw [← h2]; simp, by rw [upd_ne npt]; exact n5.at_⟩
  rintro H2 ⟨us, h1, h2, s2, h4⟩
  walk_at "gs"
  refine ⟨us, ((List.range m).map fun i : Nat => 1 + (i : Int)).map fun x => (.inl x, .bl true), h1, by rw [h2, List.length_map, List.length_map, List.length_range], by rw [List.length_map, List.length_map, List.length_range]; omega, fun j pr hj => ?_, fun d H3 n3 => ?_⟩
  ·rw [List.map_map, List.getElem?_map] at hj
   cases hx : (List.range m)[j]? with
   | none => rw [hx] at hj; cases hj
   | some x =>
    rw [hx] at hj
    cases hj
    have hjm : j < m := by have := (List.getElem?_eq_some_iff.mp hx).1; rwa [List.length_range] at this
    rw [List.getElem?_range hjm] at hx
    cases hx
    exact h4 j hjm
  have hv0 : ∀ x : Int, (valV (mergeK [] (((List.range m).map fun i : Nat => 1 + (i : Int)).map fun x => ((.inl x : Key), V.bl true))) (.inl x)).isSome = decide (x ∈ known m []) := fun x => by
   have := val_merge ((List.range m).map fun i : Nat => 1 + (i : Int)) x []
   unfold known
   rw [List.map_nil, List.append_nil]
   simpa [mergeK, valV] using this
  have hlen : (mergeK [] (((List.range m).map fun i : Nat => 1 + (i : Int)).map fun x => ((.inl x : Key), V.bl true))).length ≤ m := by
   have key : ∀ (ks : List Int) (acc : List (Key × V)), ((ks.map fun x => ((.inl x : Key), V.bl true)).foldl (fun acc kv => putK acc kv.1 kv.2) acc).length ≤ acc.length + ks.length := by
    intro ks
    induction ks with
    | nil => intro acc; simp
    | cons k r ih =>
     intro acc
     rw [List.map_cons, List.foldl_cons, List.length_cons]
     dsimp only
     have := ih (putK acc (.inl k) (.bl true))
     have := putK_len acc (.inl k) (.bl true)
     omega
   have := key ((List.range m).map fun i : Nat => 1 + (i : Int)) []
   rw [List.length_map, List.length_range] at this
   simpa [mergeK] using this
  generalize mergeK [] (((List.range m).map fun i : Nat => 1 + (i : Int)).map fun x => ((.inl x : Key), V.bl true)) = kv0 at n3 hv0 hlen
  have s03 := s2.trans n3.same
  have hd0 : H d = none := s2.nil n3.was
  walk_at "gs"
  refine ⟨⟨_, .of (s03 _ _ hP.lst)⟩, for_listG (xs := ts.map fun t => V.ref t.1) (fun i σ H4 => Same H H4 ∧ ∃ (kvs : List (Key × V)) (v4 v5 v6 : Option V), H4 d = some (.dK kvs) ∧ kvs.length ≤ m + i ∧ (∀ x : Int, (valV kvs (.inl x)).isSome = decide (x ∈ known m (ps.take i))) ∧ σ = [some (.int m), some (.ref l), some (.ref d), some (.int (topK m (ps.take i))), v4, v5, v6]) ⟨s03, kv0, _, _, _, n3.at_, by omega, hv0, rfl⟩ ?_ ?_ ?_⟩
  ·rintro i σ H4 _ ⟨s4, _⟩
   exact .of (s4 _ _ hP.lst)
  ·rintro i v σ H4 hv ⟨s4, kvs, v4, v5, v6, h4, hl4, hk4, rfl⟩
   have hi : i < ts.length := by have := (List.getElem?_eq_some_iff.mp hv).1; rwa [List.length_map] at this
   rw [List.getElem?_map, List.getElem?_eq_getElem hi] at hv
   have ev : V.ref (ts[i]).1 = v := Option.some.inj hv
   subst ev
   clear hv
   obtain ⟨p, hp, hpt, hpc⟩ := (hP.same s4).get hi
   obtain ⟨w1, w2, w3, w4, w5, w6, w7, w8⟩ := wp i p hp
   have hts := take_snoc hp
   generalize (ts[i]).1 = t1 at *
   generalize (ts[i]).2 = t2 at *
   have efull : ((fullN p.2.1.length : Nat) : Int) = ((2 ^ 2 ^ p.2.1.length : Nat) : Int) - 1 := by
    unfold fullN
    have h1 : 1 ≤ 2 ^ 2 ^ p.2.1.length := Nat.one_le_two_pow
    omega
   walk_at "gs"
   refine ⟨t1, _, rfl, .of hpt, rfl, _, _, rfl, _, _, rfl, _, _, rfl, rfl, ?_⟩
   walk_at "gs"
   refine ⟨_, _, _, rfl, ?_⟩
   rw [decide_eq_true (show topK m (ps.take i) + 1 ≤ p.1 ∧ p.1 ≤ 999 by omega)]
   walk_at "gs"
   refine ⟨t2, d, p.2.1, kvs, rfl, .of hpc, h4, w3, w4, w5, fun x hx => by rw [hk4]; exact decide_eq_true (w6 x hx), fun H5 s5 => ?_⟩
   walk_at "gs"
   refine .inl ⟨_, .inl (.of (s5 _ _ hpc)), ?_⟩
   rw [List.length_map]
   refine ⟨_, rfl, by omega, ?_⟩
   refine ⟨_, _, _, rfl, ?_⟩
   rw [efull, decide_eq_true (show (0 : Int) ≤ p.2.2 ∧ p.2.2 ≤ ((2 ^ 2 ^ p.2.1.length : Nat) : Int) - 1 from ⟨w7, by generalize ((2 ^ 2 ^ p.2.1.length : Nat) : Int) = Z at w8 ⊢; omega⟩)]
   walk_at "gs"
   refine ⟨d, _, rfl, DPut.k (k := .inl p.1) (s5 _ _ h4) (by omega), (s4.trans s5).put hd0, _, some (.int p.1), some (.ref t2), some (.int p.2.2), upd_same, ?_, fun x => ?_, ?_⟩
   ·have := putK_len kvs (.inl p.1) (V.bl true)
    omega
   ·rw [hts, known_snoc, valV_put]
    by_cases e : x = p.1
    ·subst e
     rw [if_pos rfl]
     simp
    ·rw [if_neg (fun z => e (Sum.inl.inj z)), hk4 x, decide_eq_decide, List.mem_append, List.mem_singleton]
     exact ⟨.inl, fun z => z.resolve_right e⟩
   ·rw [hts, top_snoc]
  ·rintro σ H4 ⟨s4, kvs, v4, v5, v6, h4, hl4, hk4, rfl⟩
   rw [List.length_map, htl, List.take_length] at hk4
   walk_at "gs"
   exact q d kvs H4 ⟨hd0, h4, s4⟩ hk4
def sp_need_ties (K : PySem.W.Frag) : Sp := fun vs H Q _ => ∃ (tp d : Addr) (ties : List Int) (kvs : List (Key × V)) (m : Nat) (ps : List Pc), vs = [.ref tp, .ref d] ∧ SqL K H tp (ties.map V.int) ∧ H d = some (.dK kvs) ∧ (∀ x : Int, (valV kvs (.inl x)).isSome = decide (x ∈ known m ps)) ∧ WT m ps ties ∧ Q .non H
def rd_need_ties (K : PySem.W.Frag) : TS := (tSeq (tIfS (cTst (tOp (cI2 fun i j => .bl (decide (i < j))) (tCB (cLen K) (tCons (cVar 0) tNil)) (tC (.int 1)))) tNo tNext)
  (tFor (iList K (cVar 0)) (gName 2) (tIfS (tOr (tNot (cTru K (tCall (sp_is_whole K) [] E0 (tCons (cVar 2) tNil)))) (tAnd (cTst (tOp (cNe K) (tOp (cI2c CDiv fun i j => .int (i / j)) (cVar 2) (tC (.int 2))) (tC (.int 0)))) (cTst (tDNotIn (tOp (cI2c CDiv fun i j => .int (i / j)) (cVar 2) (tC (.int 2))) (cVar 1))))) tNo tNext)))
theorem tm_need_ties (T : Txt K mg a) {cdv : Value} {A : Around} {outer : List Env} {s : Shared} {H : Hp} {E : XK} (hr : Room 1 (A.deeper (envOfC "need_ties" (defScope s_need_ties) s.heap.objs.size a.f_need_ties cdv))) :
  PSs (cxOf CX0 P w K mg base N_need_ties "need_ties" (defScope s_need_ties) a.f_need_ties cdv A outer s H E).nox (defBody s_need_ties) (rd_need_ties K) :=
 (pss_cons (ps_if (t_cmp o_lt (pe_callB c_len (by rfl) T.no_len PySem.boot_len (pa_cons (cv 0) pa_nil)) pe_int (nomark _)) (pss_one ps_no) pss_nil)
   (pss_one (ps_for PassesOwn.never rfl (pi_list (cv 0)) (pg_name (i := 2) sc_need_ties.nd rfl (by walk_at "o")) (pss_one (ps_if (PW.pt (pw_or (pt_not (pt_tru (pe_call (ok_is_whole T) (hr.mono (by decide)) rfl T.mg_is_whole T.fn_is_whole.kp T.bi_is_whole .nil pass0 (pa_cons (cv 2) pa_nil)))) (pw_or1 (PW.pt (pw_and (t_cmp (o_ne (hr8 hr)) (pe_op o_fdiv (cv 2) pe_int) pe_int (nomark _)) (pw_and1 (t_pc (pc_dnotin (hu_of hr) (pe_op o_fdiv (cv 2) pe_int) (cv 1))))))))) (pss_one ps_no) pss_nil)))))
theorem ok_need_ties (T : Txt K mg a) : FnOk P w K mg base CX0 2 a.f_need_ties a.d_need_ties ["ties", "lowers"] (sp_need_ties K) := by
 refine T.fn_need_ties.ok sc_need_ties (fun vs H Q E h => ?_) (fun cdv A outer s H vs Q E hr h => ⟨_, tm_need_ties T hr, ?_⟩)
 ·obtain ⟨tp, d, ties, kvs, m, ps, rfl, _⟩ := h; rfl
 ·obtain ⟨tp, d, ties, kvs, m, ps, rfl, hT, hd, hk, wt, q⟩ := h
  show rd_need_ties K _ [some (.ref tp), some (.ref d), none] H
  unfold rd_need_ties
  have w1 := wt.l1
  walk_at "gs"
  refine .inl ⟨_, .inl hT, ?_⟩
  rw [List.length_map, if_neg (show ¬ ((ties.length : Int) < 1) by omega)]
  walk_at "gs"
  refine ⟨⟨_, hT⟩, for_listG (xs := ties.map V.int) (fun i σ H2 => H2 = H ∧ ∃ v2, σ = [some (.ref tp), some (.ref d), v2]) ⟨rfl, _, rfl⟩ ?_ ?_ ?_⟩
  ·rintro i σ H2 _ ⟨rfl, _⟩
   exact hT
  ·rintro i v σ H2 hv ⟨rfl, v2, rfl⟩
   obtain ⟨t, ht, rfl⟩ := get_map_of hv
   have hw := wt.tie t (List.mem_of_getElem? ht)
   walk_at "gs"
   refine ⟨_, rfl, ?_⟩
   walk_at "gs"
   by_cases g : t / 2 = 0
   ·rw [if_neg (by simpa using g)]
    exact ⟨by trivial, _, rfl⟩
   ·rw [if_pos (by simpa using g)]
    walk_at "gs"
    refine ⟨d, _, rfl, DGet.k (k := .inl (t / 2)) hd, ?_⟩
    rw [hk, decide_eq_true (hw.2.resolve_left g)]
    walk_at "go"
    exact ⟨by trivial, _, rfl⟩
  ·rintro σ H2 ⟨rfl, v2, rfl⟩
   walk_at "gs"
   exact q
def BoardAt (C : Addr) (H : Hp) (x : Addr) (m : Nat) (ps : List Pc) (ties : List Int) : Prop :=
 ∃ (dx k tt : Addr) (ts : List (Addr × Addr)), H x = some (.ins C dx [("many", .int m), ("kept_pieces", .ref k), ("kept_ties", .ref tt)]) ∧ PTup H k ts ps ∧ H tt = some (.tup (ties.map V.int))
theorem BoardAt.nl {C : Addr} {H H' : Hp} {x : Addr} {m : Nat} {ps : List Pc} {ties : List Int} (h : BoardAt C H x m ps ties) (s : NL H H') : BoardAt C H' x m ps ties := by
 obtain ⟨dx, k, tt, ts, h1, h2, h3⟩ := h
 exact ⟨dx, k, tt, ts, s _ _ (fun _ z => nomatch z) h1, h2.nl s, s _ _ (fun _ z => nomatch z) h3⟩
theorem BoardAt.same {C : Addr} {H H' : Hp} {x : Addr} {m : Nat} {ps : List Pc} {ties : List Int} (h : BoardAt C H x m ps ties) (s : Same H H') : BoardAt C H' x m ps ties := h.nl (NL.of s)
def sp_Board___init__ (a : Adr) (K : PySem.W.Frag) : Sp := fun vs H Q _ => ∃ (x dx l tp : Addr) (m : Nat) (ts : List (Addr × Addr)) (ps : List Pc) (ties : List Int), vs = [.ref x, .int m, .ref l, .ref tp] ∧ H x = some (.ins a.c_Board dx []) ∧ PLst H l ts ps ∧ H tp = some (.lst (ties.map V.int)) ∧ WP m ps ∧ WT m ps ties ∧ 1 ≤ m ∧ m ≤ 10 ∧ ps.length ≤ 1000 ∧
 ∀ H', (∀ b o, b ≠ x → H b = some o → H' b = some o) → BoardAt a.c_Board H' x m ps ties → Q .non H'
def rd_Board___init__ (a : Adr) (K : PySem.W.Frag) : TS := (tSeq (tIfS (tNot (cTru K (tCall (sp_is_between K) [] E0 (tCons (cVar 1) (tCons (tC (.int 1)) (tCons (tC (gv_MOST_INPUTS a)) tNil)))))) tNo tNext)
  (tSeq (tDrop (tCall (sp_need_ties K) [] E0 (tCons (cVar 3) (tCons (tCall (sp_need_pieces K) [] E0 (tCons (cVar 1) (tCons (cVar 2) tNil))) tNil))))
  (tSeq (sFld K (cVar 0) (cVar 1) "many")
  (tSeq (sFld K (cVar 0) (tCB (cTuple K) (tCons (tComp (iList K (cVar 2)) 3 [] (gTup K 3 (gCons (gName 0) (gCons (gName 1) (gCons (gName 2) gNil)))) tTrue (tTup (tCons (cVar 0) (tCons (tCB (cTuple K) (tCons (cVar 1) tNil)) (tCons (cVar 2) tNil))))) tNil)) "kept_pieces")
  (sFld K (cVar 0) (tCB (cTuple K) (tCons (cVar 3) tNil)) "kept_ties")))))
theorem tm_Board___init__ (T : Txt K mg a) {cdv : Value} {A : Around} {outer : List Env} {s : Shared} {H : Hp} {E : XK} (hr : Room 3 (A.deeper (envOfC "Board.__init__" (defScope s_Board___init__) s.heap.objs.size a.f_Board___init__ cdv))) :
  PSs (cxOf CX0 P w K mg base N_Board___init__ "Board.__init__" (defScope s_Board___init__) a.f_Board___init__ cdv A outer s H E).nox (defBody s_Board___init__) (rd_Board___init__ a K) :=
 (pss_cons (ps_if (pt_not (pt_tru (pe_call (ok_is_between T) (hr.mono (by decide)) rfl T.mg_is_between T.fn_is_between.kp T.bi_is_between .nil pass0 (pa_cons (cv 1) (pa_cons pe_int (pa_cons (pe_globE rfl T.gx_MOST_INPUTS) pa_nil)))))) (pss_one ps_no) pss_nil)
   (pss_cons (ps_expr (pe_call (ok_need_ties T) (hr.mono (by decide)) rfl T.mg_need_ties T.fn_need_ties.kp T.bi_need_ties .nil pass0 (pa_cons (cv 3) (pa_cons (pe_call (ok_need_pieces T) (hr.mono (by decide)) rfl T.mg_need_pieces T.fn_need_pieces.kp T.bi_need_pieces .nil pass0 (pa_cons (cv 1) (pa_cons (cv 2) pa_nil))) pa_nil))))
   (pss_cons (ps_fld (cv 0) (cv 1) rfl)
   (pss_cons (ps_fld (cv 0) (pe_callTy c_tuple (by rfl) T.no_tuple PyProof.Rows.boot_tuple (pa_cons (pe_comp (N := ["knot", "cut", "table"]) (k := 3) (sel := []) (CScope.of (defScope s_Board___init__).names (by decide +kernel)) (CNames.of N_Board___init__ (by decide +kernel)) rfl (pi_list (cv 2)) (fun _ _ _ _ => (pg_tup rfl (pgs_cons (pg_name (i := 0) (show List.Nodup (["knot", "cut", "table"] : List Str) by decide +kernel) rfl (by walk_at "o")) (pgs_cons (pg_name (i := 1) (show List.Nodup (["knot", "cut", "table"] : List Str) by decide +kernel) rfl (by walk_at "o")) (pgs_cons (pg_name (i := 2) (show List.Nodup (["knot", "cut", "table"] : List Str) by decide +kernel) rfl (by walk_at "o")) pgs_nil))))) (fun _ _ _ _ => pts_nil) (fun _ _ _ _ => (pe_tup (pa_cons (cv 0) (pa_cons (pe_callTy c_tuple (by rfl) T.no_tuple PyProof.Rows.boot_tuple (pa_cons (cv 1) pa_nil)) (pa_cons (cv 2) pa_nil)))))) pa_nil)) rfl)
   (pss_one (ps_fld (cv 0) (pe_callTy c_tuple (by rfl) T.no_tuple PyProof.Rows.boot_tuple (pa_cons (cv 3) pa_nil)) rfl))))))
theorem ok_Board___init__ (T : Txt K mg a) : FnOk P w K mg base CX0 4 a.f_Board___init__ a.d_Board___init__ ["self", "many", "pieces", "ties"] (sp_Board___init__ a K) := by
 refine T.fn_Board___init__.ok sc_Board___init__ (fun vs H Q E h => ?_) (fun cdv A outer s H vs Q E hr h => ⟨_, tm_Board___init__ T hr, ?_⟩)
 ·obtain ⟨x, dx, l, tp, m, ts, ps, ties, rfl, _⟩ := h; rfl
 ·obtain ⟨x, dx, l, tp, m, ts, ps, ties, rfl, hx, hP, hT, wp, wt, m1, m10, hz, q⟩ := h
  show rd_Board___init__ a K _ [some (.ref x), some (.int m), some (.ref l), some (.ref tp)] H
  unfold rd_Board___init__ gv_MOST_INPUTS
  have big : (20000 : Nat) ≤ sizeLine := by decide
  have htl := hP.len
  walk_at "gs"
  refine ⟨_, _, _, rfl, ?_⟩
  rw [decide_eq_true (show (1 : Int) ≤ (m : Int) ∧ (m : Int) ≤ 10 by omega)]
  walk_at "gs"
  refine ⟨m, l, ts, ps, rfl, hP, wp, m10, hz, fun d kvs H1 md hk => ?_⟩
  obtain ⟨_, hd1, s1⟩ := md
  refine ⟨tp, d, ties, kvs, m, ps, rfl, .of (s1 _ _ hT), hd1, hk, wt, ?_⟩
  walk_at "gs"
  refine ⟨x, a.c_Board, dx, [], rfl, s1 _ _ hx, T.cl_Board, T.na_Board_many, by decide, ?_⟩
  walk_at "gs"
  have hx2 : upd H1 x (.ins a.c_Board dx (putF "many" (.int m) [])) x = some (.ins a.c_Board dx (putF "many" (.int m) [])) := upd_same
  have s2 : ∀ b o, b ≠ x → H b = some o → upd H1 x (.ins a.c_Board dx (putF "many" (.int m) [])) b = some o := fun b o n e => by rw [upd_ne n]; exact s1 _ _ e
  generalize upd H1 x (.ins a.c_Board dx (putF "many" (.int m) [])) = H2 at hx2 s2 ⊢
  have hl2 : PLst H2 l ts ps := ⟨s2 _ _ (ne_of hP.lst hx (fun z => nomatch z)) hP.lst, hP.len, fun i t p ht hp => ⟨s2 _ _ (ne_of (hP.at_ i t p ht hp).1 hx (fun z => nomatch z)) (hP.at_ i t p ht hp).1, s2 _ _ (ne_of (hP.at_ i t p ht hp).2 hx (fun z => nomatch z)) (hP.at_ i t p ht hp).2⟩⟩
  refine ⟨⟨_, .of hl2.lst⟩, fun cp hcp => comp_gen (n := (ts.map fun t => V.ref t.1).length) (item := fun i => (ts.map fun t => V.ref t.1).getD i .non) (fun σ => ∃ v0 v1 v2, σ = [v0, v1, v2]) (fun i H3 => Same H2 H3 ∧ ∃ us : List (Addr × Addr), H3 cp = some (.lst (us.map fun t => V.ref t.1)) ∧ us.length = i ∧ ∀ (j : Nat) t p, us[j]? = some t → ps[j]? = some p → H3 t.1 = some (.tup [.int p.1, .ref t.2, .int p.2.2]) ∧ H3 t.2 = some (.tup (p.2.1.map V.int))) ⟨_, _, _, rfl⟩ ⟨same_upd hcp, [], upd_same, rfl, fun j t p ht => by simp at ht⟩ (src_list (xs := ts.map fun t => V.ref t.1) ?_) ?_ ?_ ?_⟩
  ·rintro i H3 _ ⟨s3, _⟩
   exact .of (s3 _ _ hl2.lst)
  ·rintro H3 ⟨s3, _⟩
   exact ⟨_, .of (s3 _ _ hl2.lst), Nat.le_refl _⟩
  ·rintro i σ3 H3 R hi ⟨v0, v1, v2, rfl⟩ ⟨s3, us, h3, hul, hus⟩ hR
   have hit : i < ts.length := by rwa [List.length_map] at hi
   obtain ⟨p, hp, hpt, hpc⟩ := (hl2.same s3).get hit
   rw [ref_at ts hit]
   generalize (ts[i]).1 = t1 at *
   generalize (ts[i]).2 = t2 at *
   walk_at "gs"
   refine ⟨t1, _, rfl, .of hpt, rfl, _, _, rfl, _, _, rfl, _, _, rfl, rfl, ?_⟩
   walk_at "gs"
   refine ⟨_, .inl ⟨.of hpc, fun c4 H4 n4 => ?_⟩⟩
   refine ⟨by show 3 ≤ sizeLine; decide, fun t5 H5 n5 => ?_⟩
   have s35 := n4.same.trans n5.same
   have h5 := s35 _ _ h3
   have ntp : t5 ≠ cp := (ne_of_none (n4.same _ _ h3) n5.was).symm
   have ncp : c4 ≠ cp := (ne_of_none h3 n4.was).symm
   refine ⟨_, h5, by rw [List.length_map]; omega, hR _ _ ⟨_, _, _, rfl⟩ ⟨(s3.trans s35).put hcp, us ++ [(t5, c4)], by rw [upd_same, List.map_append]; rfl, by rw [List.length_append, hul]; rfl, fun j t p' ht hp' => ?_⟩⟩
   by_cases hji : j < i
   ·rw [List.getElem?_append_left (by omega)] at ht
    obtain ⟨g1, g2⟩ := hus j t p' ht hp'
    exact ⟨by rw [upd_ne (ne_of g1 h3 (fun z => nomatch z))]; exact s35 _ _ g1, by rw [upd_ne (ne_of g2 h3 (fun z => nomatch z))]; exact s35 _ _ g2⟩
   ·have hjl : j < us.length + 1 := by have := (List.getElem?_eq_some_iff.mp ht).1; rwa [List.length_append] at this
    have hj : j = i := by omega
    subst hj
    rw [← hul, List.getElem?_append_right (Nat.le_refl _), Nat.sub_self] at ht
    have et : (t5, c4) = t := by simpa using ht
    subst et
    rw [hp] at hp'
    cases hp'
    exact ⟨by rw [upd_ne ntp]; exact n5.at_, by rw [upd_ne ncp]; exact n5.same _ _ n4.at_⟩
  rintro H3 ⟨s3, us, h3, hul, hus⟩
  rw [List.length_map] at hul
  walk_at "gs"
  refine ⟨_, .inl ⟨.of h3, fun kp H4 n4 => ?_⟩⟩
  have s24 := s3.trans n4.same
  refine ⟨x, a.c_Board, dx, _, rfl, s24 _ _ hx2, T.cl_Board, T.na_Board_kept_pieces, by have := length_putF "many" (.int (m : Int)) []; simp only [List.length_nil] at this; omega, ?_⟩
  walk_at "gs"
  have hne : ∀ {b : Addr} {o : HO}, H4 b = some o → (∀ C d f, o ≠ .ins C d f) → b ≠ x := fun {b o} e n z => by
   subst z
   rw [s24 _ _ hx2] at e
   cases e
   exact n _ _ _ rfl
  have hx5 : upd H4 x (.ins a.c_Board dx (putF "kept_pieces" (.ref kp) (putF "many" (.int m) []))) x = some (.ins a.c_Board dx (putF "kept_pieces" (.ref kp) (putF "many" (.int m) []))) := upd_same
  have u5 : ∀ b o, b ≠ x → H4 b = some o → upd H4 x (.ins a.c_Board dx (putF "kept_pieces" (.ref kp) (putF "many" (.int m) []))) b = some o := fun b o n e => by rw [upd_ne n]; exact e
  generalize upd H4 x (.ins a.c_Board dx (putF "kept_pieces" (.ref kp) (putF "many" (.int m) []))) = H5 at hx5 u5 ⊢
  have hT4 : H4 tp = some (.lst (ties.map V.int)) := s24 _ _ (s2 _ _ (ne_of hT hx (fun z => nomatch z)) hT)
  have hT5 := u5 _ _ (hne hT4 (fun _ _ _ z => nomatch z)) hT4
  refine ⟨_, .inl ⟨.of hT5, fun tt H6 n6 => ?_⟩⟩
  refine ⟨x, a.c_Board, dx, _, rfl, n6.same _ _ hx5, T.cl_Board, T.na_Board_kept_ties, by have h7 := length_putF "many" (.int (m : Int)) []; have h8 := length_putF "kept_pieces" (.ref kp) (putF "many" (.int (m : Int)) []); simp only [List.length_nil] at h7; omega, ?_⟩
  have e1 : putF "kept_ties" (.ref tt) (putF "kept_pieces" (.ref kp) (putF "many" (.int (m : Int)) [])) = ([("many", V.int m), ("kept_pieces", V.ref kp), ("kept_ties", V.ref tt)] : List (Str × V)) := by
   have z1 : ¬ ("many" : Str) = "kept_pieces" := by decide +kernel
   have z2 : ¬ ("many" : Str) = "kept_ties" := by decide +kernel
   have z3 : ¬ ("kept_pieces" : Str) = "kept_ties" := by decide +kernel
   simp [putF, z1, z2, z3]
  have hx6 := n6.same _ _ hx5
  have ntx : tt ≠ x := (ne_of_none hx5 n6.was).symm
  have up : ∀ b o, b ≠ x → H4 b = some o → upd H6 x (.ins a.c_Board dx (putF "kept_ties" (.ref tt) (putF "kept_pieces" (.ref kp) (putF "many" (.int (m : Int)) [])))) b = some o := fun b o n e => by rw [upd_ne n]; exact n6.same _ _ (u5 _ _ n e)
  refine q _ (fun b o n e => up _ _ n (s24 _ _ (s2 _ _ n e))) ⟨dx, kp, tt, us, by rw [upd_same, e1], ⟨up _ _ (hne n4.at_ (fun _ _ _ z => nomatch z)) n4.at_, by omega, fun j t p ht hp => ?_⟩, by rw [upd_ne ntx]; exact n6.at_⟩
  obtain ⟨g1, g2⟩ := hus j t p ht hp
  have g1' := n4.same _ _ g1
  have g2' := n4.same _ _ g2
  exact ⟨up _ _ (hne g1' (fun _ _ _ z => nomatch z)) g1', up _ _ (hne g2' (fun _ _ _ z => nomatch z)) g2'⟩
def sp_Board_pieces (a : Adr) (_ : PySem.W.Frag) : Sp := fun vs H Q _ => ∃ (x : Addr) (m : Nat) (ps : List Pc) (ties : List Int), vs = [.ref x] ∧ BoardAt a.c_Board H x m ps ties ∧ ps.length ≤ 1000 ∧
 ∀ l us H', H l = none → Same H H' → PLst H' l us ps → (∀ t ∈ us, H t.1 = none ∧ H t.2 = none ∧ t.2 ≠ l) → Q (.ref l) H'
def rd_Board_pieces (K : PySem.W.Frag) : TS := (tRet (tComp (iTup K (tFld K (cVar 0) "kept_pieces")) 3 [] (gTup K 3 (gCons (gName 0) (gCons (gName 1) (gCons (gName 2) gNil)))) tTrue (tTup (tCons (cVar 0) (tCons (tCB (cList K) (tCons (cVar 1) tNil)) (tCons (cVar 2) tNil))))))
theorem tm_Board_pieces (T : Txt K mg a) {cdv : Value} {A : Around} {outer : List Env} {s : Shared} {H : Hp} {E : XK} (hr : Room 0 (A.deeper (envOfC "Board.pieces" (defScope s_Board_pieces) s.heap.objs.size a.f_Board_pieces cdv))) :
  PSs (cxOf CX0 P w K mg base N_Board_pieces "Board.pieces" (defScope s_Board_pieces) a.f_Board_pieces cdv A outer s H E).nox (defBody s_Board_pieces) (rd_Board_pieces K) :=
 (pss_one (ps_ret (pe_comp (N := ["knot", "cut", "table"]) (k := 3) (sel := []) (CScope.of (defScope s_Board_pieces).names (by decide +kernel)) (CNames.of N_Board_pieces (by decide +kernel)) rfl (pi_tup (pe_fld (cv 0) rfl)) (fun _ _ _ _ => (pg_tup rfl (pgs_cons (pg_name (i := 0) (show List.Nodup (["knot", "cut", "table"] : List Str) by decide +kernel) rfl (by walk_at "o")) (pgs_cons (pg_name (i := 1) (show List.Nodup (["knot", "cut", "table"] : List Str) by decide +kernel) rfl (by walk_at "o")) (pgs_cons (pg_name (i := 2) (show List.Nodup (["knot", "cut", "table"] : List Str) by decide +kernel) rfl (by walk_at "o")) pgs_nil))))) (fun _ _ _ _ => pts_nil) (fun _ _ _ _ => (pe_tup (pa_cons (cv 0) (pa_cons (pe_callTy c_list (by rfl) T.no_list PyProof.Rows.boot_list (pa_cons (cv 1) pa_nil)) (pa_cons (cv 2) pa_nil))))))))
theorem ok_Board_pieces (T : Txt K mg a) : FnOk P w K mg base CX0 1 a.f_Board_pieces a.d_Board_pieces ["self"] (sp_Board_pieces a K) := by
 refine T.fn_Board_pieces.ok sc_Board_pieces (fun vs H Q E h => ?_) (fun cdv A outer s H vs Q E hr h => ⟨_, tm_Board_pieces T hr, ?_⟩)
 ·obtain ⟨x, m, ps, ties, rfl, _⟩ := h; rfl
 ·obtain ⟨x, m, ps, ties, rfl, hB, hz, q⟩ := h
  show rd_Board_pieces K _ [some (.ref x)] H
  unfold rd_Board_pieces
  have big : (20000 : Nat) ≤ sizeLine := by decide
  obtain ⟨dx, k, tt, ts, hx, hP, hT⟩ := hB
  have htl := hP.len
  walk_at "gs"
  refine ⟨x, a.c_Board, dx, _, _, rfl, hx, T.cl_Board, T.na_Board_kept_pieces, rfl, ?_⟩
  walk_at "gs"
  refine ⟨⟨_, .of hP.tup⟩, fun cp hcp => comp_gen (n := (ts.map fun t => V.ref t.1).length) (item := fun i => (ts.map fun t => V.ref t.1).getD i .non) (fun σ => ∃ v0 v1 v2, σ = [v0, v1, v2]) (fun i H3 => Same H H3 ∧ ∃ us : List (Addr × Addr), H3 cp = some (.lst (us.map fun t => V.ref t.1)) ∧ us.length = i ∧ (∀ t ∈ us, H t.1 = none ∧ H t.2 = none ∧ t.2 ≠ cp) ∧ ∀ (j : Nat) t p, us[j]? = some t → ps[j]? = some p → H3 t.1 = some (.tup [.int p.1, .ref t.2, .int p.2.2]) ∧ H3 t.2 = some (.lst (p.2.1.map V.int))) ⟨_, _, _, rfl⟩ ⟨same_upd hcp, [], upd_same, rfl, fun t ht => by simp at ht, fun j t p ht => by simp at ht⟩ (src_tup (xs := ts.map fun t => V.ref t.1) ?_) ?_ ?_ ?_⟩
  ·rintro i H3 _ ⟨s3, _⟩
   exact .of (s3 _ _ hP.tup)
  ·rintro H3 ⟨s3, _⟩
   exact ⟨_, .of (s3 _ _ hP.tup), Nat.le_refl _⟩
  ·rintro i σ3 H3 R hi ⟨v0, v1, v2, rfl⟩ ⟨s3, us, h3, hul, hun, hus⟩ hR
   have hit : i < ts.length := by rwa [List.length_map] at hi
   obtain ⟨p, hp, hpt, hpc⟩ := (hP.nl (NL.of s3)).get hit
   rw [ref_at ts hit]
   generalize (ts[i]).1 = t1 at *
   generalize (ts[i]).2 = t2 at *
   walk_at "gs"
   refine ⟨t1, _, rfl, .of hpt, rfl, _, _, rfl, _, _, rfl, _, _, rfl, rfl, ?_⟩
   walk_at "gs"
   refine ⟨_, .inr (.of hpc), fun c4 H4 n4 => ?_⟩
   refine ⟨by show 3 ≤ sizeLine; decide, fun t5 H5 n5 => ?_⟩
   have s35 := n4.same.trans n5.same
   have h5 := s35 _ _ h3
   have ntp : t5 ≠ cp := (ne_of_none (n4.same _ _ h3) n5.was).symm
   have ncp : c4 ≠ cp := (ne_of_none h3 n4.was).symm
   refine ⟨_, h5, by rw [List.length_map]; omega, hR _ _ ⟨_, _, _, rfl⟩ ⟨(s3.trans s35).put hcp, us ++ [(t5, c4)], by rw [upd_same, List.map_append]; rfl, by rw [List.length_append, hul]; rfl, fun t ht => ?_, fun j t p' ht hp' => ?_⟩⟩
   ·rcases List.mem_append.mp ht with z | z
    ·exact hun t z
    ·rw [List.mem_singleton] at z
     subst z
     exact ⟨(s3.trans n4.same).nil n5.was, s3.nil n4.was, ncp⟩
   by_cases hji : j < i
   ·rw [List.getElem?_append_left (by omega)] at ht
    obtain ⟨g1, g2⟩ := hus j t p' ht hp'
    exact ⟨by rw [upd_ne (ne_of g1 h3 (fun z => nomatch z))]; exact s35 _ _ g1, by rw [upd_ne (hun t (List.mem_of_getElem? ht)).2.2]; exact s35 _ _ g2⟩
   ·have hjl : j < us.length + 1 := by have := (List.getElem?_eq_some_iff.mp ht).1; rwa [List.length_append] at this
    have hj : j = i := by omega
    subst hj
    rw [← hul, List.getElem?_append_right (Nat.le_refl _), Nat.sub_self] at ht
    have et : (t5, c4) = t := by simpa using ht
    subst et
    rw [hp] at hp'
    cases hp'
    exact ⟨by rw [upd_ne ntp]; exact n5.at_, by rw [upd_ne ncp]; exact n5.same _ _ n4.at_⟩
  rintro H3 ⟨s3, us, h3, hul, hun, hus⟩
  rw [List.length_map] at hul
  exact q cp us H3 hcp s3 ⟨h3, by omega, hus⟩ hun
def sp_Board_ties (a : Adr) (_ : PySem.W.Frag) : Sp := fun vs H Q _ => ∃ (x : Addr) (m : Nat) (ps : List Pc) (ties : List Int), vs = [.ref x] ∧ BoardAt a.c_Board H x m ps ties ∧ ∀ l H', New H l (.lst (ties.map V.int)) H' → Q (.ref l) H'
def rd_Board_ties (K : PySem.W.Frag) : TS := (tRet (tCB (cList K) (tCons (tFld K (cVar 0) "kept_ties") tNil)))
theorem tm_Board_ties (T : Txt K mg a) {cdv : Value} {A : Around} {outer : List Env} {s : Shared} {H : Hp} {E : XK} (hr : Room 0 (A.deeper (envOfC "Board.ties" (defScope s_Board_ties) s.heap.objs.size a.f_Board_ties cdv))) :
  PSs (cxOf CX0 P w K mg base N_Board_ties "Board.ties" (defScope s_Board_ties) a.f_Board_ties cdv A outer s H E).nox (defBody s_Board_ties) (rd_Board_ties K) :=
 (pss_one (ps_ret (pe_callTy c_list (by rfl) T.no_list PyProof.Rows.boot_list (pa_cons (pe_fld (cv 0) rfl) pa_nil))))
theorem ok_Board_ties (T : Txt K mg a) : FnOk P w K mg base CX0 1 a.f_Board_ties a.d_Board_ties ["self"] (sp_Board_ties a K) := by
 refine T.fn_Board_ties.ok sc_Board_ties (fun vs H Q E h => ?_) (fun cdv A outer s H vs Q E hr h => ⟨_, tm_Board_ties T hr, ?_⟩)
 ·obtain ⟨x, m, ps, ties, rfl, _⟩ := h; rfl
 ·obtain ⟨x, m, ps, ties, rfl, hB, q⟩ := h
  show rd_Board_ties K _ [some (.ref x)] H
  unfold rd_Board_ties
  obtain ⟨dx, k, tt, ts, hx, hP, hT⟩ := hB
  walk_at "gs"
  refine ⟨x, a.c_Board, dx, _, _, rfl, hx, T.cl_Board, T.na_Board_kept_ties, rfl, ?_⟩
  walk_at "gs"
  exact ⟨_, .inr (.of hT), fun l H' n => q l H' n⟩
theorem mk_Board {a : Adr} {K : PySem.W.Frag} {H : Hp} {m : Nat} {l tp : Addr} {ts : List (Addr × Addr)} {ps : List Pc} {ties : List Int} {F : Addr → Hp → Prop} {E : XK} (hP : PLst H l ts ps) (hT : H tp = some (.lst (ties.map V.int))) (wp : WP m ps) (wt : WT m ps ties) (m1 : 1 ≤ m) (m10 : m ≤ 10) (hz : ps.length ≤ 1000)
  (q : ∀ x H', Same H H' → BoardAt a.c_Board H' x m ps ties → F x H') :
  ∀ x dx, H x = none → H dx = none → dx ≠ x → sp_Board___init__ a K [.ref x, .int m, .ref l, .ref tp] (upd (upd H dx (.own x)) x (.ins a.c_Board dx [])) (fun v H2 => v = .non ∧ F x H2) E := by
 intro x dx hx hd hne
 have s0 : Same H (upd (upd H dx (.own x)) x (.ins a.c_Board dx [])) := fun b o e => by
  rw [upd_ne (ne_of_none e hx), upd_ne (ne_of_none e hd)]
  exact e
 refine ⟨x, dx, l, tp, m, ts, ps, ties, rfl, upd_same, hP.same s0, s0 _ _ hT, wp, wt, m1, m10, hz, fun H' st hB => ⟨rfl, q x H' (fun b o e => ?_) hB⟩⟩
 exact st b o (ne_of_none e hx) (s0 _ _ e)
theorem app_assoc (a b c : Str) : a ++ b ++ c = a ++ (b ++ c) := ext_cps (by rw [cps_app, cps_app, cps_app, cps_app, List.append_assoc])
def jn (xs : List Str) : Str := Str.join " " xs
def jf (z x : Str) (xs : List Str) : Str := xs.foldl (fun a y => a ++ z ++ y) x
theorem jf_app (z a : Str) : ∀ (xs : List Str) (b : Str), jf z (a ++ b) xs = a ++ jf z b xs
 | [], _ => rfl
 | y :: r, b => by
  show jf z (a ++ b ++ z ++ y) r = a ++ jf z (b ++ z ++ y) r
  rw [← jf_app z a r (b ++ z ++ y), app_assoc, app_assoc, ← app_assoc b]
theorem join_cons (z : Str) : ∀ (xs : List Str) (x : Str), Str.join z (x :: xs) = jf z x xs
 | [], _ => rfl
 | y :: r, x => by
  show x ++ z ++ Str.join z (y :: r) = jf z (x ++ z ++ y) r
  rw [join_cons z r y, jf_app]
theorem nil_app (x : Str) : ("" : Str) ++ x = x := ext_cps (by rw [cps_app]; rfl)
theorem app_nil (x : Str) : x ++ ("" : Str) = x := ext_cps (by rw [cps_app]; exact List.append_nil _)
theorem joinE (L : List Str) : Str.join "" L = L.foldl (fun (a y : Str) => a ++ y) ("" : Str) := by
 have key : ∀ (L : List Str) (x : Str), jf "" x L = L.foldl (fun a y => a ++ y) x := by
  intro L
  induction L with
  | nil => intro x; rfl
  | cons y r ih =>
   intro x
   show jf "" (x ++ "" ++ y) r = r.foldl (fun a y => a ++ y) (x ++ y)
   rw [app_nil, ih]
 cases L with
 | nil => rfl
 | cons x r =>
  rw [join_cons, key]
  show _ = r.foldl (fun (a y : Str) => a ++ y) (("" : Str) ++ x)
  rw [nil_app]
def sN (i : Int) : Str := toString i
theorem sN_len0 : ∀ n : Fin 1001, (sN ((n : Nat) : Int)).length ≤ 4 := by decide +kernel
theorem sN_len {i : Int} (h0 : 0 ≤ i) (h1 : i ≤ 1000) : (sN i).length ≤ 4 := by
 have := sN_len0 ⟨i.toNat, by omega⟩
 rwa [show ((i.toNat : Nat) : Int) = i by omega] at this
theorem log_small {i : Int} (h0 : 0 ≤ i) (h1 : i ≤ 5000) : i.natAbs.log2 < 1920 := by
 have h : i.natAbs < 2 ^ 13 := by omega
 have : i.natAbs.log2 < 13 ∨ i.natAbs = 0 := by
  by_cases e : i.natAbs = 0
  ·exact .inr e
  ·exact .inl ((Nat.log2_lt e).mpr h)
 rcases this with z | z
 ·omega
 ·rw [z]; decide
theorem wt_ok {xs : List Str} {k : Nat} (h : ∀ y ∈ xs, y.length ≤ k) (hl : xs.length ≤ 200) (hk : k ≤ 1000) : (xs.map (·.length)).sum + xs.length ≤ 1048576 := by
 have key : ∀ ys : List Str, (∀ y ∈ ys, y.length ≤ k) → (ys.map (·.length)).sum ≤ k * ys.length := by
  intro ys
  induction ys with
  | nil => intro _; simp
  | cons y r ih =>
   intro h
   have h1 := ih fun z hz => h z (List.mem_cons_of_mem _ hz)
   have h2 := h y (List.mem_cons_self ..)
   simp only [List.map_cons, List.sum_cons, List.length_cons]
   rw [Nat.mul_succ]
   omega
 have := key xs h
 have h2 : k * xs.length ≤ 1000 * 200 := Nat.mul_le_mul hk hl
 omega
theorem fold_len {k : Nat} : ∀ (xs : List Str) (x : Str), (∀ y ∈ xs, y.length ≤ k) → (xs.foldl (fun a y => a ++ y) x).length ≤ x.length + k * xs.length
 | [], x, _ => by simp
 | y :: r, x, h => by
  have ih := fold_len r (x ++ y) fun z hz => h z (List.mem_cons_of_mem _ hz)
  have hy := h y (List.mem_cons_self ..)
  show (r.foldl (fun a y => a ++ y) (x ++ y)).length ≤ _
  rw [PySem.Str.length_append] at ih
  simp only [List.length_cons]
  rw [Nat.mul_succ]
  omega
theorem jf_len {k : Nat} : ∀ (xs : List Str) (x : Str), (∀ y ∈ xs, y.length ≤ k) → (jf " " x xs).length ≤ x.length + (k + 1) * xs.length
 | [], x, _ => by simp [jf]
 | y :: r, x, h => by
  have ih := jf_len r (x ++ " " ++ y) fun z hz => h z (List.mem_cons_of_mem _ hz)
  have hy := h y (List.mem_cons_self ..)
  have hb : Str.length " " = 1 := by decide +kernel
  show (jf " " (x ++ " " ++ y) r).length ≤ _
  rw [PySem.Str.length_append, PySem.Str.length_append] at ih
  simp only [List.length_cons]
  rw [Nat.mul_succ]
  omega
def bitN (t : Int) (k : Nat) : Int := ((t.toNat / 2 ^ k % 2 : Nat) : Int)
def tabL (t : Int) (n : Nat) : List Str := (List.range n).map fun k => sN (bitN t k)
def tabS (t : Int) (n : Nat) : Str := Str.join "" (tabL t (2 ^ n))
def tieS (t : Int) : Str := (if t % 2 = 1 then ("-" : Str) else "") ++ sN (t / 2)
def lineP (p : Pc) : Str := jn (sN p.1 :: "of" :: (p.2.1.map sN ++ [("is" : Str), tabS p.2.2 p.2.1.length]))
def linesB (m : Nat) (ps : List Pc) (ties : List Int) : List Str := jn ["board", sN m] :: (ps.map lineP ++ [jn ("out" :: ties.map tieS)])
theorem bit01 (t : Int) (k : Nat) : 0 ≤ bitN t k ∧ bitN t k ≤ 1 := by unfold bitN; omega
theorem tabL_len (t : Int) (n : Nat) : (tabL t n).length = n := by unfold tabL; rw [List.length_map, List.length_range]
theorem tabL_b (t : Int) (n : Nat) : ∀ y ∈ tabL t n, y.length ≤ 4 := by
 intro y hy
 unfold tabL at hy
 obtain ⟨k, _, rfl⟩ := List.mem_map.mp hy
 have := bit01 t k
 exact sN_len (by omega) (by omega)
theorem tabS_len (t : Int) {n : Nat} (h : n ≤ 6) : (tabS t n).length ≤ 256 := by
 unfold tabS
 rw [joinE]
 have := fold_len (tabL t (2 ^ n)) "" (tabL_b t (2 ^ n))
 rw [tabL_len] at this
 have h2 : (2 : Nat) ^ n ≤ 2 ^ 6 := Nat.pow_le_pow_right (by decide) h
 have h3 : Str.length "" = 0 := by decide +kernel
 omega
theorem tieS_len {t : Int} (h0 : 0 ≤ t) (h1 : t / 2 ≤ 1000) : (tieS t).length ≤ 5 := by
 unfold tieS
 rw [PySem.Str.length_append]
 have := sN_len (i := t / 2) (by omega) h1
 have e1 : Str.length "-" = 1 := by decide +kernel
 have e2 : Str.length "" = 0 := by decide +kernel
 split <;> omega
theorem WP.top {m : Nat} {ps : List Pc} (w : WP m ps) : ∀ i, i ≤ ps.length → (m : Int) ≤ topK m (ps.take i)
 | 0, _ => by rw [List.take_zero]; exact Int.le_refl _
 | i + 1, h => by
  have hp : ps[i]? = some ps[i] := List.getElem?_eq_getElem h
  rw [take_snoc hp, top_snoc]
  have := WP.top w i (by omega)
  have := (w i _ hp).up
  omega
theorem WP.kb {m : Nat} {ps : List Pc} (w : WP m ps) {i : Nat} {p : Pc} (hp : ps[i]? = some p) : (m : Int) < p.1 ∧ p.1 ≤ 999 := by
 have hi := (List.getElem?_eq_some_iff.mp hp).1
 have := w.top i (by omega)
 have a := (w i p hp).up
 have b := (w i p hp).hi
 omega
theorem WP.known {m : Nat} {ps : List Pc} (w : WP m ps) (m10 : m ≤ 10) {i : Nat} {x : Int} (hx : x ∈ known m (ps.take i)) : 1 ≤ x ∧ x ≤ 999 := by
 unfold K38.known at hx
 rcases List.mem_append.mp hx with z | z
 ·obtain ⟨k, hk, rfl⟩ := List.mem_map.mp z
  have := List.mem_range.mp hk
  omega
 ·obtain ⟨p, hp, rfl⟩ := List.mem_map.mp z
  obtain ⟨j, hj⟩ := List.mem_iff_getElem?.mp (List.mem_of_mem_take hp)
  have := w.kb hj
  omega
theorem WT.half {m : Nat} {ps : List Pc} {ties : List Int} (wt : WT m ps ties) (w : WP m ps) (m10 : m ≤ 10) {t : Int} (ht : t ∈ ties) : 0 ≤ t ∧ t / 2 ≤ 999 := by
 obtain ⟨h0, h1⟩ := wt.tie t ht
 refine ⟨h0, ?_⟩
 rcases h1 with z | z
 ·omega
 ·have := w.known m10 (i := ps.length) (x := t / 2) (by rw [List.take_length]; exact z)
  omega
theorem shrB (c e : Nat) : Builtin.bitAnd ((c : Int) / 2 ^ ((e : Int)).toNat) 1 = ((c / 2 ^ e % 2 : Nat) : Int) := by
 rw [Int.toNat_natCast]
 have h : ((c : Int) / 2 ^ e) = ((c / 2 ^ e : Nat) : Int) := by simp
 rw [h, show (1 : Int) = ((1 : Nat) : Int) from rfl, and_nat, Nat.and_one_is_mod]
def sp_table_text (_ : PySem.W.Frag) : Sp := fun vs H Q _ => ∃ (t : Int) (n : Nat), vs = [.int t, .int n] ∧ 0 ≤ t ∧ n ≤ 6 ∧ ∀ H', Same H H' → Q (.str (tabS t n)) H'
def rd_table_text (K : PySem.W.Frag) : TS := (tRet (tBM K "str" (rJoin K) (tC (.str "")) (tCons (tComp (iRng1 (tCons (tOp (cI2c CPow fun i j => .int (i * 2 ^ j.toNat)) (tC (.int 1)) (cVar 1)) tNil)) 1 [0] (gName 0) tTrue (tCB cStr (tCons (tOp (cI2 fun i j => .int (Builtin.bitAnd i j)) (tOp (cI2c (fun _ j => 0 ≤ j) fun i j => .int (i / 2 ^ j.toNat)) (cVar 1) (cVar 0)) (tC (.int 1))) tNil))) tNil)))
theorem tm_table_text (T : Txt K mg a) {cdv : Value} {A : Around} {outer : List Env} {s : Shared} {H : Hp} {E : XK} (hr : Room 0 (A.deeper (envOfC "table_text" (defScope s_table_text) s.heap.objs.size a.f_table_text cdv))) :
  PSs (cxOf CX0 P w K mg base N_table_text "table_text" (defScope s_table_text) a.f_table_text cdv A outer s H E).nox (defBody s_table_text) (rd_table_text K) :=
 (pss_one (ps_ret (pe_bm PySem.F.plainAttrs_str PySem.F.slot_str_join PySem.F.type_str_join mt_join pe_str (pa_cons (pe_comp (N := ["place", "table"]) (k := 1) (sel := [0]) (CScope.of (defScope s_table_text).names (by decide +kernel)) (CNames.of N_table_text (by decide +kernel)) rfl (pi_range1 rfl T.no_range (pa_cons (pe_op o_shl pe_int (cv 1)) pa_nil)) (fun _ _ _ _ => (pg_name (i := 0) (show List.Nodup (["place", "table"] : List Str) by decide +kernel) rfl (by walk_at "o"))) (fun _ _ _ _ => pts_nil) (fun _ _ _ _ => (pe_callTy c_str (by rfl) T.no_str PyProof.Rows.boot_str (pa_cons (pe_op o_and (pe_op o_shr (cv 1) (cv 0)) pe_int) pa_nil)))) pa_nil))))
theorem ok_table_text (T : Txt K mg a) : FnOk P w K mg base CX0 1 a.f_table_text a.d_table_text ["table", "count"] (sp_table_text K) := by
 refine T.fn_table_text.ok sc_table_text (fun vs H Q E h => ?_) (fun cdv A outer s H vs Q E hr h => ⟨_, tm_table_text T hr, ?_⟩)
 ·obtain ⟨t, n, rfl, _⟩ := h; rfl
 ·obtain ⟨t, n, rfl, t0, n6, q⟩ := h
  show rd_table_text K _ [some (.int t), some (.int n)] H
  unfold rd_table_text
  have big : (20000 : Nat) ≤ sizeLine := by decide
  have h2 : (2 : Nat) ^ n ≤ 2 ^ 6 := Nat.pow_le_pow_right (by decide) n6
  have h20 : 0 < (2 : Nat) ^ n := Nat.pow_pos (by decide)
  have ec : (1 * 2 ^ ((n : Int)).toNat : Int) = ((2 ^ n : Nat) : Int) := by simp
  obtain ⟨tn, rfl⟩ := Int.eq_ofNat_of_zero_le t0
  walk_at "gs"
  rw [ec]
  have b1 : -(2 ^ 62) ≤ ((2 ^ n : Nat) : Int) := by omega
  have b2 : ((2 ^ n : Nat) : Int) < 2 ^ 62 := by omega
  rw [Int.toNat_natCast]
  refine compG_rng (n := 2 ^ n) (fun i => V.str (sN (bitN tn i.toNat))) rfl (by omega) ?_ ?_
  ·intro i H' Q' hi s' q'
   rw [show (0 : Int) + (i : Int) = (i : Int) by omega] at q' ⊢
   have hb := bit01 (tn : Int) i
   walk_at "gs"
   rw [shrB]
   have e : ((tn / 2 ^ i % 2 : Nat) : Int) = bitN tn i := by unfold bitN; rw [Int.toNat_natCast]
   rw [e]
   exact ⟨log_small hb.1 (by omega), q'⟩
  intro lp H1 n1
  have e1 : ((List.range (2 ^ n)).map fun i => V.str (sN (bitN tn ((0 : Int) + ((i : Nat) : Int)).toNat))) = (tabL tn (2 ^ n)).map V.str := by
   unfold tabL
   rw [List.map_map]
   refine List.map_congr_left fun i _ => ?_
   rw [show ((0 : Int) + (i : Int)).toNat = i by omega]; rfl
  rw [e1] at n1
  walk_at "gs"
  refine ⟨_, n1.sq, wt_ok (tabL_b _ _) (by rw [tabL_len]; omega) (by omega), by decide +kernel, ?_⟩
  exact q H1 n1.same
def sp_tie_text (_ : PySem.W.Frag) : Sp := fun vs H Q _ => ∃ t : Int, vs = [.int t] ∧ 0 ≤ t ∧ t / 2 ≤ 999 ∧ Q (.str (tieS t)) H
def rd_tie_text (K : PySem.W.Frag) : TS := (tSeq (tAsg (tIf (cTst (tOp (cEq K) (tOp (cI2c (fun _ j => 0 < j) fun i j => .int (i % j)) (cVar 0) (tC (.int 2))) (tC (.int 1)))) (tC (.str "-")) (tC (.str ""))) (gName 1))
  (tRet (tOp cAdd (cVar 1) (tCB cStr (tCons (tOp (cI2c CDiv fun i j => .int (i / j)) (cVar 0) (tC (.int 2))) tNil)))))
theorem tm_tie_text (T : Txt K mg a) {cdv : Value} {A : Around} {outer : List Env} {s : Shared} {H : Hp} {E : XK} (hr : Room 0 (A.deeper (envOfC "tie_text" (defScope s_tie_text) s.heap.objs.size a.f_tie_text cdv))) :
  PSs (cxOf CX0 P w K mg base N_tie_text "tie_text" (defScope s_tie_text) a.f_tie_text cdv A outer s H E).nox (defBody s_tie_text) (rd_tie_text K) :=
 (pss_cons (ps_set (i := 1) sc_tie_text.nd rfl (by walk_at "o") (pe_ifExp (t_cmp (o_eq (hr8 hr)) (pe_op o_mod (cv 0) pe_int) pe_int (nomark _)) pe_str pe_str))
   (pss_one (ps_ret (pe_op o_add (cv 1) (pe_callTy c_str (by rfl) T.no_str PyProof.Rows.boot_str (pa_cons (pe_op o_fdiv (cv 0) pe_int) pa_nil))))))
theorem ok_tie_text (T : Txt K mg a) : FnOk P w K mg base CX0 1 a.f_tie_text a.d_tie_text ["tie"] (sp_tie_text K) := by
 refine T.fn_tie_text.ok sc_tie_text (fun vs H Q E h => ?_) (fun cdv A outer s H vs Q E hr h => ⟨_, tm_tie_text T hr, ?_⟩)
 ·obtain ⟨t, rfl, _⟩ := h; rfl
 ·obtain ⟨t, rfl, t0, th, q⟩ := h
  show rd_tie_text K _ [some (.int t), none] H
  unfold rd_tie_text
  have big : (20000 : Nat) ≤ sizeLine := by decide
  have hl := sN_len (i := t / 2) (by omega) (by omega)
  have hs := log_small (i := t / 2) (by omega) (by omega)
  have e1 : Str.length "-" = 1 := by decide +kernel
  have e2 : Str.length "" = 0 := by decide +kernel
  unfold tieS at q
  walk_at "gs"
  by_cases g : t % 2 = 1
  ·rw [if_pos g] at q ⊢
   walk_at "gs"
   refine ⟨?_, q⟩
   show Str.length "-" + (sN (t / 2)).length ≤ _
   omega
  ·rw [if_neg g] at q ⊢
   walk_at "gs"
   refine ⟨?_, q⟩
   show Str.length "" + (sN (t / 2)).length ≤ _
   omega
theorem nums_b {m : Nat} {ps : List Pc} (w : WP m ps) (m10 : m ≤ 10) {i : Nat} {p : Pc} (hp : ps[i]? = some p) : ∀ x ∈ p.2.1, 1 ≤ x ∧ x ≤ 999 := fun x hx => w.known m10 ((w i p hp).kn x hx)
theorem line_words {m : Nat} {ps : List Pc} (w : WP m ps) (m10 : m ≤ 10) {i : Nat} {p : Pc} (hp : ps[i]? = some p) : (∀ y ∈ sN p.1 :: "of" :: (p.2.1.map sN ++ [("is" : Str), tabS p.2.2 p.2.1.length]), y.length ≤ 256) ∧ (sN p.1 :: "of" :: (p.2.1.map sN ++ [("is" : Str), tabS p.2.2 p.2.1.length])).length ≤ 10 := by
 have hk := w.kb hp
 have hn := nums_b w m10 hp
 have wl := (w i p hp).l6
 have e1 : Str.length "of" = 2 := by decide +kernel
 have e2 : Str.length "is" = 2 := by decide +kernel
 constructor
 ·intro y hy
  rcases List.mem_cons.mp hy with rfl | hy
  ·have := sN_len (i := p.1) (by omega) (by omega)
   omega
  rcases List.mem_cons.mp hy with rfl | hy
  ·omega
  rcases List.mem_append.mp hy with hy | hy
  ·obtain ⟨x, hx, rfl⟩ := List.mem_map.mp hy
   have := hn x hx
   have := sN_len (i := x) (by omega) (by omega)
   omega
  rcases List.mem_cons.mp hy with rfl | hy
  ·omega
  ·rw [List.mem_singleton] at hy
   subst hy
   exact tabS_len _ wl
 ·simp only [List.length_cons, List.length_append, List.length_map, List.length_nil]
  omega
theorem out_words {m : Nat} {ps : List Pc} {ties : List Int} (wt : WT m ps ties) (w : WP m ps) (m10 : m ≤ 10) : (∀ y ∈ ties.map tieS, y.length ≤ 5) ∧ (∀ y ∈ ("out" : Str) :: ties.map tieS, y.length ≤ 5) := by
 have h1 : ∀ y ∈ ties.map tieS, y.length ≤ 5 := fun y hy => by
  obtain ⟨t, ht, rfl⟩ := List.mem_map.mp hy
  have := wt.half w m10 ht
  exact tieS_len this.1 (by omega)
 refine ⟨h1, fun y hy => ?_⟩
 rcases List.mem_cons.mp hy with rfl | hy
 ·have : Str.length "out" = 3 := by decide +kernel
  omega
 ·exact h1 y hy
def sp_board_lines (a : Adr) (_ : PySem.W.Frag) : Sp := fun vs H Q _ => ∃ (x : Addr) (m : Nat) (ps : List Pc) (ties : List Int), vs = [.ref x] ∧ BoardAt a.c_Board H x m ps ties ∧ WP m ps ∧ WT m ps ties ∧ m ≤ 10 ∧ ps.length ≤ 100 ∧ ∀ l H', Mad H l (.lst ((linesB m ps ties).map V.str)) H' → Q (.ref l) H'
def rd_board_lines (a : Adr) (K : PySem.W.Frag) : TS := (tSeq (tAsg (tLst (tCons (tBM K "str" (rJoin K) (tC (.str " ")) (tCons (tLst (tCons (tC (.str "board")) (tCons (tCB cStr (tCons (tFld K (cVar 0) "many") tNil)) tNil))) tNil)) tNil)) (gName 1))
  (tSeq (tFor (iList K (tMeth a.c_Board "pieces" (sp_Board_pieces a K) [] E0 (cVar 0) tNil)) (gTup K 3 (gCons (gName 2) (gCons (gName 3) (gCons (gName 4) gNil)))) (tSeq (tAsg (tComp (iList K (cVar 3)) 1 [] (gName 0) tTrue (tCB cStr (tCons (cVar 0) tNil))) (gName 5))
  (tDrop (tBM K "list" rAppend (cVar 1) (tCons (tBM K "str" (rJoin K) (tC (.str " ")) (tCons (tOp cAdd (tOp cAdd (tLst (tCons (tCB cStr (tCons (cVar 2) tNil)) (tCons (tC (.str "of")) tNil))) (cVar 5)) (tLst (tCons (tC (.str "is")) (tCons (tCall (sp_table_text K) [] E0 (tCons (cVar 4) (tCons (tCB (cLen K) (tCons (cVar 3) tNil)) tNil))) tNil)))) tNil)) tNil)))))
  (tSeq (tDrop (tBM K "list" rAppend (cVar 1) (tCons (tBM K "str" (rJoin K) (tC (.str " ")) (tCons (tOp cAdd (tLst (tCons (tC (.str "out")) tNil)) (tComp (iList K (tMeth a.c_Board "ties" (sp_Board_ties a K) [] E0 (cVar 0) tNil)) 1 [] (gName 0) tTrue (tCall (sp_tie_text K) [] E0 (tCons (cVar 0) tNil)))) tNil)) tNil)))
  (tRet (cVar 1)))))
theorem tm_board_lines (T : Txt K mg a) {cdv : Value} {A : Around} {outer : List Env} {s : Shared} {H : Hp} {E : XK} (hr : Room 1 (A.deeper (envOfC "board_lines" (defScope s_board_lines) s.heap.objs.size a.f_board_lines cdv))) :
  PSs (cxOf CX0 P w K mg base N_board_lines "board_lines" (defScope s_board_lines) a.f_board_lines cdv A outer s H E).nox (defBody s_board_lines) (rd_board_lines a K) :=
 (pss_cons (ps_set (i := 1) sc_board_lines.nd rfl (by walk_at "o") (pe_lst (pa_cons (pe_bm PySem.F.plainAttrs_str PySem.F.slot_str_join PySem.F.type_str_join mt_join pe_str (pa_cons (pe_lst (pa_cons pe_str (pa_cons (pe_callTy c_str (by rfl) T.no_str PyProof.Rows.boot_str (pa_cons (pe_fld (cv 0) rfl) pa_nil)) pa_nil))) pa_nil)) pa_nil)))
   (pss_cons (ps_for PassesOwn.never rfl (pi_list (pe_meth0 (cv 0) T.cl_Board T.me_Board_pieces (ok_Board_pieces T) (hr.mono (by decide)) T.bi_Board_pieces .nil pass0)) (pg_tup rfl (pgs_cons (pg_name (i := 2) sc_board_lines.nd rfl (by walk_at "o")) (pgs_cons (pg_name (i := 3) sc_board_lines.nd rfl (by walk_at "o")) (pgs_cons (pg_name (i := 4) sc_board_lines.nd rfl (by walk_at "o")) pgs_nil)))) (pss_cons (ps_setC (i := 5) (N := ["lower"]) (k := 1) (sel := []) (CScope.of (defScope s_board_lines).names (by decide +kernel)) (CNames.of N_board_lines (by decide +kernel)) rfl (pi_list (cv 3)) (fun _ _ _ _ => (pg_name (i := 0) (show List.Nodup (["lower"] : List Str) by decide +kernel) rfl (by walk_at "o"))) (fun _ _ _ _ => pts_nil) (fun _ _ _ _ => (pe_callTy c_str (by rfl) T.no_str PyProof.Rows.boot_str (pa_cons (cv 0) pa_nil))) sc_board_lines.nd rfl (by walk_at "o") rfl)
   (pss_one (ps_expr (pe_bm PySem.F.plainAttrs_list PySem.F.slot_list_append PySem.F.type_list_append (mtr mt_append) (cv 1) (pa_cons (pe_bm PySem.F.plainAttrs_str PySem.F.slot_str_join PySem.F.type_str_join mt_join pe_str (pa_cons (pe_op o_add (pe_op o_add (pe_lst (pa_cons (pe_callTy c_str (by rfl) T.no_str PyProof.Rows.boot_str (pa_cons (cv 2) pa_nil)) (pa_cons pe_str pa_nil))) (cv 5)) (pe_lst (pa_cons pe_str (pa_cons (pe_call (ok_table_text T) (hr.mono (by decide)) rfl T.mg_table_text T.fn_table_text.kp T.bi_table_text .nil pass0 (pa_cons (cv 4) (pa_cons (pe_callB c_len (by rfl) T.no_len PySem.boot_len (pa_cons (cv 3) pa_nil)) pa_nil))) pa_nil)))) pa_nil)) pa_nil))))))
   (pss_cons (ps_expr (pe_bm PySem.F.plainAttrs_list PySem.F.slot_list_append PySem.F.type_list_append (mtr mt_append) (cv 1) (pa_cons (pe_bm PySem.F.plainAttrs_str PySem.F.slot_str_join PySem.F.type_str_join mt_join pe_str (pa_cons (pe_op o_add (pe_lst (pa_cons pe_str pa_nil)) (pe_comp (N := ["tie"]) (k := 1) (sel := []) (CScope.of (defScope s_board_lines).names (by decide +kernel)) (CNames.of N_board_lines (by decide +kernel)) rfl (pi_list (pe_meth0 (cv 0) T.cl_Board T.me_Board_ties (ok_Board_ties T) (hr.mono (by decide)) T.bi_Board_ties .nil pass0)) (fun _ _ _ _ => (pg_name (i := 0) (show List.Nodup (["tie"] : List Str) by decide +kernel) rfl (by walk_at "o"))) (fun _ _ _ _ => pts_nil) (fun _ _ _ _ => (pe_call (ok_tie_text T) (hr.mono (by decide)) rfl T.mg_tie_text T.fn_tie_text.kp T.bi_tie_text .nil pass0 (pa_cons (cv 0) pa_nil))))) pa_nil)) pa_nil)))
   (pss_one (ps_ret (cv 1))))))
theorem ok_board_lines (T : Txt K mg a) : FnOk P w K mg base CX0 2 a.f_board_lines a.d_board_lines ["board"] (sp_board_lines a K) := by
 refine T.fn_board_lines.ok sc_board_lines (fun vs H Q E h => ?_) (fun cdv A outer s H vs Q E hr h => ⟨_, tm_board_lines T hr, ?_⟩)
 ·obtain ⟨x, m, ps, ties, rfl, _⟩ := h; rfl
 ·obtain ⟨x, m, ps, ties, rfl, hB, wp, wt, m10, hz, q⟩ := h
  show rd_board_lines a K _ [some (.ref x), none, none, none, none, none] H
  unfold rd_board_lines
  have big : (20000 : Nat) ≤ sizeLine := by decide
  have hsp : Str.length " " ≤ 16 := by decide +kernel
  have hlh := wt.lh
  have hbd : Str.length "board" = 5 := by decide +kernel
  obtain ⟨dx, k, tt, ts, hx, hP, hT⟩ := id hB
  walk_at "gs"
  refine ⟨x, a.c_Board, dx, _, _, rfl, hx, T.cl_Board, T.na_Board_many, rfl, ?_⟩
  walk_at "gs"
  refine ⟨log_small (by omega) (by omega), by show 2 ≤ sizeLine; decide, fun l1 H1 n1 => ?_⟩
  have hmm := sN_len (i := (m : Int)) (by omega) (by omega)
  refine ⟨["board", sN m], .of n1.at_, wt_ok (k := 5) (fun y hy => ?_) (by simp) (by omega), hsp, by show 1 ≤ sizeLine; decide, fun pl H2 n2 => ?_⟩
  ·rcases List.mem_cons.mp hy with rfl | hy
   ·omega
   ·rw [List.mem_singleton] at hy
    subst hy
    omega
  have s02 := n1.same.trans n2.same
  have hpl : H pl = none := n1.same.nil n2.was
  walk_at "gs"
  refine ⟨x, dx, _, rfl, s02 _ _ hx, rfl, x, m, ps, ties, rfl, hB.same s02, by omega, fun l us H3 hl3 s3 hL hun => ?_⟩
  have s03 := s02.trans s3
  have hul := hL.len
  walk_at "gs"
  refine ⟨⟨_, .of hL.lst⟩, for_listG (xs := us.map fun t => V.ref t.1) (fun i σ H4 => Same H H4 ∧ PLst H4 l us ps ∧ H4 pl = some (.lst ((jn ["board", sN m] :: (ps.take i).map lineP).map V.str)) ∧ ∃ v2 v3 v4 v5, σ = [some (.ref x), some (.ref pl), v2, v3, v4, v5]) ⟨s03, hL, s3 _ _ n2.at_, _, _, _, _, rfl⟩ ?_ ?_ ?_⟩
  ·rintro i σ H4 _ ⟨_, hL4, _⟩
   exact .of hL4.lst
  ·rintro i v σ H4 hv ⟨s4, hL4, hp4, v2, v3, v4, v5, rfl⟩
   have hi : i < us.length := by have := (List.getElem?_eq_some_iff.mp hv).1; rwa [List.length_map] at this
   rw [List.getElem?_map, List.getElem?_eq_getElem hi] at hv
   have ev : V.ref (us[i]).1 = v := Option.some.inj hv
   subst ev
   clear hv
   obtain ⟨p, hp, hpt, hpc⟩ := hL4.get hi
   have hwb := line_words wp m10 hp
   have hkb := wp.kb hp
   have hnb := nums_b wp m10 hp
   have w1 := wp i p hp
   have wl6 := w1.l6
   generalize (us[i]).1 = t1 at *
   generalize (us[i]).2 = t2 at *
   walk_at "gs"
   refine ⟨t1, _, rfl, .of hpt, rfl, _, _, rfl, _, _, rfl, _, _, rfl, rfl, ?_⟩
   walk_at "gs"
   refine ⟨⟨_, .of hpc⟩, compG_list (fun v => match v with | .int x => .str (sN x) | v => v) (.of hpc) rfl (by rw [List.length_map]; omega) ?_ ?_⟩
   ·intro v H' Q' hv s' q'
    obtain ⟨y, hy, rfl⟩ := List.mem_map.mp hv
    have hyb := hnb y hy
    walk_at "gs"
    exact ⟨log_small (by omega) (by omega), q'⟩
   intro np H5 n5
   have e5 : (p.2.1.map V.int).map (fun v => match v with | .int x => V.str (sN x) | v => v) = (p.2.1.map sN).map V.str := by rw [List.map_map, List.map_map]; rfl
   rw [e5] at n5
   have hp5 := n5.same _ _ hp4
   walk_at "gs"
   refine ⟨.inl ⟨by trivial, _, .of hp5⟩, by trivial, log_small (by omega) (by omega), by show 2 ≤ sizeLine; decide, fun a6 H6 n6 => ?_⟩
   refine ⟨_, _, n6.at_, n6.same _ _ n5.at_, by simp only [List.length_map, List.length_cons, List.length_nil]; omega, fun a7 ha7 => ?_⟩
   have s7 : Same H6 (upd H6 a7 (.lst ([V.str (sN p.1), V.str "of"] ++ (p.2.1.map sN).map V.str))) := same_upd ha7
   have a7' : upd H6 a7 (.lst ([V.str (sN p.1), V.str "of"] ++ (p.2.1.map sN).map V.str)) a7 = some (.lst ([V.str (sN p.1), V.str "of"] ++ (p.2.1.map sN).map V.str)) := upd_same
   show _
   generalize hH7 : upd H6 a7 (.lst ([V.str (sN p.1), V.str "of"] ++ (p.2.1.map sN).map V.str)) = H7 at s7 a7'
   have hH7' : upd H6 a7 (.lst ([V.str (toString p.1), V.str "of"] ++ (p.2.1.map sN).map V.str)) = H7 := hH7
   first | rw [hH7'] | rw [hH7] | skip
   have s47 := (n5.same.trans n6.same).trans s7
   walk_at "gs"
   refine .inl ⟨_, .inl (.of (s47 _ _ hpc)), ?_⟩
   rw [List.length_map]
   refine ⟨_, _, rfl, w1.t0, wl6, fun H8 s8 => ?_⟩
   walk_at "gs"
   refine ⟨by show 2 ≤ sizeLine; decide, fun a9 H9 n9 => ?_⟩
   refine ⟨_, _, n9.same _ _ (s8 _ _ a7'), n9.at_, by simp only [List.length_append, List.length_map, List.length_cons, List.length_nil]; omega, fun b10 hb10 => ?_⟩
   have e10 : ([V.str (sN p.1), V.str "of"] ++ (p.2.1.map sN).map V.str) ++ [V.str "is", V.str (tabS p.2.2 p.2.1.length)] = (sN p.1 :: "of" :: (p.2.1.map sN ++ [("is" : Str), tabS p.2.2 p.2.1.length])).map V.str := by
    rw [List.map_cons, List.map_cons, List.map_append]
    rfl
   rw [e10]
   have s410 := ((s47.trans s8).trans n9.same).trans (same_upd hb10 (o := .lst ((sN p.1 :: "of" :: (p.2.1.map sN ++ [("is" : Str), tabS p.2.2 p.2.1.length])).map V.str)))
   have a10 : upd H9 b10 (.lst ((sN p.1 :: "of" :: (p.2.1.map sN ++ [("is" : Str), tabS p.2.2 p.2.1.length])).map V.str)) b10 = _ := upd_same
   generalize upd H9 b10 (.lst ((sN p.1 :: "of" :: (p.2.1.map sN ++ [("is" : Str), tabS p.2.2 p.2.1.length])).map V.str)) = H10 at s410 a10 ⊢
   walk_at "gs"
   refine ⟨_, .of a10, wt_ok hwb.1 (by omega) (by omega), hsp, pl, _, _, rfl, rfl, s410 _ _ hp4, by simp only [List.length_map, List.length_cons, List.length_take]; omega, (s4.trans s410).put hpl, ?_, ?_, _, _, _, _, rfl⟩
   ·have hL10 := hL4.same s410
    have nlp : l ≠ pl := (ne_of_none (n2.at_) hl3).symm
    refine ⟨by rw [upd_ne nlp]; exact hL10.lst, hL10.len, fun j t p' ht hp' => ?_⟩
    obtain ⟨g1, g2⟩ := hL10.at_ j t p' ht hp'
    have nt := hun t (List.mem_of_getElem? ht)
    exact ⟨by rw [upd_ne (ne_of_none n2.at_ nt.1).symm]; exact g1, by rw [upd_ne (ne_of_none n2.at_ nt.2.1).symm]; exact g2⟩
   ·rw [upd_same, take_snoc hp, List.map_append, List.map_cons, List.map_cons, List.map_append]
    rfl
  ·rintro σ H4 ⟨s4, hL4, hp4, v2, v3, v4, v5, rfl⟩
   rw [List.length_map, hul, List.take_length] at hp4
   walk_at "gs"
   refine ⟨.inl ⟨by trivial, _, .of hp4⟩, by trivial, by show 1 ≤ sizeLine; decide, fun a5 H5 n5 => ?_⟩
   have s05 := s4.trans n5.same
   refine ⟨x, dx, _, rfl, s05 _ _ hx, rfl, x, m, ps, ties, rfl, hB.same s05, fun l6 H6 n6 => ?_⟩
   walk_at "gs"
   refine ⟨⟨_, n6.sq⟩, compG_list (fun v => match v with | .int x => .str (tieS x) | v => v) n6.sq rfl (by rw [List.length_map]; omega) ?_ ?_⟩
   ·intro v H' Q' hv s' q'
    obtain ⟨y, hy, rfl⟩ := List.mem_map.mp hv
    have hyb := wt.half wp m10 hy
    walk_at "gs"
    exact ⟨y, rfl, hyb.1, hyb.2, q'⟩
   intro l7 H7 n7
   have e7 : (ties.map V.int).map (fun v => match v with | .int x => V.str (tieS x) | v => v) = (ties.map tieS).map V.str := by rw [List.map_map, List.map_map]; rfl
   rw [e7] at n7
   have s57 := n6.same.trans n7.same
   walk_at "gs"
   refine ⟨_, _, s57 _ _ n5.at_, n7.at_, by simp only [List.length_map, List.length_cons, List.length_nil]; omega, fun b8 hb8 => ?_⟩
   have e8 : [V.str "out"] ++ (ties.map tieS).map V.str = (("out" : Str) :: ties.map tieS).map V.str := rfl
   rw [e8]
   have s48 := (n5.same.trans s57).trans (same_upd hb8 (o := .lst ((("out" : Str) :: ties.map tieS).map V.str)))
   have a8 : upd H7 b8 (.lst ((("out" : Str) :: ties.map tieS).map V.str)) b8 = _ := upd_same
   generalize upd H7 b8 (.lst ((("out" : Str) :: ties.map tieS).map V.str)) = H8 at s48 a8 ⊢
   walk_at "gs"
   refine ⟨_, .of a8, wt_ok (out_words wt wp m10).2 (by simp only [List.length_cons, List.length_map]; omega) (by omega), hsp, pl, _, _, rfl, rfl, s48 _ _ hp4, by simp only [List.length_map, List.length_cons]; omega, ?_⟩
   walk_at "gs"
   refine q pl _ ⟨hpl, ?_, (s4.trans s48).put hpl⟩
   rw [upd_same]
   unfold linesB
   rw [List.map_cons, List.map_cons, List.map_append]
   rfl
def sp_law_cell_at (K : PySem.W.Frag) : Sp := fun vs H Q _ => ∃ (p : Addr) (ns : List Int) (k : Nat), vs = [.ref p, .int k] ∧ SqL K H p (ns.map V.int) ∧ ∀ c, 0 ≤ c → Q (.int c) H
def rd_law_cell_at (K : PySem.W.Frag) : TS := (tSeq (tIfS (cTst (tOp (cI2 fun i j => .bl (decide (i < j))) (cVar 1) (tCB (cLen K) (tCons (cVar 0) tNil)))) (tRet (tOp (cI2c (fun _ j => 0 < j) fun i j => .int (i % j)) (tOp (cIx K) (cVar 0) (cVar 1)) (tOp (cI2c CPow fun i j => .int (i ^ j.toNat)) (tC (.int 10)) (tC (.int 60))))) tNext)
  (tRet (tC (.int 0))))
theorem tm_law_cell_at (T : Txt K mg a) {cdv : Value} {A : Around} {outer : List Env} {s : Shared} {H : Hp} {E : XK} (hr : Room 0 (A.deeper (envOfC "_law_cell_at" (defScope s_law_cell_at) s.heap.objs.size a.f_law_cell_at cdv))) :
  PSs (cxOf CX0 P w K mg base N_law_cell_at "_law_cell_at" (defScope s_law_cell_at) a.f_law_cell_at cdv A outer s H E).nox (defBody s_law_cell_at) (rd_law_cell_at K) :=
 (pss_cons (ps_if (t_cmp o_lt (cv 1) (pe_callB c_len (by rfl) T.no_len PySem.boot_len (pa_cons (cv 0) pa_nil)) (nomark _)) (pss_one (ps_ret (pe_op o_mod (pe_ix i_seq (cv 0) (cv 1) (fun _ _ => rfl)) (pe_op o_pow pe_int pe_int)))) pss_nil)
   (pss_one (ps_ret pe_int)))
theorem ok_law_cell_at (T : Txt K mg a) : FnOk P w K mg base CX0 1 a.f_law_cell_at a.d_law_cell_at ["_law_script", "_law_k"] (sp_law_cell_at K) := by
 refine T.fn_law_cell_at.ok sc_law_cell_at (fun vs H Q E h => ?_) (fun cdv A outer s H vs Q E hr h => ⟨_, tm_law_cell_at T hr, ?_⟩)
 ·obtain ⟨p, ns, k, rfl, _⟩ := h; rfl
 ·obtain ⟨p, ns, k, rfl, hS, q⟩ := h
  show rd_law_cell_at K _ [some (.ref p), some (.int k)] H
  unfold rd_law_cell_at
  have p60 : (0 : Int) < 10 ^ (60 : Int).toNat := Int.pow_pos (by decide)
  walk_at "gs"
  refine .inl ⟨_, .inl hS, ?_⟩
  rw [List.length_map]
  by_cases h : (k : Int) < ns.length
  ·rw [if_pos h]
   refine ixI hS (by omega) h ?_
   walk_at "gs"
   exact q _ (Int.emod_nonneg _ (by omega))
  ·rw [if_neg h]
   walk_at "gs"
   exact q 0 (by omega)
theorem at_ints {ks : List Int} {i : Int} (h0 : 0 ≤ i) (h1 : i < ks.length) : ∃ g, g ∈ ks ∧ atI (ks.map V.int) i = some (.int g) := by
 have hl : i.toNat < ks.length := by omega
 refine ⟨ks[i.toNat], List.getElem_mem _, ?_⟩
 rw [atI_ok .non h0 (by rw [List.length_map]; exact h1)]
 simp [List.getD, hl]
def sp_law_cut (_ : PySem.W.Frag) : Sp := fun vs H Q _ => ∃ (c : Int) (kp : Addr) (ks : List Int), vs = [.int c, .ref kp] ∧ H kp = some (.lst (ks.map V.int)) ∧ 1 ≤ ks.length ∧ ks.length ≤ 1000 ∧
 ∀ q H' (ys : List Int), Mad H q (.lst (ys.map V.int)) H' → ys.Pairwise (· < ·) → 1 ≤ ys.length → ys.length ≤ 6 → (∀ y ∈ ys, y ∈ ks) → Q (.ref q) H'
def rd_law_cut (K : PySem.W.Frag) : TS := (tSeq (tAsg (tLst tNil) (gName 2))
  (tSeq (tFor (iRng1 (tCons (tOp cAdd (tC (.int 1)) (tOp (cI2c (fun _ j => 0 < j) fun i j => .int (i % j)) (cVar 0) (tC (.int 6)))) tNil)) (gName 3) (tSeq (tAsg (tOp (cI2c (fun _ j => 0 ≤ j) fun i j => .int (i / 2 ^ j.toNat)) (tOp (cI2c CDiv fun i j => .int (i / j)) (cVar 0) (tC (.int 6))) (tOp cMul (tC (.int 8)) (cVar 3))) (gName 4))
  (tSeq (tAsg (tOp (cIx K) (cVar 1) (tOp (cI2 fun i j => .int (i - j)) (tOp (cI2 fun i j => .int (i - j)) (tCB (cLen K) (tCons (cVar 1) tNil)) (tC (.int 1))) (tOp (cI2c (fun _ j => 0 < j) fun i j => .int (i % j)) (tOp (cI2c CDiv fun i j => .int (i / j)) (cVar 4) (tC (.int 2))) (tCB cMin (tCons (tCB (cLen K) (tCons (cVar 1) tNil)) (tCons (tC (.int 5)) tNil)))))) (gName 5))
  (tMid (tIfS (cTst (tOp (cEq K) (tOp (cI2c (fun _ j => 0 < j) fun i j => .int (i % j)) (cVar 4) (tC (.int 2))) (tC (.int 0)))) (tAsg (tOp (cIx K) (cVar 1) (tOp (cI2c (fun _ j => 0 < j) fun i j => .int (i % j)) (tOp (cI2c CDiv fun i j => .int (i / j)) (cVar 4) (tC (.int 2))) (tCB (cLen K) (tCons (cVar 1) tNil)))) (gName 5)) tNext)
  (tIfS (cTst (tOp (cIn K true) (cVar 5) (cVar 2))) (tDrop (tBM K "list" rAppend (cVar 2) (tCons (cVar 5) tNil))) tNext)))))
  (tRet (tCB (cSorted K) (tCons (cVar 2) tNil)))))
theorem tm_law_cut (T : Txt K mg a) {cdv : Value} {A : Around} {outer : List Env} {s : Shared} {H : Hp} {E : XK} (hr : Room 0 (A.deeper (envOfC "_law_cut" (defScope s_law_cut) s.heap.objs.size a.f_law_cut cdv))) :
  PSs (cxOf CX0 P w K mg base N_law_cut "_law_cut" (defScope s_law_cut) a.f_law_cut cdv A outer s H E).nox (defBody s_law_cut) (rd_law_cut K) :=
 (pss_cons (ps_set (i := 2) sc_law_cut.nd rfl (by walk_at "o") (pe_lst pa_nil))
   (pss_cons (ps_for PassesOwn.never rfl (pi_range1 rfl T.no_range (pa_cons (pe_op o_add pe_int (pe_op o_mod (cv 0) pe_int)) pa_nil)) (pg_name (i := 3) sc_law_cut.nd rfl (by walk_at "o")) (pss_cons (ps_set (i := 4) sc_law_cut.nd rfl (by walk_at "o") (pe_op o_shr (pe_op o_fdiv (cv 0) pe_int) (pe_op o_mul pe_int (cv 3))))
   (pss_cons (ps_set (i := 5) sc_law_cut.nd rfl (by walk_at "o") (pe_ix i_seq (cv 1) (pe_op o_sub (pe_op o_sub (pe_callB c_len (by rfl) T.no_len PySem.boot_len (pa_cons (cv 1) pa_nil)) pe_int) (pe_op o_mod (pe_op o_fdiv (cv 4) pe_int) (pe_callB (c_min rfl) (by rfl) T.no_min PyProof.Rows.boot_min (pa_cons (pe_callB c_len (by rfl) T.no_len PySem.boot_len (pa_cons (cv 1) pa_nil)) (pa_cons pe_int pa_nil))))) (fun _ _ => rfl)))
   (pss_mid (ps_if (t_cmp (o_eq (hr8 hr)) (pe_op o_mod (cv 4) pe_int) pe_int (nomark _)) (pss_one (ps_set (i := 5) sc_law_cut.nd rfl (by walk_at "o") (pe_ix i_seq (cv 1) (pe_op o_mod (pe_op o_fdiv (cv 4) pe_int) (pe_callB c_len (by rfl) T.no_len PySem.boot_len (pa_cons (cv 1) pa_nil))) (fun _ _ => rfl)))) pss_nil)
   (pss_one (ps_if (t_cmp o_notin (cv 5) (cv 2) (by with_unfolding_all rfl)) (pss_one (ps_expr (pe_bm PySem.F.plainAttrs_list PySem.F.slot_list_append PySem.F.type_list_append (mtr mt_append) (cv 2) (pa_cons (cv 5) pa_nil)))) pss_nil))))))
   (pss_one (ps_ret (pe_callB c_sorted (by rfl) T.no_sorted PyProof.Rows.boot_sorted (pa_cons (cv 2) pa_nil))))))
theorem ok_law_cut (T : Txt K mg a) : FnOk P w K mg base CX0 1 a.f_law_cut a.d_law_cut ["_law_cell", "_law_known"] (sp_law_cut K) := by
 refine T.fn_law_cut.ok sc_law_cut (fun vs H Q E h => ?_) (fun cdv A outer s H vs Q E hr h => ⟨_, tm_law_cut T hr, ?_⟩)
 ·obtain ⟨c, kp, ks, rfl, _⟩ := h; rfl
 ·obtain ⟨c, kp, ks, rfl, hK, k1, k2, q⟩ := h
  show rd_law_cut K _ [some (.int c), some (.ref kp), none, none, none, none] H
  unfold rd_law_cut
  have big : (20000 : Nat) ≤ sizeLine := by decide
  walk_at "gs"
  intro cp H1 n1
  walk_at "gs"
  obtain ⟨N, hN, hN6⟩ : ∃ N : Nat, (1 + c % 6).toNat = N + 1 ∧ N ≤ 5 := ⟨(c % 6).toNat, by omega, by omega⟩
  rw [hN]
  refine for_rngG (fun i σ H2 => Same H H2 ∧ ∃ (ys : List Int) (v3 v4 v5 : Option V), H2 cp = some (.lst (ys.map V.int)) ∧ ys.Nodup ∧ ys.length ≤ i ∧ (0 < i → 1 ≤ ys.length) ∧ (∀ y ∈ ys, y ∈ ks) ∧ σ = [some (.int c), some (.ref kp), some (.ref cp), v3, v4, v5]) ⟨n1.same, [], _, _, _, n1.at_, by simp, by simp, fun z => absurd z (Nat.lt_irrefl _), fun y hy => by simp at hy, rfl⟩ ?_ ?_
  ·rintro i σ H2 hi ⟨s2, ys, v3, v4, v5, h2, nd, hl, hl1, hm, rfl⟩
   have hK2 := s2 _ _ hK
   walk_at "gs"
   generalize c / 6 / 2 ^ (8 * (0 + (i : Int))).toNat = one
   refine .inl ⟨_, .inl (.of hK2), ?_⟩
   rw [List.length_map]
   walk_at "gs"
   refine .inl ⟨_, .inl (.of hK2), ?_⟩
   rw [List.length_map]
   have gM : 1 ≤ (if (5 : Int) < (ks.length : Int) then (5 : Int) else (ks.length : Int)) ∧ (if (5 : Int) < (ks.length : Int) then (5 : Int) else (ks.length : Int)) ≤ (ks.length : Int) := by split <;> omega
   generalize hM : (if (5 : Int) < (ks.length : Int) then (5 : Int) else (ks.length : Int)) = M at gM
   have z1 := Int.emod_nonneg (one / 2) (show M ≠ 0 by omega)
   have z2 := Int.emod_lt_of_pos (one / 2) (show 0 < M by omega)
   walk_at "gs"
   obtain ⟨g1, hg1, ha1⟩ := at_ints (ks := ks) (i := (ks.length : Int) - 1 - one / 2 % M) (by omega) (by omega)
   refine ⟨_, _, .inl (.of hK2), ha1, ?_⟩
   walk_at "gs"
   refine mid (fun σ' H' => H' = H2 ∧ ∃ g, g ∈ ks ∧ σ' = [some (.int c), some (.ref kp), some (.ref cp), some (.int (0 + (i : Int))), some (.int one), some (.int g)]) ?_ ?_
   ·intro N' hN'
    walk_at "gs"
    by_cases g : one % 2 = 0
    ·rw [if_pos g]
     walk_at "gs"
     refine .inl ⟨_, .inl (.of hK2), ?_⟩
     rw [List.length_map]
     have y1 := Int.emod_nonneg (one / 2) (show (ks.length : Int) ≠ 0 by omega)
     have y2 := Int.emod_lt_of_pos (one / 2) (show 0 < (ks.length : Int) by omega)
     walk_at "gs"
     obtain ⟨g2, hg2, ha2⟩ := at_ints (ks := ks) y1 y2
     refine ⟨_, _, .inl (.of hK2), ha2, ?_⟩
     exact hN' _ _ ⟨rfl, g2, hg2, rfl⟩
    ·rw [if_neg g]
     exact hN' _ _ ⟨rfl, g1, hg1, rfl⟩
   rintro σ3 H3 ⟨rfl, g, hg, rfl⟩
   walk_at "gs"
   refine ⟨_, .inl (.of h2), rfl, flat_ints ys, ?_⟩
   rw [inV_ints]
   by_cases gi : g ∈ ys
   ·rw [decide_eq_true gi]
    walk_at "go"
    exact ⟨s2, ys, _, _, _, h2, nd, by omega, fun _ => List.length_pos_of_mem gi, hm, rfl⟩
   ·rw [decide_eq_false gi]
    walk_at "go"
    refine ⟨.inl ⟨by trivial, _, .of h2⟩, cp, _, _, rfl, rfl, h2, by rw [List.length_map]; omega, s2.put n1.was, ys ++ [g], _, _, _, by rw [upd_same, List.map_append]; rfl, ?_, by rw [List.length_append]; simp only [List.length_cons, List.length_nil]; omega, fun _ => by rw [List.length_append]; simp, fun y hy => ?_, rfl⟩
    ·rw [List.nodup_append]
     refine ⟨nd, by simp, fun a ha b hb e => ?_⟩
     rw [List.mem_singleton] at hb
     subst hb e
     exact gi ha
    ·rcases List.mem_append.mp hy with z | z
     ·exact hm y z
     ·rw [List.mem_singleton] at z
      subst z
      exact hg
  ·rintro σ H2 ⟨s2, ys, v3, v4, v5, h2, nd, hl, hl1, hm, rfl⟩
   have hl1 := hl1 (by omega)
   walk_at "gs"
   refine ⟨_, .of h2, by omega, fun ns' l3 H3 hpm hso n3 => ?_⟩
   exact q l3 H3 ns' ⟨s2.nil n3.was, n3.at_, s2.trans n3.same⟩ (MF.sort_lt hpm hso nd) (by rw [hpm.length_eq]; exact hl1) (by rw [hpm.length_eq]; omega) fun y hy => hm y (hpm.mem_iff.mp hy)
theorem known_last {m : Nat} (h : 1 ≤ m) (ps : List Pc) : atI ((known m ps).map V.int) (-1) = some (.int (topK m ps)) := by
 have key : ∃ L, known m ps = L ++ [topK m ps] := by
  rcases List.eq_nil_or_concat ps with rfl | ⟨qs, p, rfl⟩
  ·obtain ⟨n, rfl⟩ : ∃ n, m = n + 1 := ⟨m - 1, by omega⟩
   refine ⟨(List.range n).map fun i : Nat => 1 + (i : Int), ?_⟩
   unfold known topK
   rw [List.map_nil, List.append_nil, List.range_succ, List.map_append]
   simp
   omega
  ·rw [List.concat_eq_append, known_snoc, top_snoc]
   exact ⟨_, rfl⟩
 obtain ⟨L, e⟩ := key
 rw [e, List.map_append]
 unfold atI ixN
 simp
 rw [if_pos (by omega), show (-1 + ((L.length : Int) + 1)).toNat = L.length by omega]
 simp
theorem known_len (m : Nat) (ps : List Pc) : (known m ps).length = m + ps.length := by
 unfold known
 rw [List.length_append, List.length_map, List.length_map, List.length_range]
theorem three (v : Int) (k : Int) (h0 : 0 ≤ v) (h1 : v < 40) : ∃ w : Int, 0 ≤ w ∧ w < 40 ∧ atI [V.int 0, V.int 0, V.int v] (k % 3) = some (.int w) := by
 rcases (by omega : k % 3 = 0 ∨ k % 3 = 1 ∨ k % 3 = 2) with h | h | h <;> rw [h]
 ·exact ⟨0, by omega, by omega, rfl⟩
 ·exact ⟨0, by omega, by omega, rfl⟩
 ·exact ⟨v, h0, h1, rfl⟩
theorem WP.snoc {m : Nat} {ps : List Pc} (w : WP m ps) {p : Pc} (h : WPc m ps p) : WP m (ps ++ [p]) := by
 intro i q hq
 rcases Nat.lt_or_ge i ps.length with l | l
 ·rw [List.getElem?_append_left l] at hq
  rw [List.take_append_of_le_length (by omega)]
  exact w i q hq
 ·have hi : i < ps.length + 1 := by have := (List.getElem?_eq_some_iff.mp hq).1; rwa [List.length_append] at this
  have : i = ps.length := by omega
  subst this
  rw [List.getElem?_append_right (Nat.le_refl _), Nat.sub_self] at hq
  have e : p = q := by simpa using hq
  subst e
  rw [List.take_left']
  ·exact h
  ·rfl
def sp_law_pieces (K : PySem.W.Frag) : Sp := fun vs H Q _ => ∃ (p : Addr) (ns : List Int) (m : Nat), vs = [.ref p, .int m] ∧ SqL K H p (ns.map V.int) ∧ ns.length ≤ 63 ∧ 1 ≤ m ∧ m ≤ 10 ∧
 ∀ l ts ps H', H l = none → Same H H' → PLst H' l ts ps → WP m ps → ps.length ≤ 63 → Q (.ref l) H'
def rd_law_pieces (K : PySem.W.Frag) : TS := (tSeq (tAsg (cListRange2 (tCons (tC (.int 1)) (tCons (tOp cAdd (cVar 1) (tC (.int 1))) tNil))) (gName 2))
  (tSeq (tAsg (tLst tNil) (gName 3))
  (tSeq (tFor (iRng2 (tCons (tC (.int 2)) (tCons (tCB cMin (tCons (tCB (cLen K) (tCons (cVar 0) tNil)) (tCons (tC (.int 60)) tNil))) tNil))) (gName 4) (tSeq (tAsg (tOp cAdd (tCall (sp_law_cell_at K) [] E0 (tCons (cVar 0) (tCons (cVar 4) tNil))) (tOp cMul (tC (.int 41)) (cVar 4))) (gName 5))
  (tSeq (tAsg (tOp cAdd (tOp cAdd (tCB cMax (tCons (tOp (cIx K) (cVar 2) (tUn cNeg (tC (.int 1)))) (tCons (cVar 1) tNil))) (tC (.int 1))) (tOp (cIx K) (tLst (tCons (tC (.int 0)) (tCons (tC (.int 0)) (tCons (tOp (cI2c (fun _ j => 0 < j) fun i j => .int (i % j)) (tOp (cI2c CDiv fun i j => .int (i / j)) (cVar 5) (tC (.int 2))) (tC (.int 40))) tNil)))) (tOp (cI2c (fun _ j => 0 < j) fun i j => .int (i % j)) (cVar 5) (tC (.int 3))))) (gName 6))
  (tIfS (cTst (tOp (cI2 fun i j => .bl (decide (i < j))) (cVar 6) (tC (.int 1000)))) (tSeq (tAsg (tCall (sp_law_cut K) [] E0 (tCons (tOp (cI2c CDiv fun i j => .int (i / j)) (cVar 5) (tC (.int 120))) (tCons (cVar 2) tNil))) (gName 7))
  (tSeq (tDrop (tBM K "list" rAppend (cVar 3) (tCons (tTup (tCons (cVar 6) (tCons (cVar 7) (tCons (tOp (cI2c (fun _ j => 0 < j) fun i j => .int (i % j)) (tOp (cI2c CDiv fun i j => .int (i / j)) (cVar 5) (tC (.int 7))) (tOp (cI2c CPow fun i j => .int (i * 2 ^ j.toNat)) (tC (.int 1)) (tOp (cI2c CPow fun i j => .int (i * 2 ^ j.toNat)) (tC (.int 1)) (tCB (cLen K) (tCons (cVar 7) tNil))))) tNil)))) tNil)))
  (tDrop (tBM K "list" rAppend (cVar 2) (tCons (cVar 6) tNil))))) tNext))))
  (tRet (cVar 3)))))
theorem tm_law_pieces (T : Txt K mg a) {cdv : Value} {A : Around} {outer : List Env} {s : Shared} {H : Hp} {E : XK} (hr : Room 1 (A.deeper (envOfC "_law_pieces" (defScope s_law_pieces) s.heap.objs.size a.f_law_pieces cdv))) :
  PSs (cxOf CX0 P w K mg base N_law_pieces "_law_pieces" (defScope s_law_pieces) a.f_law_pieces cdv A outer s H E).nox (defBody s_law_pieces) (rd_law_pieces K) :=
 (pss_cons (ps_set (i := 2) sc_law_pieces.nd rfl (by walk_at "o") (e_listrange2 rfl rfl rfl T.no_list T.no_range (pa_cons pe_int (pa_cons (pe_op o_add (cv 1) pe_int) pa_nil))))
   (pss_cons (ps_set (i := 3) sc_law_pieces.nd rfl (by walk_at "o") (pe_lst pa_nil))
   (pss_cons (ps_for PassesOwn.never rfl (pi_range2 rfl T.no_range (pa_cons pe_int (pa_cons (pe_callB (c_min rfl) (by rfl) T.no_min PyProof.Rows.boot_min (pa_cons (pe_callB c_len (by rfl) T.no_len PySem.boot_len (pa_cons (cv 0) pa_nil)) (pa_cons pe_int pa_nil))) pa_nil))) (pg_name (i := 4) sc_law_pieces.nd rfl (by walk_at "o")) (pss_cons (ps_set (i := 5) sc_law_pieces.nd rfl (by walk_at "o") (pe_op o_add (pe_call (ok_law_cell_at T) (hr.mono (by decide)) rfl T.mg_law_cell_at T.fn_law_cell_at.kp T.bi_law_cell_at .nil pass0 (pa_cons (cv 0) (pa_cons (cv 4) pa_nil))) (pe_op o_mul pe_int (cv 4))))
   (pss_cons (ps_set (i := 6) sc_law_pieces.nd rfl (by walk_at "o") (pe_op o_add (pe_op o_add (pe_callB (c_max rfl) (by rfl) T.no_max PyProof.Rows.boot_max (pa_cons (pe_ix i_seq (cv 2) (pe_un u_neg pe_int) (fun _ _ => rfl)) (pa_cons (cv 1) pa_nil))) pe_int) (pe_ix i_seq (pe_lst (pa_cons pe_int (pa_cons pe_int (pa_cons (pe_op o_mod (pe_op o_fdiv (cv 5) pe_int) pe_int) pa_nil)))) (pe_op o_mod (cv 5) pe_int) (fun _ _ => rfl))))
   (pss_one (ps_if (t_cmp o_lt (cv 6) pe_int (nomark _)) (pss_cons (ps_set (i := 7) sc_law_pieces.nd rfl (by walk_at "o") (pe_call (ok_law_cut T) (hr.mono (by decide)) rfl T.mg_law_cut T.fn_law_cut.kp T.bi_law_cut .nil pass0 (pa_cons (pe_op o_fdiv (cv 5) pe_int) (pa_cons (cv 2) pa_nil))))
   (pss_cons (ps_expr (pe_bm PySem.F.plainAttrs_list PySem.F.slot_list_append PySem.F.type_list_append (mtr mt_append) (cv 3) (pa_cons (pe_tup (pa_cons (cv 6) (pa_cons (cv 7) (pa_cons (pe_op o_mod (pe_op o_fdiv (cv 5) pe_int) (pe_op o_shl pe_int (pe_op o_shl pe_int (pe_callB c_len (by rfl) T.no_len PySem.boot_len (pa_cons (cv 7) pa_nil))))) pa_nil)))) pa_nil)))
   (pss_one (ps_expr (pe_bm PySem.F.plainAttrs_list PySem.F.slot_list_append PySem.F.type_list_append (mtr mt_append) (cv 2) (pa_cons (cv 6) pa_nil)))))) pss_nil)))))
   (pss_one (ps_ret (cv 3))))))
theorem ok_law_pieces (T : Txt K mg a) : FnOk P w K mg base CX0 2 a.f_law_pieces a.d_law_pieces ["_law_script", "_law_many"] (sp_law_pieces K) := by
 refine T.fn_law_pieces.ok sc_law_pieces (fun vs H Q E h => ?_) (fun cdv A outer s H vs Q E hr h => ⟨_, tm_law_pieces T hr, ?_⟩)
 ·obtain ⟨p, ns, m, rfl, _⟩ := h; rfl
 ·obtain ⟨p, ns, m, rfl, hS, hnl, m1, m10, q⟩ := h
  show rd_law_pieces K _ [some (.ref p), some (.int m), none, none, none, none, none, none] H
  unfold rd_law_pieces
  have big : (20000 : Nat) ≤ sizeLine := by decide
  walk_at "gs"
  refine ⟨_, _, rfl, ⟨by decide, by decide, by omega, by omega⟩, by omega, by omega, fun kp H1 n1 => ?_⟩
  have e1 : ((List.range (((m : Int) + 1) - 1).toNat).map fun k : Nat => V.int (1 + (k : Int))) = (known m []).map V.int := by
   unfold known
   rw [List.map_nil, List.append_nil, List.map_map, show (((m : Int) + 1) - 1).toNat = m by omega]
   rfl
  rw [e1] at n1
  walk_at "gs"
  intro lp H2 n2
  have nkl : kp ≠ lp := ne_of_none n1.at_ n2.was
  have s02 := n1.same.trans n2.same
  have hlp : H lp = none := n1.same.nil n2.was
  walk_at "gs"
  refine .inl ⟨_, .inl (s02.seq hS), ?_⟩
  rw [List.length_map]
  have g60 : (if (60 : Int) < (ns.length : Int) then (60 : Int) else (ns.length : Int)) ≤ 60 ∧ 0 ≤ (if (60 : Int) < (ns.length : Int) then (60 : Int) else (ns.length : Int)) := by split <;> omega
  generalize (if (60 : Int) < (ns.length : Int) then (60 : Int) else (ns.length : Int)) = n60 at g60
  walk_at "gs"
  obtain ⟨N, hN⟩ : ∃ N, (n60 - 2).toNat = N := ⟨_, rfl⟩
  have hN60 : N ≤ 60 := by omega
  rw [hN]
  refine for_rngG (fun i σ H3 => Same H H3 ∧ ∃ (ts : List (Addr × Addr)) (ps : List Pc) (v4 v5 v6 v7 : Option V), H3 kp = some (.lst ((known m ps).map V.int)) ∧ PLst H3 lp ts ps ∧ (∀ t ∈ ts, t.2 ≠ kp ∧ t.2 ≠ lp) ∧ WP m ps ∧ ps.length ≤ i ∧ σ = [some (.ref p), some (.int m), some (.ref kp), some (.ref lp), v4, v5, v6, v7]) ⟨s02, [], [], _, _, _, _, n2.same _ _ n1.at_, ⟨n2.at_, rfl, fun i t p ht => by simp at ht⟩, fun t ht => by simp at ht, fun i p hp => by simp at hp, Nat.le_refl _, rfl⟩ ?_ ?_
  ·rintro i σ H3 hi ⟨s3, ts, ps, v4, v5, v6, v7, hk3, hL, hts, wp, hpl, rfl⟩
   rw [show (2 : Int) + (i : Int) = ((2 + i : Nat) : Int) by omega]
   have htop := wp.top ps.length (Nat.le_refl _)
   rw [List.take_length] at htop
   have hkl := known_len m ps
   walk_at "gs"
   refine ⟨p, ns, 2 + i, rfl, s3.seq hS, fun c c0 => ?_⟩
   have hc0 : 0 ≤ c + 41 * ((2 + i : Nat) : Int) := by omega
   walk_at "gs"
   generalize c + 41 * ((2 + i : Nat) : Int) = cell at hc0
   refine ⟨_, _, .inl (.of hk3), known_last m1 ps, ?_⟩
   walk_at "gs"
   rw [if_neg (show ¬ ((m : Int) > topK m ps) by omega)]
   obtain ⟨w, w0, w40, haw⟩ := three (cell / 2 % 40) cell (by omega) (by omega)
   refine ⟨by show 3 ≤ sizeLine; decide, fun l4 H4 n4 => ?_⟩
   walk_at "gs"
   refine ⟨_, _, .inl n4.sq, haw, ?_⟩
   walk_at "gs"
   have hk4 := n4.same _ _ hk3
   have hL4 := hL.same n4.same
   have s04 := s3.trans n4.same
   by_cases gk : topK m ps + 1 + w < 1000
   case neg =>
    rw [if_neg gk]
    exact ⟨s04, ts, ps, _, _, _, _, hk4, hL4, hts, wp, by omega, rfl⟩
   rw [if_pos gk]
   walk_at "gs"
   refine ⟨_, kp, known m ps, rfl, hk4, by omega, by omega, fun c5 H5 ys md5 yr y1 y6 yk => ?_⟩
   obtain ⟨hc5, hy5, s5⟩ := md5
   have s05 := s04.trans s5
   have hk5 := s5 _ _ hk4
   have hL5 := hL4.same s5
   have hp6 : (2 : Nat) ^ ys.length ≤ 2 ^ 6 := Nat.pow_le_pow_right (by decide) y6
   have hp0 : 0 < (2 : Nat) ^ ys.length := Nat.pow_pos (by decide)
   have ec : (1 * 2 ^ ((ys.length : Int)).toNat : Int) = ((2 ^ ys.length : Nat) : Int) := by simp
   have ef : (1 * 2 ^ (((2 ^ ys.length : Nat) : Int)).toNat : Int) = ((2 ^ 2 ^ ys.length : Nat) : Int) := by
    have := shl_val 1 (2 ^ ys.length)
    rw [show ((1 : Nat) : Int) = 1 from rfl] at this
    rw [this, Nat.one_mul]
   have hz0 : (0 : Int) < ((2 ^ 2 ^ ys.length : Nat) : Int) := by
    have : 0 < 2 ^ 2 ^ ys.length := Nat.pow_pos (by decide)
    exact_mod_cast this
   have cp : CPow 1 ((2 ^ ys.length : Nat) : Int) := by
    generalize 2 ^ ys.length = N at hp6
    exact ⟨by omega, by omega, by decide⟩
   walk_at "gs"
   refine ⟨.inl ⟨by trivial, _, .of hL5.lst⟩, ?_⟩
   walk_at "gs"
   refine .inl ⟨_, .inl (.of hy5), ?_⟩
   rw [List.length_map]
   walk_at "gs"
   rw [ec, ef]
   refine ⟨hz0, ?_⟩
   have tb0 := Int.emod_nonneg (cell / 7) (show ((2 ^ 2 ^ ys.length : Nat) : Int) ≠ 0 by omega)
   have tb1 := Int.emod_lt_of_pos (cell / 7) hz0
   generalize (cell / 7) % ((2 ^ 2 ^ ys.length : Nat) : Int) = tb at tb0 tb1
   refine ⟨by show 3 ≤ sizeLine; decide, fun t6 H6 n6 => ?_⟩
   have hL6 := hL5.same n6.same
   have hk6 := n6.same _ _ hk5
   have hy6 := n6.same _ _ hy5
   have s06 := s05.trans n6.same
   have nc1 : c5 ≠ kp := (ne_of_none hk4 hc5).symm
   have nc2 : c5 ≠ lp := (ne_of_none hL4.lst hc5).symm
   have nt1 : t6 ≠ kp := (ne_of_none hk5 n6.was).symm
   have nt2 : t6 ≠ lp := (ne_of_none hL5.lst n6.was).symm
   have hll := hL.len
   refine ⟨lp, _, _, rfl, rfl, hL6.lst, by rw [List.length_map]; omega, ?_⟩
   have a7 : upd H6 lp (.lst ((ts.map fun t => V.ref t.1) ++ [V.ref t6])) lp = some (.lst ((ts.map fun t => V.ref t.1) ++ [V.ref t6])) := upd_same
   have u7 : ∀ b o, b ≠ lp → H6 b = some o → upd H6 lp (.lst ((ts.map fun t => V.ref t.1) ++ [V.ref t6])) b = some o := fun b o n e => by rw [upd_ne n]; exact e
   have s07 : Same H (upd H6 lp (.lst ((ts.map fun t => V.ref t.1) ++ [V.ref t6]))) := s06.put hlp
   generalize upd H6 lp (.lst ((ts.map fun t => V.ref t.1) ++ [V.ref t6])) = H7 at a7 u7 s07 ⊢
   have hk7 := u7 _ _ nkl hk6
   walk_at "gs"
   refine ⟨.inl ⟨by trivial, _, .of hk7⟩, kp, _, _, rfl, rfl, hk7, by rw [List.length_map]; omega, s07.put n1.was, ts ++ [(t6, c5)], ps ++ [(topK m ps + 1 + w, ys, tb)], _, _, _, _, ?_, ⟨?_, ?_, ?_⟩, ?_, ?_, ?_, rfl⟩
   ·rw [upd_same, known_snoc, List.map_append]
    rfl
   ·rw [upd_ne nkl.symm, a7, List.map_append]
    rfl
   ·rw [List.length_append, List.length_append, hll]
    rfl
   ·intro j t p' ht hp'
    rcases Nat.lt_or_ge j ts.length with l | l
    ·rw [List.getElem?_append_left l] at ht
     rw [List.getElem?_append_left (by omega)] at hp'
     obtain ⟨g1, g2⟩ := hL6.at_ j t p' ht hp'
     have nt := hts t (List.mem_of_getElem? ht)
     have n1' : t.1 ≠ kp := ne_of g1 hk6 (fun z => nomatch z)
     have n2' : t.1 ≠ lp := ne_of g1 hL6.lst (fun z => nomatch z)
     exact ⟨by rw [upd_ne n1']; exact u7 _ _ n2' g1, by rw [upd_ne nt.1]; exact u7 _ _ nt.2 g2⟩
    ·have hj : j < ts.length + 1 := by have := (List.getElem?_eq_some_iff.mp ht).1; rwa [List.length_append] at this
     have : j = ts.length := by omega
     subst this
     rw [List.getElem?_append_right (Nat.le_refl _), Nat.sub_self] at ht
     rw [hll, List.getElem?_append_right (Nat.le_refl _), Nat.sub_self] at hp'
     have et : (t6, c5) = t := by simpa using ht
     have ep : (topK m ps + 1 + w, ys, tb) = p' := by simpa using hp'
     subst et ep
     exact ⟨by rw [upd_ne nt1]; exact u7 _ _ nt2 n6.at_, by rw [upd_ne nc1]; exact u7 _ _ nc2 hy6⟩
   ·intro t ht
    rcases List.mem_append.mp ht with z | z
    ·exact hts t z
    ·rw [List.mem_singleton] at z
     subst z
     exact ⟨nc1, nc2⟩
   ·exact wp.snoc ⟨by show topK m ps < topK m ps + 1 + w; omega, by show topK m ps + 1 + w ≤ 999; omega, y1, y6, yr, yk, tb0, tb1⟩
   ·rw [List.length_append]
    simp only [List.length_cons, List.length_nil]
    omega
  ·rintro σ H3 ⟨s3, ts, ps, v4, v5, v6, v7, hk3, hL, hts, wp, hpl, rfl⟩
   walk_at "gs"
   exact q lp ts ps H3 hlp s3 hL wp (by omega)
def sp_law_ties (_ : PySem.W.Frag) : Sp := fun vs H Q _ => ∃ (c : Int) (m : Nat) (l : Addr) (ts : List (Addr × Addr)) (ps : List Pc), vs = [.int c, .int m, .ref l] ∧ PLst H l ts ps ∧ WP m ps ∧ m ≤ 10 ∧ ps.length ≤ 100 ∧
 ∀ q H' (ties : List Int), Mad H q (.lst (ties.map V.int)) H' → WT m ps ties → Q (.ref q) H'
def rd_law_ties (K : PySem.W.Frag) : TS := (tSeq (tAsg (tOp cAdd (cListRange (tCons (tOp cAdd (cVar 1) (tC (.int 1))) tNil)) (tComp (iList K (cVar 2)) 1 [] (gName 0) tTrue (tOp (cIx K) (cVar 0) (tC (.int 0))))) (gName 3))
  (tSeq (tAsg (tLst tNil) (gName 4))
  (tSeq (tFor (iRng1 (tCons (tOp cAdd (tC (.int 1)) (tOp (cI2c (fun _ j => 0 < j) fun i j => .int (i % j)) (cVar 0) (tC (.int 12)))) tNil)) (gName 5) (tSeq (tAsg (tOp (cI2c (fun _ j => 0 ≤ j) fun i j => .int (i / 2 ^ j.toNat)) (tOp (cI2c CDiv fun i j => .int (i / j)) (cVar 0) (tC (.int 12))) (tOp cMul (tC (.int 9)) (cVar 5))) (gName 6))
  (tSeq (tAsg (tOp (cI2 fun i j => .int (i - j)) (tOp (cI2 fun i j => .int (i - j)) (tCB (cLen K) (tCons (cVar 3) tNil)) (tC (.int 1))) (tOp (cI2c (fun _ j => 0 < j) fun i j => .int (i % j)) (tOp (cI2c CDiv fun i j => .int (i / j)) (cVar 6) (tC (.int 4))) (tCB cMin (tCons (tCB (cLen K) (tCons (cVar 3) tNil)) (tCons (tC (.int 6)) tNil))))) (gName 7))
  (tMid (tIfS (cTst (tOp (cEq K) (tOp (cI2c (fun _ j => 0 < j) fun i j => .int (i % j)) (cVar 6) (tC (.int 2))) (tC (.int 1)))) (tAsg (tOp (cI2c (fun _ j => 0 < j) fun i j => .int (i % j)) (tOp (cI2c CDiv fun i j => .int (i / j)) (cVar 6) (tC (.int 4))) (tCB (cLen K) (tCons (cVar 3) tNil))) (gName 7)) tNext)
  (tDrop (tBM K "list" rAppend (cVar 4) (tCons (tOp cAdd (tOp cMul (tC (.int 2)) (tOp (cIx K) (cVar 3) (cVar 7))) (tOp (cI2c (fun _ j => 0 < j) fun i j => .int (i % j)) (tOp (cI2c CDiv fun i j => .int (i / j)) (cVar 6) (tC (.int 2))) (tC (.int 2)))) tNil)))))))
  (tRet (cVar 4)))))
theorem tm_law_ties (T : Txt K mg a) {cdv : Value} {A : Around} {outer : List Env} {s : Shared} {H : Hp} {E : XK} (hr : Room 0 (A.deeper (envOfC "_law_ties" (defScope s_law_ties) s.heap.objs.size a.f_law_ties cdv))) :
  PSs (cxOf CX0 P w K mg base N_law_ties "_law_ties" (defScope s_law_ties) a.f_law_ties cdv A outer s H E).nox (defBody s_law_ties) (rd_law_ties K) :=
 (pss_cons (ps_set (i := 3) sc_law_ties.nd rfl (by walk_at "o") (pe_op o_add (e_listrange rfl rfl rfl T.no_list T.no_range (pa_cons (pe_op o_add (cv 1) pe_int) pa_nil)) (pe_comp (N := ["_law_piece"]) (k := 1) (sel := []) (CScope.of (defScope s_law_ties).names (by decide +kernel)) (CNames.of N_law_ties (by decide +kernel)) rfl (pi_list (cv 2)) (fun _ _ _ _ => (pg_name (i := 0) (show List.Nodup (["_law_piece"] : List Str) by decide +kernel) rfl (by walk_at "o"))) (fun _ _ _ _ => pts_nil) (fun _ _ _ _ => (pe_ix i_seq (cv 0) pe_int (fun _ _ => rfl))))))
   (pss_cons (ps_set (i := 4) sc_law_ties.nd rfl (by walk_at "o") (pe_lst pa_nil))
   (pss_cons (ps_for PassesOwn.never rfl (pi_range1 rfl T.no_range (pa_cons (pe_op o_add pe_int (pe_op o_mod (cv 0) pe_int)) pa_nil)) (pg_name (i := 5) sc_law_ties.nd rfl (by walk_at "o")) (pss_cons (ps_set (i := 6) sc_law_ties.nd rfl (by walk_at "o") (pe_op o_shr (pe_op o_fdiv (cv 0) pe_int) (pe_op o_mul pe_int (cv 5))))
   (pss_cons (ps_set (i := 7) sc_law_ties.nd rfl (by walk_at "o") (pe_op o_sub (pe_op o_sub (pe_callB c_len (by rfl) T.no_len PySem.boot_len (pa_cons (cv 3) pa_nil)) pe_int) (pe_op o_mod (pe_op o_fdiv (cv 6) pe_int) (pe_callB (c_min rfl) (by rfl) T.no_min PyProof.Rows.boot_min (pa_cons (pe_callB c_len (by rfl) T.no_len PySem.boot_len (pa_cons (cv 3) pa_nil)) (pa_cons pe_int pa_nil))))))
   (pss_mid (ps_if (t_cmp (o_eq (hr8 hr)) (pe_op o_mod (cv 6) pe_int) pe_int (nomark _)) (pss_one (ps_set (i := 7) sc_law_ties.nd rfl (by walk_at "o") (pe_op o_mod (pe_op o_fdiv (cv 6) pe_int) (pe_callB c_len (by rfl) T.no_len PySem.boot_len (pa_cons (cv 3) pa_nil))))) pss_nil)
   (pss_one (ps_expr (pe_bm PySem.F.plainAttrs_list PySem.F.slot_list_append PySem.F.type_list_append (mtr mt_append) (cv 4) (pa_cons (pe_op o_add (pe_op o_mul pe_int (pe_ix i_seq (cv 3) (cv 7) (fun _ _ => rfl))) (pe_op o_mod (pe_op o_fdiv (cv 6) pe_int) pe_int)) pa_nil))))))))
   (pss_one (ps_ret (cv 4))))))
theorem ok_law_ties (T : Txt K mg a) : FnOk P w K mg base CX0 1 a.f_law_ties a.d_law_ties ["_law_cell", "_law_many", "_law_pieces_here"] (sp_law_ties K) := by
 refine T.fn_law_ties.ok sc_law_ties (fun vs H Q E h => ?_) (fun cdv A outer s H vs Q E hr h => ⟨_, tm_law_ties T hr, ?_⟩)
 ·obtain ⟨c, m, l, ts, ps, rfl, _⟩ := h; rfl
 ·obtain ⟨c, m, l, ts, ps, rfl, hP, wp, m10, hz, q⟩ := h
  show rd_law_ties K _ [some (.int c), some (.int m), some (.ref l), none, none, none, none, none] H
  unfold rd_law_ties
  have big : (20000 : Nat) ≤ sizeLine := by decide
  have htl := hP.len
  walk_at "gs"
  intro r1 H1 n1
  have e1 : ((List.range ((m : Int) + 1).toNat).map fun i : Nat => V.int (i : Int)) = ((List.range (m + 1)).map fun i : Nat => (i : Int)).map V.int := by
   rw [List.map_map, show ((m : Int) + 1).toNat = m + 1 by omega]
   rfl
  rw [e1] at n1
  have hP1 := hP.same n1.same
  walk_at "gs"
  refine ⟨⟨_, .of hP1.lst⟩, fun cp hcp => comp_gen (n := (ts.map fun t => V.ref t.1).length) (item := fun i => (ts.map fun t => V.ref t.1).getD i .non) (fun σ => ∃ v0, σ = [v0]) (fun i H3 => Same H1 H3 ∧ H3 cp = some (.lst (((ps.take i).map (·.1)).map V.int))) ⟨_, rfl⟩ ⟨same_upd hcp, upd_same⟩ (src_list (xs := ts.map fun t => V.ref t.1) ?_) ?_ ?_ ?_⟩
  ·rintro i H3 _ ⟨s3, _⟩
   exact .of (s3 _ _ hP1.lst)
  ·rintro H3 ⟨s3, _⟩
   exact ⟨_, .of (s3 _ _ hP1.lst), Nat.le_refl _⟩
  ·rintro i σ3 H3 R hi ⟨v0, rfl⟩ ⟨s3, h3⟩ hR
   have hit : i < ts.length := by rwa [List.length_map] at hi
   obtain ⟨p, hp, hpt, hpc⟩ := (hP1.same s3).get hit
   rw [ref_at ts hit]
   generalize (ts[i]).1 = t1 at *
   walk_at "gs"
   refine ⟨_, _, .inr (.of hpt), rfl, _, h3, by rw [List.length_map, List.length_map, List.length_take]; omega, hR _ _ ⟨_, rfl⟩ ⟨s3.put hcp, ?_⟩⟩
   rw [upd_same, take_snoc hp, List.map_append, List.map_append]
   rfl
  rintro H3 ⟨s3, h3⟩
  rw [List.length_map, htl, List.take_length] at h3
  walk_at "gs"
  refine ⟨_, _, s3 _ _ n1.at_, h3, by rw [List.length_map, List.length_map, List.length_map, List.length_map, List.length_range]; omega, fun kp hkp => ?_⟩
  rw [← List.map_append]
  have hkm : ∀ x ∈ (List.range (m + 1)).map (fun i : Nat => (i : Int)) ++ ps.map (·.1), 0 ≤ x ∧ (x = 0 ∨ x ∈ known m ps) := by
   intro x hx
   unfold known
   rcases List.mem_append.mp hx with z | z
   ·obtain ⟨i, hi, rfl⟩ := List.mem_map.mp z
    have := List.mem_range.mp hi
    refine ⟨by omega, ?_⟩
    by_cases e : i = 0
    ·left; omega
    ·right
     exact List.mem_append_left _ (List.mem_map.mpr ⟨i - 1, List.mem_range.mpr (by omega), by omega⟩)
   ·obtain ⟨p, hp, rfl⟩ := List.mem_map.mp z
    obtain ⟨j, hj⟩ := List.mem_iff_getElem?.mp hp
    have := wp.kb hj
    exact ⟨by omega, .inr (List.mem_append_right _ z)⟩
  have hkl : ((List.range (m + 1)).map (fun i : Nat => (i : Int)) ++ ps.map (·.1)).length = m + 1 + ps.length := by rw [List.length_append, List.length_map, List.length_map, List.length_range]
  have s4 : Same H (upd H3 kp (.lst (((List.range (m + 1)).map (fun i : Nat => (i : Int)) ++ ps.map (·.1)).map V.int))) := (n1.same.trans s3).trans (same_upd hkp)
  have a4 : upd H3 kp (.lst (((List.range (m + 1)).map (fun i : Nat => (i : Int)) ++ ps.map (·.1)).map V.int)) kp = some (.lst (((List.range (m + 1)).map (fun i : Nat => (i : Int)) ++ ps.map (·.1)).map V.int)) := upd_same
  generalize upd H3 kp (.lst (((List.range (m + 1)).map (fun i : Nat => (i : Int)) ++ ps.map (·.1)).map V.int)) = H4 at s4 a4 ⊢
  generalize (List.range (m + 1)).map (fun i : Nat => (i : Int)) ++ ps.map (·.1) = ks at hkm hkl a4
  walk_at "gs"
  intro tp H5 n5
  have htp : H tp = none := s4.nil n5.was
  have ntk : kp ≠ tp := ne_of_none a4 n5.was
  walk_at "gs"
  obtain ⟨N, hN, hN6⟩ : ∃ N : Nat, (1 + c % 12).toNat = N + 1 ∧ N ≤ 11 := ⟨(c % 12).toNat, by omega, by omega⟩
  rw [hN]
  refine for_rngG (fun i σ H6 => Same H H6 ∧ H6 kp = some (.lst (ks.map V.int)) ∧ ∃ (ties : List Int) (v5 v6 v7 : Option V), H6 tp = some (.lst (ties.map V.int)) ∧ ties.length = i ∧ (∀ t ∈ ties, 0 ≤ t ∧ (t / 2 = 0 ∨ t / 2 ∈ known m ps)) ∧ σ = [some (.int c), some (.int m), some (.ref l), some (.ref kp), some (.ref tp), v5, v6, v7]) ⟨s4.trans n5.same, n5.same _ _ a4, [], _, _, _, n5.at_, rfl, fun t ht => by simp at ht, rfl⟩ ?_ ?_
  ·rintro i σ H6 hi ⟨s6, k6, ties, v5, v6, v7, t6, tl, tm, rfl⟩
   walk_at "gs"
   generalize c / 12 / 2 ^ (9 * (0 + (i : Int))).toNat = one
   refine .inl ⟨_, .inl (.of k6), ?_⟩
   rw [List.length_map, hkl]
   walk_at "gs"
   refine .inl ⟨_, .inl (.of k6), ?_⟩
   rw [List.length_map, hkl]
   have gM : 1 ≤ (if (6 : Int) < ((m + 1 + ps.length : Nat) : Int) then (6 : Int) else ((m + 1 + ps.length : Nat) : Int)) ∧ (if (6 : Int) < ((m + 1 + ps.length : Nat) : Int) then (6 : Int) else ((m + 1 + ps.length : Nat) : Int)) ≤ ((m + 1 + ps.length : Nat) : Int) := by split <;> omega
   generalize hM : (if (6 : Int) < ((m + 1 + ps.length : Nat) : Int) then (6 : Int) else ((m + 1 + ps.length : Nat) : Int)) = M at gM
   have z1 := Int.emod_nonneg (one / 4) (show M ≠ 0 by omega)
   have z2 := Int.emod_lt_of_pos (one / 4) (show 0 < M by omega)
   walk_at "gs"
   refine mid (fun σ' H' => H' = H6 ∧ ∃ g : Int, 0 ≤ g ∧ g < ((m + 1 + ps.length : Nat) : Int) ∧ σ' = [some (.int c), some (.int m), some (.ref l), some (.ref kp), some (.ref tp), some (.int (0 + (i : Int))), some (.int one), some (.int g)]) ?_ ?_
   ·intro N' hN'
    walk_at "gs"
    by_cases g : one % 2 = 1
    ·rw [if_pos g]
     walk_at "gs"
     refine .inl ⟨_, .inl (.of k6), ?_⟩
     rw [List.length_map, hkl]
     have y1 := Int.emod_nonneg (one / 4) (show ((m + 1 + ps.length : Nat) : Int) ≠ 0 by omega)
     have y2 := Int.emod_lt_of_pos (one / 4) (show 0 < ((m + 1 + ps.length : Nat) : Int) by omega)
     walk_at "gs"
     exact hN' _ _ ⟨rfl, _, y1, y2, rfl⟩
    ·rw [if_neg g]
     exact hN' _ _ ⟨rfl, _, by omega, by omega, rfl⟩
   rintro σ7 H7 ⟨rfl, g, g0, g1, rfl⟩
   obtain ⟨x, hx, hax⟩ := at_ints (ks := ks) g0 (by rw [hkl]; exact g1)
   have hxb := hkm x hx
   walk_at "gs"
   refine ⟨.inl ⟨by trivial, _, .of t6⟩, ?_⟩
   walk_at "gs"
   refine ⟨_, _, .inl (.of k6), hax, ?_⟩
   walk_at "gs"
   refine ⟨tp, _, _, rfl, rfl, t6, by rw [List.length_map]; omega, s6.put htp, by rw [upd_ne ntk]; exact k6, ties ++ [2 * x + one / 2 % 2], _, _, _, by rw [upd_same, List.map_append]; rfl, by rw [List.length_append, tl]; rfl, fun t ht => ?_, rfl⟩
   rcases List.mem_append.mp ht with z | z
   ·exact tm t z
   ·rw [List.mem_singleton] at z
    subst z
    have e : (2 * x + one / 2 % 2) / 2 = x := by omega
    rw [e]
    exact ⟨by omega, hxb.2⟩
  ·rintro σ H6 ⟨s6, k6, ties, v5, v6, v7, t6, tl, tm, rfl⟩
   walk_at "gs"
   exact q tp H6 ties ⟨htp, t6, s6⟩ ⟨by omega, by omega, tm⟩
theorem blank_of : (" of " : Str) = " " ++ ("of" : Str) ++ " " := by decide +kernel
theorem blank_is : (" is " : Str) = " " ++ ("is" : Str) ++ " " := by decide +kernel
theorem blank_out : ("out " : Str) = ("out" : Str) ++ " " := by decide +kernel
theorem blank_board : ("board " : Str) = ("board" : Str) ++ " " := by decide +kernel
theorem board_eq (s : Str) : ("board " : Str) ++ s = jn ["board", s] := by
 rw [blank_board]
 rfl
theorem out_eq {L : List Str} (h : L ≠ []) : ("out " : Str) ++ jn L = jn (("out" : Str) :: L) := by
 cases L with
 | nil => exact absurd rfl h
 | cons x r =>
  unfold jn
  rw [join_cons, join_cons, blank_out]
  show _ = jf " " (("out" : Str) ++ " " ++ x) r
  rw [jf_app]
theorem line_eq {L : List Str} (h : L ≠ []) (sk tt : Str) : sk ++ " of " ++ jn L ++ " is " ++ tt = jn (sk :: "of" :: (L ++ [("is" : Str), tt])) := by
 cases L with
 | nil => exact absurd rfl h
 | cons x r =>
  unfold jn
  rw [join_cons, join_cons]
  have e : jf " " sk ("of" :: (x :: r ++ [("is" : Str), tt])) = jf " " (sk ++ " " ++ ("of" : Str) ++ " " ++ x) r ++ " " ++ ("is" : Str) ++ " " ++ tt := by
   unfold jf
   rw [List.cons_append, List.foldl_cons, List.foldl_cons, List.foldl_append]
   rfl
  rw [e, jf_app, blank_of, blank_is]
  simp only [app_assoc]
def lawTab (t : Int) (n : Nat) : Str := (tabL t n).foldl (fun (a y : Str) => a ++ y) ("" : Str)
theorem lawTab_succ (t : Int) (n : Nat) : lawTab t (n + 1) = lawTab t n ++ sN (bitN t n) := by
 unfold lawTab tabL
 rw [List.range_succ, List.map_append, List.foldl_append]
 rfl
theorem lawTab_len (t : Int) (n : Nat) : (lawTab t n).length ≤ 4 * n := by
 have := fold_len (tabL t n) "" (tabL_b t n)
 rw [tabL_len] at this
 have h3 : Str.length "" = 0 := by decide +kernel
 unfold lawTab
 omega
def sp_law_lines (_ : PySem.W.Frag) : Sp := fun vs H Q _ => ∃ (m : Nat) (l tp : Addr) (ts : List (Addr × Addr)) (ps : List Pc) (ties : List Int), vs = [.int m, .ref l, .ref tp] ∧ PLst H l ts ps ∧ H tp = some (.lst (ties.map V.int)) ∧ WP m ps ∧ WT m ps ties ∧ m ≤ 10 ∧ ps.length ≤ 100 ∧ ∀ q H', Mad H q (.lst ((linesB m ps ties).map V.str)) H' → Q (.ref q) H'
def rd_law_lines (K : PySem.W.Frag) : TS := (tSeq (tAsg (tLst (tCons (tOp cAdd (tC (.str "board ")) (tCB cStr (tCons (cVar 0) tNil))) tNil)) (gName 3))
  (tSeq (tFor (iList K (cVar 1)) (gTup K 3 (gCons (gName 4) (gCons (gName 5) (gCons (gName 6) gNil)))) (tSeq (tAsg (tC (.str "")) (gName 7))
  (tSeq (tFor (iRng1 (tCons (tOp (cI2c CPow fun i j => .int (i * 2 ^ j.toNat)) (tC (.int 1)) (tCB (cLen K) (tCons (cVar 5) tNil))) tNil)) (gName 8) (tAsg (tOp cAdd (cVar 7) (tCB cStr (tCons (tOp (cI2c (fun _ j => 0 < j) fun i j => .int (i % j)) (tOp (cI2c CDivB fun i j => .int (i / j)) (cVar 6) (tOp (cI2c CPow fun i j => .int (i * 2 ^ j.toNat)) (tC (.int 1)) (cVar 8))) (tC (.int 2))) tNil))) (gName 7)))
  (tDrop (tBM K "list" rAppend (cVar 3) (tCons (tOp cAdd (tOp cAdd (tOp cAdd (tOp cAdd (tCB cStr (tCons (cVar 4) tNil)) (tC (.str " of "))) (tBM K "str" (rJoin K) (tC (.str " ")) (tCons (tComp (iList K (cVar 5)) 1 [] (gName 0) tTrue (tCB cStr (tCons (cVar 0) tNil))) tNil))) (tC (.str " is "))) (cVar 7)) tNil))))))
  (tSeq (tDrop (tBM K "list" rAppend (cVar 3) (tCons (tOp cAdd (tC (.str "out ")) (tBM K "str" (rJoin K) (tC (.str " ")) (tCons (tComp (iList K (cVar 2)) 1 [] (gName 0) tTrue (tOp cAdd (tOp (cIx K) (tLst (tVals [(.str ""), (.str "-")])) (tOp (cI2c (fun _ j => 0 < j) fun i j => .int (i % j)) (cVar 0) (tC (.int 2)))) (tCB cStr (tCons (tOp (cI2c CDivB fun i j => .int (i / j)) (cVar 0) (tC (.int 2))) tNil)))) tNil))) tNil)))
  (tRet (cVar 3)))))
theorem tm_law_lines (T : Txt K mg a) {cdv : Value} {A : Around} {outer : List Env} {s : Shared} {H : Hp} {E : XK} (hr : Room 0 (A.deeper (envOfC "_law_lines" (defScope s_law_lines) s.heap.objs.size a.f_law_lines cdv))) :
  PSs (cxOf CX0 P w K mg base N_law_lines "_law_lines" (defScope s_law_lines) a.f_law_lines cdv A outer s H E).nox (defBody s_law_lines) (rd_law_lines K) :=
 (pss_cons (ps_set (i := 3) sc_law_lines.nd rfl (by walk_at "o") (pe_lst (pa_cons (pe_op o_add pe_str (pe_callTy c_str (by rfl) T.no_str PyProof.Rows.boot_str (pa_cons (cv 0) pa_nil))) pa_nil)))
   (pss_cons (ps_for PassesOwn.never rfl (pi_list (cv 1)) (pg_tup rfl (pgs_cons (pg_name (i := 4) sc_law_lines.nd rfl (by walk_at "o")) (pgs_cons (pg_name (i := 5) sc_law_lines.nd rfl (by walk_at "o")) (pgs_cons (pg_name (i := 6) sc_law_lines.nd rfl (by walk_at "o")) pgs_nil)))) (pss_cons (ps_set (i := 7) sc_law_lines.nd rfl (by walk_at "o") pe_str)
   (pss_cons (ps_for PassesOwn.never rfl (pi_range1 rfl T.no_range (pa_cons (pe_op o_shl pe_int (pe_callB c_len (by rfl) T.no_len PySem.boot_len (pa_cons (cv 5) pa_nil))) pa_nil)) (pg_name (i := 8) sc_law_lines.nd rfl (by walk_at "o")) (pss_one (ps_set (i := 7) sc_law_lines.nd rfl (by walk_at "o") (pe_op o_add (cv 7) (pe_callTy c_str (by rfl) T.no_str PyProof.Rows.boot_str (pa_cons (pe_op o_mod (pe_op o_fdivB (cv 6) (pe_op o_shl pe_int (cv 8))) pe_int) pa_nil))))))
   (pss_one (ps_expr (pe_bm PySem.F.plainAttrs_list PySem.F.slot_list_append PySem.F.type_list_append (mtr mt_append) (cv 3) (pa_cons (pe_op o_add (pe_op o_add (pe_op o_add (pe_op o_add (pe_callTy c_str (by rfl) T.no_str PyProof.Rows.boot_str (pa_cons (cv 4) pa_nil)) pe_str) (pe_bm PySem.F.plainAttrs_str PySem.F.slot_str_join PySem.F.type_str_join mt_join pe_str (pa_cons (pe_comp (N := ["_law_k"]) (k := 1) (sel := []) (CScope.of (defScope s_law_lines).names (by decide +kernel)) (CNames.of N_law_lines (by decide +kernel)) rfl (pi_list (cv 5)) (fun _ _ _ _ => (pg_name (i := 0) (show List.Nodup (["_law_k"] : List Str) by decide +kernel) rfl (by walk_at "o"))) (fun _ _ _ _ => pts_nil) (fun _ _ _ _ => (pe_callTy c_str (by rfl) T.no_str PyProof.Rows.boot_str (pa_cons (cv 0) pa_nil)))) pa_nil))) pe_str) (cv 7)) pa_nil)))))))
   (pss_cons (ps_expr (pe_bm PySem.F.plainAttrs_list PySem.F.slot_list_append PySem.F.type_list_append (mtr mt_append) (cv 3) (pa_cons (pe_op o_add pe_str (pe_bm PySem.F.plainAttrs_str PySem.F.slot_str_join PySem.F.type_str_join mt_join pe_str (pa_cons (pe_comp (N := ["_law_tie"]) (k := 1) (sel := []) (CScope.of (defScope s_law_lines).names (by decide +kernel)) (CNames.of N_law_lines (by decide +kernel)) rfl (pi_list (cv 2)) (fun _ _ _ _ => (pg_name (i := 0) (show List.Nodup (["_law_tie"] : List Str) by decide +kernel) rfl (by walk_at "o"))) (fun _ _ _ _ => pts_nil) (fun _ _ _ _ => (pe_op o_add (pe_ix i_seq (pe_lst (pa_consts (vs := [(.str ""), (.str "-")]) rfl)) (pe_op o_mod (cv 0) pe_int) (fun _ _ => rfl)) (pe_callTy c_str (by rfl) T.no_str PyProof.Rows.boot_str (pa_cons (pe_op o_fdivB (cv 0) pe_int) pa_nil))))) pa_nil))) pa_nil)))
   (pss_one (ps_ret (cv 3))))))
theorem ok_law_lines (T : Txt K mg a) : FnOk P w K mg base CX0 1 a.f_law_lines a.d_law_lines ["_law_many", "_law_pieces_here", "_law_ties_here"] (sp_law_lines K) := by
 refine T.fn_law_lines.ok sc_law_lines (fun vs H Q E h => ?_) (fun cdv A outer s H vs Q E hr h => ⟨_, tm_law_lines T hr, ?_⟩)
 ·obtain ⟨m, l, tp, ts, ps, ties, rfl, _⟩ := h; rfl
 ·obtain ⟨m, l, tp, ts, ps, ties, rfl, hP, hT, wp, wt, m10, hz, q⟩ := h
  show rd_law_lines K _ [some (.int m), some (.ref l), some (.ref tp), none, none, none, none, none, none] H
  unfold rd_law_lines
  have big : (20000 : Nat) ≤ sizeLine := by decide
  have hsp : Str.length " " ≤ 16 := by decide +kernel
  have l1 : Str.length "board " = 6 := by decide +kernel
  have l2 : Str.length " of " = 4 := by decide +kernel
  have l3 : Str.length " is " = 4 := by decide +kernel
  have l4 : Str.length "out " = 4 := by decide +kernel
  have hlh := wt.lh
  have hl1 := wt.l1
  have htl := hP.len
  have hmm := sN_len (i := (m : Int)) (by omega) (by omega)
  have hml := log_small (i := (m : Int)) (by omega) (by omega)
  walk_at "gs"
  refine ⟨by show Str.length "board " + (sN (m : Int)).length ≤ _; omega, by show 1 ≤ sizeLine; decide, fun pl H2 n2 => ?_⟩
  have n2' : New H pl (.lst ([jn ["board", sN m]].map V.str)) H2 := by
   have e : (("board " : Str) ++ (toString (m : Int) : Str)) = jn ["board", sN m] := board_eq _
   rw [e] at n2
   exact n2
  clear n2
  walk_at "gs"
  refine ⟨⟨_, .of (n2'.same _ _ hP.lst)⟩, for_listG (xs := ts.map fun t => V.ref t.1) (fun i σ H4 => Same H H4 ∧ H4 pl = some (.lst ((jn ["board", sN m] :: (ps.take i).map lineP).map V.str)) ∧ ∃ v4 v5 v6 v7 v8, σ = [some (.int m), some (.ref l), some (.ref tp), some (.ref pl), v4, v5, v6, v7, v8]) ⟨n2'.same, n2'.at_, _, _, _, _, _, rfl⟩ ?_ ?_ ?_⟩
  ·rintro i σ H4 _ ⟨s4, _⟩
   exact .of (s4 _ _ hP.lst)
  ·rintro i v σ H4 hv ⟨s4, hp4, v4, v5, v6, v7, v8, rfl⟩
   have hi : i < ts.length := by have := (List.getElem?_eq_some_iff.mp hv).1; rwa [List.length_map] at this
   rw [List.getElem?_map, List.getElem?_eq_getElem hi] at hv
   have ev : V.ref (ts[i]).1 = v := Option.some.inj hv
   subst ev
   clear hv
   obtain ⟨p, hp, hpt, hpc⟩ := (hP.same s4).get hi
   have hkb := wp.kb hp
   have hnb := nums_b wp m10 hp
   have w1 := wp i p hp
   have wl6 := w1.l6
   have wl1 := w1.l1
   have wt0 := w1.t0
   generalize (ts[i]).1 = t1 at *
   generalize (ts[i]).2 = t2 at *
   have h2 : (2 : Nat) ^ p.2.1.length ≤ 2 ^ 6 := Nat.pow_le_pow_right (by decide) wl6
   have h20 : 0 < (2 : Nat) ^ p.2.1.length := Nat.pow_pos (by decide)
   have ec : (1 * 2 ^ ((p.2.1.length : Int)).toNat : Int) = ((2 ^ p.2.1.length : Nat) : Int) := by simp
   walk_at "gs"
   refine ⟨t1, _, rfl, .of hpt, rfl, _, _, rfl, _, _, rfl, _, _, rfl, rfl, ?_⟩
   walk_at "gs"
   refine .inl ⟨_, .inl (.of hpc), ?_⟩
   rw [List.length_map]
   walk_at "gs"
   rw [ec]
   walk_at "gs"
   rw [Int.toNat_natCast]
   refine for_rngG (fun k σ H5 => H5 = H4 ∧ ∃ v8, σ = [some (.int m), some (.ref l), some (.ref tp), some (.ref pl), some (.int p.1), some (.ref t2), some (.int p.2.2), some (.str (lawTab p.2.2 k)), v8]) ⟨rfl, _, rfl⟩ ?_ ?_
   ·rintro k σ H5 hk ⟨rfl, v8, rfl⟩
    rw [show (0 : Int) + (k : Int) = (k : Int) by omega]
    have hk64 : k < 64 := by omega
    have e2 : (1 * 2 ^ ((k : Int)).toNat : Int) = ((2 ^ k : Nat) : Int) := by simp
    have hkp : (0 : Int) < ((2 ^ k : Nat) : Int) := by
     have : 0 < 2 ^ k := Nat.pow_pos (by decide)
     exact_mod_cast this
    have hb := bit01 p.2.2 k
    have hbl := sN_len (i := bitN p.2.2 k) (by omega) (by omega)
    have hll := lawTab_len p.2.2 k
    have ebit : p.2.2 / ((2 ^ k : Nat) : Int) % 2 = bitN p.2.2 k := by
     unfold bitN
     obtain ⟨tn, hn⟩ := Int.eq_ofNat_of_zero_le wt0
     rw [hn, Int.toNat_natCast]
     simp
    have cd : CDivB p.2.2 ((2 ^ k : Nat) : Int) := by
     refine ⟨hkp, ?_⟩
     rw [Int.natAbs_natCast, Nat.log2_two_pow]
     omega
    walk_at "gs"
    rw [e2]
    refine ⟨cd, by decide, ?_⟩
    rw [ebit]
    refine ⟨log_small (by omega) (by omega), by show (lawTab p.2.2 k).length + (sN (bitN p.2.2 k)).length ≤ _; omega, by trivial, some (.int (k : Int)), ?_⟩
    rw [lawTab_succ]
    rfl
   ·rintro σ H5 ⟨rfl, v8, rfl⟩
    have htabl : (lawTab p.2.2 (2 ^ p.2.1.length)).length ≤ 256 := by
     have := lawTab_len p.2.2 (2 ^ p.2.1.length)
     omega
    have hks := sN_len (i := p.1) (by omega) (by omega)
    have hkl := log_small (i := p.1) (by omega) (by omega)
    walk_at "gs"
    refine ⟨.inl ⟨by trivial, _, .of hp4⟩, ?_⟩
    walk_at "gs"
    refine ⟨by show (sN p.1).length + Str.length " of " ≤ _; omega, by trivial, ⟨_, .of hpc⟩, compG_list (fun v => match v with | .int x => .str (sN x) | v => v) (.of hpc) rfl (by rw [List.length_map]; omega) ?_ ?_⟩
    ·intro v H' Q' hv s' q'
     obtain ⟨y, hy, rfl⟩ := List.mem_map.mp hv
     have hyb := hnb y hy
     walk_at "gs"
     exact ⟨log_small (by omega) (by omega), q'⟩
    intro np H6 n6
    have e6 : (p.2.1.map V.int).map (fun v => match v with | .int x => V.str (sN x) | v => v) = (p.2.1.map sN).map V.str := by rw [List.map_map, List.map_map]; rfl
    rw [e6] at n6
    have hwn : ∀ y ∈ p.2.1.map sN, y.length ≤ 4 := fun y hy => by
     obtain ⟨x, hx, rfl⟩ := List.mem_map.mp hy
     have := hnb x hx
     exact sN_len (by omega) (by omega)
    have hjl : (jn (p.2.1.map sN)).length ≤ 40 := by
     unfold jn
     cases hL : p.2.1.map sN with
     | nil => show Str.length "" ≤ 40; decide +kernel
     | cons x r =>
      rw [join_cons]
      rw [hL] at hwn
      have h1 := jf_len (k := 4) r x fun y hy => hwn y (List.mem_cons_of_mem _ hy)
      have h2 := hwn x (List.mem_cons_self ..)
      have h3 : r.length + 1 = p.2.1.length := by have := congrArg List.length hL; rw [List.length_map] at this; simpa using this.symm
      omega
    walk_at "gs"
    refine ⟨_, n6.sq, wt_ok hwn (by rw [List.length_map]; omega) (by omega), hsp, ?_⟩
    have hne : p.2.1.map sN ≠ [] := fun e => by have := congrArg List.length e; rw [List.length_map] at this; simp at this; rw [this] at wl1; simp at wl1
    have eline : sN p.1 ++ (" of " : Str) ++ jn (p.2.1.map sN) ++ (" is " : Str) ++ lawTab p.2.2 (2 ^ p.2.1.length) = lineP p := by
     rw [line_eq hne]
     unfold lineP tabS
     rw [joinE]
     rfl
    refine ⟨?_, ?_, ?_, ?_⟩
    ·show (sN p.1 ++ (" of " : Str)).length + (jn (p.2.1.map sN)).length ≤ _
     rw [PySem.Str.length_append]
     omega
    ·show (sN p.1 ++ (" of " : Str) ++ jn (p.2.1.map sN)).length + Str.length " is " ≤ _
     rw [PySem.Str.length_append, PySem.Str.length_append]
     omega
    ·show (sN p.1 ++ (" of " : Str) ++ jn (p.2.1.map sN) ++ (" is " : Str)).length + (lawTab p.2.2 (2 ^ p.2.1.length)).length ≤ _
     rw [PySem.Str.length_append, PySem.Str.length_append, PySem.Str.length_append]
     omega
    refine ⟨pl, _, _, rfl, rfl, n6.same _ _ hp4, by simp only [List.length_map, List.length_cons, List.length_take]; omega, (s4.trans n6.same).put n2'.was, ?_, _, _, _, _, _, rfl⟩
    rw [upd_same, take_snoc hp, List.map_append, List.map_cons, List.map_cons, List.map_append, show List.map V.str (List.map lineP [p]) = [V.str (lineP p)] from rfl, ← eline]
    rfl
  ·rintro σ H4 ⟨s4, hp4, v4, v5, v6, v7, v8, rfl⟩
   rw [List.length_map, htl, List.take_length] at hp4
   have hT4 := s4 _ _ hT
   walk_at "gs"
   refine ⟨.inl ⟨by trivial, _, .of hp4⟩, by trivial, ⟨_, .of hT4⟩, ?_⟩
   refine fun l7 hl7 => comp_gen (n := (ties.map V.int).length) (item := fun i => (ties.map V.int).getD i .non) (fun σ => ∃ v0, σ = [v0]) (fun i H5 => Same H4 H5 ∧ H5 l7 = some (.lst (((ties.take i).map tieS).map V.str))) ⟨_, rfl⟩ ⟨same_upd hl7, upd_same⟩ (src_list (xs := ties.map V.int) ?_) ?_ ?_ ?_
   ·rintro i H5 _ ⟨s5, _⟩
    exact .of (s5 _ _ hT4)
   ·rintro H5 ⟨s5, _⟩
    exact ⟨_, .of (s5 _ _ hT4), Nat.le_refl _⟩
   ·rintro i σ5 H5 R hi ⟨v0, rfl⟩ ⟨s5, h5⟩ hR
    have hit : i < ties.length := by rwa [List.length_map] at hi
    have hgi : ties[i]? = some ties[i] := List.getElem?_eq_getElem hit
    have hit2 : (ties.map V.int).getD i .non = .int ties[i] := by simp [List.getD, hit]
    rw [hit2]
    have hym := List.getElem_mem hit
    generalize ties[i] = y at *
    have hyb := wt.half wp m10 hym
    have hyl := sN_len (i := y / 2) (by omega) (by omega)
    have hyg := log_small (i := y / 2) (by omega) (by omega)
    have z1 : Str.length "" = 0 := by decide +kernel
    have z2 : Str.length "-" = 1 := by decide +kernel
    have fin : ∀ (sg : Str) H6, Same H5 H6 → sg ++ sN (y / 2) = tieS y → ∃ ys, H6 l7 = some (.lst ys) ∧ ys.length < sizeLine ∧ R [some (.int y)] (upd H6 l7 (.lst (ys ++ [V.str (sg ++ sN (y / 2))]))) := fun sg H6 n6 e => by
     refine ⟨_, n6 _ _ h5, by rw [List.length_map, List.length_map, List.length_take]; omega, hR _ _ ⟨_, rfl⟩ ⟨(s5.trans n6).put hl7, ?_⟩⟩
     rw [upd_same, e, List.take_add_one, hgi, List.map_append, List.map_append]
     rfl
    walk_at "gs"
    intro sp H6 n6
    walk_at "gs"
    by_cases g : y % 2 = 1
    ·refine ⟨_, .str "-", .inl n6.sq, by rw [g]; rfl, ?_⟩
     walk_at "gs"
     refine ⟨by show Str.length "-" + (sN (y / 2)).length ≤ _; omega, fin "-" H6 n6.same ?_⟩
     unfold tieS
     rw [if_pos g]
    ·refine ⟨_, .str "", .inl n6.sq, by rw [show y % 2 = 0 by omega]; rfl, ?_⟩
     walk_at "gs"
     refine ⟨by show Str.length "" + (sN (y / 2)).length ≤ _; omega, fin "" H6 n6.same ?_⟩
     unfold tieS
     rw [if_neg g]
   rintro H7 ⟨s7, h7⟩
   rw [List.length_map, List.take_length] at h7
   have hwo := (out_words wt wp m10).1
   have hne : ties.map tieS ≠ [] := fun e => by have := congrArg List.length e; rw [List.length_map] at this; simp at this; rw [this] at hl1; simp at hl1
   have hjl : (jn (ties.map tieS)).length ≤ 1000 := by
    unfold jn
    cases hL : ties.map tieS with
    | nil => exact absurd hL hne
    | cons x r =>
     rw [join_cons]
     rw [hL] at hwo
     have h1 := jf_len (k := 5) r x fun y hy => hwo y (List.mem_cons_of_mem _ hy)
     have h2 := hwo x (List.mem_cons_self ..)
     have h3 : r.length + 1 = ties.length := by have := congrArg List.length hL; rw [List.length_map] at this; simpa using this.symm
     omega
   walk_at "gs"
   refine ⟨_, .of h7, wt_ok hwo (by rw [List.length_map]; omega) (by omega), hsp, by show Str.length "out " + (jn (ties.map tieS)).length ≤ _; omega, pl, _, _, rfl, rfl, s7 _ _ hp4, by simp only [List.length_map, List.length_cons]; omega, ?_⟩
   walk_at "gs"
   refine q pl _ ⟨n2'.was, ?_, (s4.trans s7).put n2'.was⟩
   rw [upd_same]
   unfold linesB
   rw [List.map_cons, List.map_cons, List.map_append, ← out_eq hne]
   rfl
theorem eq_ints {K : PySem.W.Frag} {H : Hp} {p q : Addr} {xs : List Int} (h1 : SqL K H p (xs.map V.int)) (h2 : SqL K H q (xs.map V.int)) : EqRef K H p q true := by
 refine .inl ⟨rfl, DeepEq.lst (n := 3) h1 h2 rfl fun i y z hy hz => ?_⟩
 rw [hy] at hz
 cases hz
 obtain ⟨t, _, rfl⟩ := get_map_of hy
 exact .flat rfl
theorem eq_pieces {K : PySem.W.Frag} {H : Hp} {p q : Addr} {ts us : List (Addr × Addr)} {ps : List Pc} (h1 : PLst H p ts ps) (h2 : PLst H q us ps) : EqRef K H p q true := by
 refine .inl ⟨rfl, DeepEq.lst (n := 3) (.of h1.lst) (.of h2.lst) (by rw [List.length_map, List.length_map, h1.len, h2.len]) fun i y z hy hz => ?_⟩
 have hi : i < ts.length := by have := (List.getElem?_eq_some_iff.mp hy).1; rwa [List.length_map] at this
 have hi2 : i < us.length := by have := (List.getElem?_eq_some_iff.mp hz).1; rwa [List.length_map] at this
 rw [List.getElem?_map, List.getElem?_eq_getElem hi] at hy
 rw [List.getElem?_map, List.getElem?_eq_getElem hi2] at hz
 have ey : V.ref (ts[i]).1 = y := Option.some.inj hy
 have ez : V.ref (us[i]).1 = z := Option.some.inj hz
 subst ey ez
 obtain ⟨p1, hp1, a1, a2⟩ := h1.get hi
 obtain ⟨p2, hp2, b1, b2⟩ := h2.get hi2
 rw [hp1] at hp2
 cases hp2
 refine DeepEq.tup (n := 2) (.of a1) (.of b1) rfl fun j y z hy hz => ?_
 match j, hy, hz with
 | 0, hy, hz =>
  cases hy
  cases hz
  exact .flat rfl
 | 1, hy, hz =>
  cases hy
  cases hz
  refine DeepEq.lst (n := 1) (.of a2) (.of b2) rfl fun k y z hy hz => ?_
  rw [hy] at hz
  cases hz
  obtain ⟨t, _, rfl⟩ := get_map_of hy
  exact .flat rfl
 | 2, hy, hz =>
  cases hy
  cases hz
  exact .flat rfl
 | j + 3, hy, hz => simp at hy
def sp_law_same (a : Adr) (_ : PySem.W.Frag) : Sp := fun vs H Q _ => ∃ (x l tp : Addr) (m : Nat) (ts : List (Addr × Addr)) (ps : List Pc) (ties : List Int), vs = [.ref x, .int m, .ref l, .ref tp] ∧ BoardAt a.c_Board H x m ps ties ∧ PLst H l ts ps ∧ H tp = some (.lst (ties.map V.int)) ∧ ps.length ≤ 100 ∧ ∀ H', Same H H' → Q (.bl true) H'
def rd_law_same (a : Adr) (K : PySem.W.Frag) : TS := (tSeq (tAsg (tMeth a.c_Board "pieces" (sp_Board_pieces a K) [] E0 (cVar 0) tNil) (gName 4))
  (tSeq (tIfS (tOr (tNot (cTru K (tCB (cIsinst K) (tCons (cVar 4) (tCons (tC (.ty "list")) tNil))))) (tOr (cTst (tOp (cNe K) (cVar 4) (cVar 2))) (tOr (cTst (tOp (cNe K) (tFld K (cVar 0) "many") (cVar 1))) (cTst (tOp (cNe K) (tMeth a.c_Board "ties" (sp_Board_ties a K) [] E0 (cVar 0) tNil) (cVar 3)))))) (tRet (tC (.bl false))) tNext)
  (tSeq (tFor (iList K (cVar 4)) (gName 5) (tSeq (tIfS (tOr (tNot (cTru K (tCB (cIsinst K) (tCons (cVar 5) (tCons (tC (.ty "tuple")) tNil))))) (tNot (cTru K (tCB (cIsinst K) (tCons (tOp (cIx K) (cVar 5) (tC (.int 1))) (tCons (tC (.ty "list")) tNil)))))) (tRet (tC (.bl false))) tNext)
  (tDrop (tBM0 K "list" rClear (tOp (cIx K) (cVar 5) (tC (.int 1)))))))
  (tSeq (tDrop (tBM0 K "list" rClear (cVar 4)))
  (tRet (tC (.bl true)))))))
theorem tm_law_same (T : Txt K mg a) {cdv : Value} {A : Around} {outer : List Env} {s : Shared} {H : Hp} {E : XK} (hr : Room 1 (A.deeper (envOfC "_law_same" (defScope s_law_same) s.heap.objs.size a.f_law_same cdv))) :
  PSs (cxOf CX0 P w K mg base N_law_same "_law_same" (defScope s_law_same) a.f_law_same cdv A outer s H E).nox (defBody s_law_same) (rd_law_same a K) :=
 (pss_cons (ps_set (i := 4) sc_law_same.nd rfl (by walk_at "o") (pe_meth0 (cv 0) T.cl_Board T.me_Board_pieces (ok_Board_pieces T) (hr.mono (by decide)) T.bi_Board_pieces .nil pass0))
   (pss_cons (ps_if (PW.pt (pw_or (pt_not (pt_tru (pe_callB c_isinst (by rfl) T.no_isinstance PyProof.Rows.boot_isinstance (pa_cons (cv 4) (pa_cons (pe_bltn (v := .ty "list") rfl T.no_list PyProof.Rows.boot_list rfl) pa_nil))))) (pw_or (t_cmp (o_ne (hr8 hr)) (cv 4) (cv 2) (nomark _)) (pw_or (t_cmp (o_ne (hr8 hr)) (pe_fld (cv 0) rfl) (cv 1) (nomark _)) (pw_or1 (t_cmp (o_ne (hr8 hr)) (pe_meth0 (cv 0) T.cl_Board T.me_Board_ties (ok_Board_ties T) (hr.mono (by decide)) T.bi_Board_ties .nil pass0) (cv 3) (nomark _))))))) (pss_one (ps_ret pe_bl)) pss_nil)
   (pss_cons (ps_for PassesOwn.never rfl (pi_list (cv 4)) (pg_name (i := 5) sc_law_same.nd rfl (by walk_at "o")) (pss_cons (ps_if (PW.pt (pw_or (pt_not (pt_tru (pe_callB c_isinst (by rfl) T.no_isinstance PyProof.Rows.boot_isinstance (pa_cons (cv 5) (pa_cons (pe_bltn (v := .ty "tuple") rfl T.no_tuple PyProof.Rows.boot_tuple rfl) pa_nil))))) (pw_or1 (pt_not (pt_tru (pe_callB c_isinst (by rfl) T.no_isinstance PyProof.Rows.boot_isinstance (pa_cons (pe_ix i_seq (cv 5) pe_int (fun _ _ => rfl)) (pa_cons (pe_bltn (v := .ty "list") rfl T.no_list PyProof.Rows.boot_list rfl) pa_nil)))))))) (pss_one (ps_ret pe_bl)) pss_nil)
   (pss_one (ps_expr (pe_bm0 PySem.F.plainAttrs_list PySem.F.slot_list_clear PySem.F.type_list_clear (mtr mt_clear) (pe_ix i_seq (cv 5) pe_int (fun _ _ => rfl)))))))
   (pss_cons (ps_expr (pe_bm0 PySem.F.plainAttrs_list PySem.F.slot_list_clear PySem.F.type_list_clear (mtr mt_clear) (cv 4)))
   (pss_one (ps_ret pe_bl))))))
theorem ok_law_same (T : Txt K mg a) : FnOk P w K mg base CX0 2 a.f_law_same a.d_law_same ["_law_board", "_law_many", "_law_pieces_here", "_law_ties_here"] (sp_law_same a K) := by
 refine T.fn_law_same.ok sc_law_same (fun vs H Q E h => ?_) (fun cdv A outer s H vs Q E hr h => ⟨_, tm_law_same T hr, ?_⟩)
 ·obtain ⟨x, l, tp, m, ts, ps, ties, rfl, _⟩ := h; rfl
 ·obtain ⟨x, l, tp, m, ts, ps, ties, rfl, hB, hP, hT, hz, q⟩ := h
  show rd_law_same a K _ [some (.ref x), some (.int m), some (.ref l), some (.ref tp), none, none] H
  unfold rd_law_same
  have big : (20000 : Nat) ≤ sizeLine := by decide
  obtain ⟨dx, k, tt, kts, hx, hKP, hKT⟩ := id hB
  walk_at "gs"
  refine ⟨x, dx, _, rfl, hx, rfl, x, m, ps, ties, rfl, hB, by omega, fun fl us H1 hfl s1 hL hun => ?_⟩
  have hul := hL.len
  walk_at "gs"
  refine ⟨_, true, .lst hL.lst, rfl, ?_⟩
  walk_at "gs"
  refine ⟨true, eq_pieces hL (hP.same s1), ?_⟩
  walk_at "gs"
  refine ⟨x, a.c_Board, dx, _, _, rfl, s1 _ _ hx, T.cl_Board, T.na_Board_many, rfl, ?_⟩
  walk_at "gs"
  refine ⟨x, dx, _, rfl, s1 _ _ hx, rfl, x, m, ps, ties, rfl, hB.same s1, fun l2 H2 n2 => ?_⟩
  have s02 := s1.trans n2.same
  have hL2 := hL.same n2.same
  refine ⟨true, eq_ints (.of n2.at_) (.of (s02 _ _ hT)), ?_⟩
  walk_at "gs"
  refine ⟨⟨_, .of hL2.lst⟩, for_listG (xs := us.map fun t => V.ref t.1) (fun i σ H3 => Same H H3 ∧ H3 fl = some (.lst (us.map fun t => V.ref t.1)) ∧ (∀ (j : Nat) t p, us[j]? = some t → ps[j]? = some p → H3 t.1 = some (.tup [.int p.1, .ref t.2, .int p.2.2]) ∧ ∃ xs, H3 t.2 = some (.lst xs)) ∧ ∃ v5, σ = [some (.ref x), some (.int m), some (.ref l), some (.ref tp), some (.ref fl), v5]) ⟨s02, hL2.lst, fun j t p ht hp => ⟨(hL2.at_ j t p ht hp).1, _, (hL2.at_ j t p ht hp).2⟩, _, rfl⟩ ?_ ?_ ?_⟩
  ·rintro i σ H3 _ ⟨_, h3, _⟩
   exact .of h3
  ·rintro i v σ H3 hv ⟨s3, h3, hu3, v5, rfl⟩
   have hi : i < us.length := by have := (List.getElem?_eq_some_iff.mp hv).1; rwa [List.length_map] at this
   rw [List.getElem?_map, List.getElem?_eq_getElem hi] at hv
   have ev : V.ref (us[i]).1 = v := Option.some.inj hv
   subst ev
   clear hv
   have hgu : us[i]? = some us[i] := List.getElem?_eq_getElem hi
   have hgp : ps[i]? = some (ps[i]'(by omega)) := List.getElem?_eq_getElem (by omega)
   obtain ⟨g1, xs, g2⟩ := hu3 i _ _ hgu hgp
   obtain ⟨m1, m2, m3⟩ := hun _ (List.getElem_mem hi)
   generalize ps[i]'(by omega) = p at *
   generalize (us[i]).1 = t1 at *
   generalize (us[i]).2 = t2 at *
   walk_at "gs"
   refine ⟨_, true, .tup g1, rfl, ?_⟩
   walk_at "gs"
   refine ⟨_, _, .inr (.of g1), rfl, _, true, .lst g2, rfl, ?_⟩
   walk_at "gs"
   refine ⟨_, _, .inr (.of g1), rfl, ?_⟩
   walk_at "gs"
   refine ⟨.inl ⟨by trivial, _, .of g2⟩, t2, _, rfl, rfl, g2, s3.put m2, by rw [upd_ne m3.symm]; exact h3, fun j t p' ht hp' => ?_, _, rfl⟩
   obtain ⟨e1, ys, e2⟩ := hu3 j t p' ht hp'
   refine ⟨by rw [upd_ne (ne_of e1 g2 (fun z => nomatch z))]; exact e1, ?_⟩
   by_cases z : t.2 = t2
   ·exact ⟨[], by rw [z, upd_same]⟩
   ·exact ⟨ys, by rw [upd_ne z]; exact e2⟩
  ·rintro σ H3 ⟨s3, h3, hu3, v5, rfl⟩
   walk_at "gs"
   exact ⟨.inl ⟨by trivial, _, .of h3⟩, fl, _, rfl, rfl, h3, q _ (s3.put hfl)⟩
theorem eq_strs {K : PySem.W.Frag} {H : Hp} {p q : Addr} {xs : List Str} (h1 : SqL K H p (xs.map V.str)) (h2 : SqL K H q (xs.map V.str)) : EqRef K H p q true := by
 refine .inl ⟨rfl, DeepEq.lst (n := 3) h1 h2 rfl fun i y z hy hz => ?_⟩
 rw [hy] at hz
 cases hz
 obtain ⟨t, _, rfl⟩ := get_map_of hy
 exact .flat rfl
def sp_law (K : PySem.W.Frag) : Sp := fun vs H Q _ => ∃ (p : Addr) (ns : List Int), vs = [.ref p] ∧ SqL K H p (ns.map V.int) ∧ ns.length ≤ 63 ∧ ∀ H', Q (.bl true) H'
def rd_law (a : Adr) (K : PySem.W.Frag) : TS := (tSeq (tAsg (tOp cAdd (tC (.int 1)) (tOp (cI2c (fun _ j => 0 < j) fun i j => .int (i % j)) (tCall (sp_law_cell_at K) [] E0 (tCons (cVar 0) (tCons (tC (.int 0)) tNil))) (tC (.int 10)))) (gName 1))
  (tSeq (tAsg (tCall (sp_law_pieces K) [] E0 (tCons (cVar 0) (tCons (cVar 1) tNil))) (gName 2))
  (tSeq (tAsg (tCall (sp_law_ties K) [] E0 (tCons (tCall (sp_law_cell_at K) [] E0 (tCons (cVar 0) (tCons (tC (.int 1)) tNil))) (tCons (cVar 1) (tCons (cVar 2) tNil)))) (gName 3))
  (tSeq (tAsg (tComp (iList K (cVar 2)) 3 [] (gTup K 3 (gCons (gName 0) (gCons (gName 1) (gCons (gName 2) gNil)))) tTrue (tTup (tCons (cVar 0) (tCons (tCB (cList K) (tCons (cVar 1) tNil)) (tCons (cVar 2) tNil))))) (gName 4))
  (tSeq (tAsg (tMake a.c_Board (sp_Board___init__ a K) [] E0 (tCons (cVar 1) (tCons (cVar 4) (tCons (tCB (cList K) (tCons (cVar 3) tNil)) tNil)))) (gName 5))
  (tSeq (tIfS (tNot (cTru K (tCall (sp_law_same a K) [] E0 (tCons (cVar 5) (tCons (cVar 1) (tCons (cVar 2) (tCons (cVar 3) tNil))))))) (tRet (tC (.bl false))) tNext)
  (tSeq (tFor (iList K (cVar 4)) (gName 6) (tDrop (tBM K "list" rAppend (tOp (cIx K) (cVar 6) (tC (.int 1))) (tCons (tC (.int 0)) tNil))))
  (tMid (tDrop (tBM0 K "list" rClear (cVar 4)))
  (tMid (tAsg (tCall (sp_board_lines a K) [] E0 (tCons (cVar 5) tNil)) (gName 7))
  (tSeq (tAsg (tCall (sp_law_lines K) [] E0 (tCons (cVar 1) (tCons (cVar 2) (tCons (cVar 3) tNil)))) (gName 8))
  (tSeq (tIfS (tOr (tNot (cTru K (tCB (cIsinst K) (tCons (cVar 7) (tCons (tC (.ty "list")) tNil))))) (cTst (tOp (cNe K) (tCB (cLen K) (tCons (cVar 7) tNil)) (tCB (cLen K) (tCons (cVar 8) tNil))))) (tRet (tC (.bl false))) tNext)
  (tSeq (tFor (iRng1 (tCons (tCB (cLen K) (tCons (cVar 8) tNil)) tNil)) (gName 9) (tIfS (tOr (tNot (cTru K (tCB (cIsinst K) (tCons (tOp (cIx K) (cVar 7) (cVar 9)) (tCons (tC (.ty "str")) tNil))))) (cTst (tOp (cNe K) (tOp (cIx K) (cVar 7) (cVar 9)) (tOp (cIx K) (cVar 8) (cVar 9))))) (tRet (tC (.bl false))) tNext))
  (tSeq (tDrop (tBM0 K "list" rClear (cVar 7)))
  (tRet (cAndV (tCall (sp_law_same a K) [] E0 (tCons (cVar 5) (tCons (cVar 1) (tCons (cVar 2) (tCons (cVar 3) tNil))))) (tOp (cEq K) (tCall (sp_board_lines a K) [] E0 (tCons (cVar 5) tNil)) (cVar 8)))))))))))))))))
theorem tm_law (T : Txt K mg a) {cdv : Value} {A : Around} {outer : List Env} {s : Shared} {H : Hp} {E : XK} (hr : Room 5 (A.deeper (envOfC "law" (defScope s_law) s.heap.objs.size a.f_law cdv))) :
  PSs (cxOf CX0 P w K mg base N_law "law" (defScope s_law) a.f_law cdv A outer s H E).nox (defBody s_law) (rd_law a K) :=
 (pss_cons (ps_set (i := 1) sc_law.nd rfl (by walk_at "o") (pe_op o_add pe_int (pe_op o_mod (pe_call (ok_law_cell_at T) (hr.mono (by decide)) rfl T.mg_law_cell_at T.fn_law_cell_at.kp T.bi_law_cell_at .nil pass0 (pa_cons (cv 0) (pa_cons pe_int pa_nil))) pe_int)))
   (pss_cons (ps_set (i := 2) sc_law.nd rfl (by walk_at "o") (pe_call (ok_law_pieces T) (hr.mono (by decide)) rfl T.mg_law_pieces T.fn_law_pieces.kp T.bi_law_pieces .nil pass0 (pa_cons (cv 0) (pa_cons (cv 1) pa_nil))))
   (pss_cons (ps_set (i := 3) sc_law.nd rfl (by walk_at "o") (pe_call (ok_law_ties T) (hr.mono (by decide)) rfl T.mg_law_ties T.fn_law_ties.kp T.bi_law_ties .nil pass0 (pa_cons (pe_call (ok_law_cell_at T) (hr.mono (by decide)) rfl T.mg_law_cell_at T.fn_law_cell_at.kp T.bi_law_cell_at .nil pass0 (pa_cons (cv 0) (pa_cons pe_int pa_nil))) (pa_cons (cv 1) (pa_cons (cv 2) pa_nil)))))
   (pss_cons (ps_setC (i := 4) (N := ["_law_knot", "_law_cut_here", "_law_bits"]) (k := 3) (sel := []) (CScope.of (defScope s_law).names (by decide +kernel)) (CNames.of N_law (by decide +kernel)) rfl (pi_list (cv 2)) (fun _ _ _ _ => (pg_tup rfl (pgs_cons (pg_name (i := 0) (show List.Nodup (["_law_knot", "_law_cut_here", "_law_bits"] : List Str) by decide +kernel) rfl (by walk_at "o")) (pgs_cons (pg_name (i := 1) (show List.Nodup (["_law_knot", "_law_cut_here", "_law_bits"] : List Str) by decide +kernel) rfl (by walk_at "o")) (pgs_cons (pg_name (i := 2) (show List.Nodup (["_law_knot", "_law_cut_here", "_law_bits"] : List Str) by decide +kernel) rfl (by walk_at "o")) pgs_nil))))) (fun _ _ _ _ => pts_nil) (fun _ _ _ _ => (pe_tup (pa_cons (cv 0) (pa_cons (pe_callTy c_list (by rfl) T.no_list PyProof.Rows.boot_list (pa_cons (cv 1) pa_nil)) (pa_cons (cv 2) pa_nil))))) sc_law.nd rfl (by walk_at "o") rfl)
   (pss_cons (ps_set (i := 5) sc_law.nd rfl (by walk_at "o") (pe_make T.mk_Board (ok_Board___init__ T) (hr.mono (by decide)) rfl T.mg_Board T.bi_Board___init__ .nil pass0 (pa_cons (cv 1) (pa_cons (cv 4) (pa_cons (pe_callTy c_list (by rfl) T.no_list PyProof.Rows.boot_list (pa_cons (cv 3) pa_nil)) pa_nil)))))
   (pss_cons (ps_if (pt_not (pt_tru (pe_call (ok_law_same T) (hr.mono (by decide)) rfl T.mg_law_same T.fn_law_same.kp T.bi_law_same .nil pass0 (pa_cons (cv 5) (pa_cons (cv 1) (pa_cons (cv 2) (pa_cons (cv 3) pa_nil))))))) (pss_one (ps_ret pe_bl)) pss_nil)
   (pss_cons (ps_for PassesOwn.never rfl (pi_list (cv 4)) (pg_name (i := 6) sc_law.nd rfl (by walk_at "o")) (pss_one (ps_expr (pe_bm PySem.F.plainAttrs_list PySem.F.slot_list_append PySem.F.type_list_append (mtr mt_append) (pe_ix i_seq (cv 6) pe_int (fun _ _ => rfl)) (pa_cons pe_int pa_nil)))))
   (pss_mid (ps_expr (pe_bm0 PySem.F.plainAttrs_list PySem.F.slot_list_clear PySem.F.type_list_clear (mtr mt_clear) (cv 4)))
   (pss_mid (ps_set (i := 7) sc_law.nd rfl (by walk_at "o") (pe_call (ok_board_lines T) (hr.mono (by decide)) rfl T.mg_board_lines T.fn_board_lines.kp T.bi_board_lines .nil pass0 (pa_cons (cv 5) pa_nil)))
   (pss_cons (ps_set (i := 8) sc_law.nd rfl (by walk_at "o") (pe_call (ok_law_lines T) (hr.mono (by decide)) rfl T.mg_law_lines T.fn_law_lines.kp T.bi_law_lines .nil pass0 (pa_cons (cv 1) (pa_cons (cv 2) (pa_cons (cv 3) pa_nil)))))
   (pss_cons (ps_if (PW.pt (pw_or (pt_not (pt_tru (pe_callB c_isinst (by rfl) T.no_isinstance PyProof.Rows.boot_isinstance (pa_cons (cv 7) (pa_cons (pe_bltn (v := .ty "list") rfl T.no_list PyProof.Rows.boot_list rfl) pa_nil))))) (pw_or1 (t_cmp (o_ne (hr8 hr)) (pe_callB c_len (by rfl) T.no_len PySem.boot_len (pa_cons (cv 7) pa_nil)) (pe_callB c_len (by rfl) T.no_len PySem.boot_len (pa_cons (cv 8) pa_nil)) (nomark _))))) (pss_one (ps_ret pe_bl)) pss_nil)
   (pss_cons (ps_for PassesOwn.never rfl (pi_range1 rfl T.no_range (pa_cons (pe_callB c_len (by rfl) T.no_len PySem.boot_len (pa_cons (cv 8) pa_nil)) pa_nil)) (pg_name (i := 9) sc_law.nd rfl (by walk_at "o")) (pss_one (ps_if (PW.pt (pw_or (pt_not (pt_tru (pe_callB c_isinst (by rfl) T.no_isinstance PyProof.Rows.boot_isinstance (pa_cons (pe_ix i_seq (cv 7) (cv 9) (fun _ _ => rfl)) (pa_cons (pe_bltn (v := .ty "str") rfl T.no_str PyProof.Rows.boot_str rfl) pa_nil))))) (pw_or1 (t_cmp (o_ne (hr8 hr)) (pe_ix i_seq (cv 7) (cv 9) (fun _ _ => rfl)) (pe_ix i_seq (cv 8) (cv 9) (fun _ _ => rfl)) (nomark _))))) (pss_one (ps_ret pe_bl)) pss_nil)))
   (pss_cons (ps_expr (pe_bm0 PySem.F.plainAttrs_list PySem.F.slot_list_clear PySem.F.type_list_clear (mtr mt_clear) (cv 7)))
   (pss_one (ps_ret (e_and (pe_call (ok_law_same T) (hr.mono (by decide)) rfl T.mg_law_same T.fn_law_same.kp T.bi_law_same .nil pass0 (pa_cons (cv 5) (pa_cons (cv 1) (pa_cons (cv 2) (pa_cons (cv 3) pa_nil))))) (pe_one (pe_cmpR (o_eq (hr8 hr)) (pe_call (ok_board_lines T) (hr.mono (by decide)) rfl T.mg_board_lines T.fn_board_lines.kp T.bi_board_lines .nil pass0 (pa_cons (cv 5) pa_nil)) (cv 8) (nomark _)))))))))))))))))))
theorem ok_law (T : Txt K mg a) : FnOk P w K mg base CX0 6 a.f_law a.d_law ["_law_script"] (sp_law K) := by
 refine T.fn_law.ok sc_law (fun vs H Q E h => ?_) (fun cdv A outer s H vs Q E hr h => ⟨_, tm_law T hr, ?_⟩)
 ·obtain ⟨p, ns, rfl, _⟩ := h; rfl
 ·obtain ⟨p, ns, rfl, hS, hl, k⟩ := h
  show rd_law a K _ [some (.ref p), none, none, none, none, none, none, none, none, none] H
  unfold rd_law
  have big : (20000 : Nat) ≤ sizeLine := by decide
  walk_at "gs"
  refine ⟨p, ns, 0, rfl, hS, fun c0 hc0 => ?_⟩
  walk_at "gs"
  obtain ⟨m, hm⟩ := Int.eq_ofNat_of_zero_le (by omega : 0 ≤ 1 + c0 % 10)
  rw [hm]
  have m1 : 1 ≤ m := by omega
  have m10 : m ≤ 10 := by omega
  refine ⟨p, ns, m, rfl, hS, hl, m1, m10, fun l ts ps H1 hl1 s1 hP wp hpl => ?_⟩
  walk_at "gs"
  refine ⟨p, ns, 1, rfl, s1.seq hS, fun c1 hc1 => ?_⟩
  refine ⟨c1, m, l, ts, ps, rfl, hP, wp, m10, by omega, fun tp H2 ties md2 wt => ?_⟩
  obtain ⟨_, hT2, s2⟩ := md2
  have hP2 := hP.same s2
  have htl := hP.len
  walk_at "gs"
  refine ⟨⟨_, .of hP2.lst⟩, fun hp hhp => comp_gen (n := (ts.map fun t => V.ref t.1).length) (item := fun i => (ts.map fun t => V.ref t.1).getD i .non) (fun σ => ∃ v0 v1 v2, σ = [v0, v1, v2]) (fun i H3 => Same H2 H3 ∧ ∃ us : List (Addr × Addr), H3 hp = some (.lst (us.map fun t => V.ref t.1)) ∧ us.length = i ∧ (∀ t ∈ us, H2 t.1 = none ∧ H2 t.2 = none ∧ t.2 ≠ hp) ∧ ∀ (j : Nat) t p, us[j]? = some t → ps[j]? = some p → H3 t.1 = some (.tup [.int p.1, .ref t.2, .int p.2.2]) ∧ H3 t.2 = some (.lst (p.2.1.map V.int))) ⟨_, _, _, rfl⟩ ⟨same_upd hhp, [], upd_same, rfl, fun t ht => by simp at ht, fun j t p ht => by simp at ht⟩ (src_list (xs := ts.map fun t => V.ref t.1) ?_) ?_ ?_ ?_⟩
  ·rintro i H3 _ ⟨s3, _⟩
   exact .of (s3 _ _ hP2.lst)
  ·rintro H3 ⟨s3, _⟩
   exact ⟨_, .of (s3 _ _ hP2.lst), Nat.le_refl _⟩
  ·rintro i σ3 H3 R hi ⟨v0, v1, v2, rfl⟩ ⟨s3, us, h3, hul, hun, hus⟩ hR
   have hit : i < ts.length := by rwa [List.length_map] at hi
   obtain ⟨q, hq, hpt, hpc⟩ := (hP2.same s3).get hit
   rw [ref_at ts hit]
   generalize (ts[i]).1 = t1 at *
   generalize (ts[i]).2 = t2 at *
   walk_at "gs"
   refine ⟨t1, _, rfl, .of hpt, rfl, _, _, rfl, _, _, rfl, _, _, rfl, rfl, ?_⟩
   walk_at "gs"
   refine ⟨_, .inl (.of hpc), fun c4 H4 n4 => ?_⟩
   refine ⟨by show 3 ≤ sizeLine; decide, fun t5 H5 n5 => ?_⟩
   have s35 := n4.same.trans n5.same
   have h5 := s35 _ _ h3
   have ntp : t5 ≠ hp := (ne_of_none (n4.same _ _ h3) n5.was).symm
   have ncp : c4 ≠ hp := (ne_of_none h3 n4.was).symm
   refine ⟨_, h5, by rw [List.length_map]; omega, hR _ _ ⟨_, _, _, rfl⟩ ⟨(s3.trans s35).put hhp, us ++ [(t5, c4)], by rw [upd_same, List.map_append]; rfl, by rw [List.length_append, hul]; rfl, fun t ht => ?_, fun j t p' ht hp' => ?_⟩⟩
   ·rcases List.mem_append.mp ht with z | z
    ·exact hun t z
    ·rw [List.mem_singleton] at z
     subst z
     exact ⟨(s3.trans n4.same).nil n5.was, s3.nil n4.was, ncp⟩
   by_cases hji : j < i
   ·rw [List.getElem?_append_left (by omega)] at ht
    obtain ⟨g1, g2⟩ := hus j t p' ht hp'
    exact ⟨by rw [upd_ne (ne_of g1 h3 (fun z => nomatch z))]; exact s35 _ _ g1, by rw [upd_ne (hun t (List.mem_of_getElem? ht)).2.2]; exact s35 _ _ g2⟩
   ·have hjl : j < us.length + 1 := by have := (List.getElem?_eq_some_iff.mp ht).1; rwa [List.length_append] at this
    have hj : j = i := by omega
    subst hj
    rw [← hul, List.getElem?_append_right (Nat.le_refl _), Nat.sub_self] at ht
    have et : (t5, c4) = t := by simpa using ht
    subst et
    rw [hq] at hp'
    cases hp'
    exact ⟨by rw [upd_ne ntp]; exact n5.at_, by rw [upd_ne ncp]; exact n5.same _ _ n4.at_⟩
  rintro H3 ⟨s3, us, h3, hul, hun, hus⟩
  rw [List.length_map] at hul
  have hU : PLst H3 hp us ps := ⟨h3, by omega, hus⟩
  have hT3 := s3 _ _ hT2
  walk_at "gs"
  refine ⟨_, .inl (.of hT3), fun l4 H4 n4 => ?_⟩
  refine mk_Board (hU.same n4.same) n4.at_ wp wt m1 m10 (by omega) fun x H5 s5 hB => ?_
  have s25 := (s3.trans n4.same).trans s5
  have hU5 := hU.same (n4.same.trans s5)
  walk_at "gs"
  refine ⟨x, l, tp, m, ts, ps, ties, rfl, hB, hP2.same s25, s25 _ _ hT2, by omega, fun H6 s6 => ?_⟩
  have s26 := s25.trans s6
  have hU6 := hU5.same s6
  have hB6 := hB.same s6
  have nh2 : H2 hp = none := hhp
  walk_at "gs"
  refine ⟨⟨_, .of hU6.lst⟩, for_listG (xs := us.map fun t => V.ref t.1) (fun i σ H7 => Same H2 H7 ∧ NL H6 H7 ∧ H7 hp = some (.lst (us.map fun t => V.ref t.1)) ∧ (∀ (j : Nat) t p, us[j]? = some t → ps[j]? = some p → H7 t.1 = some (.tup [.int p.1, .ref t.2, .int p.2.2]) ∧ ∃ xs, H7 t.2 = some (.lst xs) ∧ xs.length ≤ 10 + i) ∧ ∃ v6, σ = [some (.ref p), some (.int m), some (.ref l), some (.ref tp), some (.ref hp), some (.ref x), v6, none, none, none]) ⟨s26, NL.of (Same.refl _), hU6.lst, fun j t q ht hq => ⟨(hU6.at_ j t q ht hq).1, _, (hU6.at_ j t q ht hq).2, by rw [List.length_map]; have := (wp j q hq).l6; omega⟩, _, rfl⟩ ?_ ?_ ?_⟩
  ·rintro i σ H7 _ ⟨_, _, h7, _⟩
   exact .of h7
  ·rintro i v σ H7 hv ⟨s7, nl7, h7, hu7, v6, rfl⟩
   have hi : i < us.length := by have := (List.getElem?_eq_some_iff.mp hv).1; rwa [List.length_map] at this
   rw [List.getElem?_map, List.getElem?_eq_getElem hi] at hv
   have ev : V.ref (us[i]).1 = v := Option.some.inj hv
   subst ev
   clear hv
   have hgu : us[i]? = some us[i] := List.getElem?_eq_getElem hi
   have hgp : ps[i]? = some (ps[i]'(by omega)) := List.getElem?_eq_getElem (by omega)
   obtain ⟨g1, xs, g2, gl⟩ := hu7 i _ _ hgu hgp
   obtain ⟨e1, e2, e3⟩ := hun _ (List.getElem_mem hi)
   generalize ps[i]'(by omega) = q at *
   generalize (us[i]).1 = t1 at *
   generalize (us[i]).2 = t2 at *
   walk_at "gs"
   refine ⟨_, _, .inr (.of g1), rfl, ?_⟩
   walk_at "gs"
   refine ⟨.inl ⟨by trivial, _, .of g2⟩, t2, _, _, rfl, rfl, g2, by omega, s7.put e2, nl7.trans (NL.upd g2), by rw [upd_ne e3.symm]; exact h7, fun j t p' ht hp' => ?_, _, rfl⟩
   obtain ⟨f1, ys, f2, f3⟩ := hu7 j t p' ht hp'
   refine ⟨by rw [upd_ne (ne_of f1 g2 (fun z => nomatch z))]; exact f1, ?_⟩
   by_cases z : t.2 = t2
   ·refine ⟨xs ++ [.int 0], by rw [z, upd_same], ?_⟩
    rw [List.length_append]
    simp only [List.length_cons, List.length_nil]
    omega
   ·exact ⟨ys, by rw [upd_ne z]; exact f2, by omega⟩
  ·rintro σ H7 ⟨s7, nl7, h7, hu7, v6, rfl⟩
   have hB7 := hB6.nl nl7
   refine mid (fun σ' H' => Same H2 H' ∧ BoardAt a.c_Board H' x m ps ties ∧ σ' = [some (.ref p), some (.int m), some (.ref l), some (.ref tp), some (.ref hp), some (.ref x), v6, none, none, none]) ?_ ?_
   ·intro N hN
    walk_at "gs"
    refine ⟨.inl ⟨by trivial, _, .of h7⟩, hp, _, rfl, rfl, h7, ?_⟩
    exact hN _ _ ⟨s7.put nh2, hB7.nl (NL.upd h7), rfl⟩
   clear s7 nl7 h7 hu7 hB7
   rintro σ8 H8 ⟨s8, hB8, rfl⟩
   refine mid (fun σ' H' => ∃ fl, Same H8 H' ∧ H8 fl = none ∧ H' fl = some (.lst ((linesB m ps ties).map V.str)) ∧ σ' = [some (.ref p), some (.int m), some (.ref l), some (.ref tp), some (.ref hp), some (.ref x), v6, some (.ref fl), none, none]) ?_ ?_
   ·intro N hN
    walk_at "gs"
    refine ⟨x, m, ps, ties, rfl, hB8, wp, wt, m10, by omega, fun fl H9 md => ?_⟩
    obtain ⟨d1, d2, d3⟩ := md
    exact hN _ _ ⟨fl, d3, d1, d2, rfl⟩
   rintro σ9 H9 ⟨fl, s9, hfl, h9, rfl⟩
   have s29 := s8.trans s9
   walk_at "gs"
   refine ⟨m, l, tp, ts, ps, ties, rfl, hP2.same s29, s29 _ _ hT2, wp, wt, m10, by omega, fun dl H10 md => ?_⟩
   obtain ⟨hdl, h10, s10⟩ := md
   have hf10 := s10 _ _ h9
   have ndf : dl ≠ fl := (ne_of_none h9 hdl).symm
   walk_at "gs"
   refine ⟨_, true, .lst hf10, rfl, ?_⟩
   walk_at "gs"
   refine .inl ⟨_, .inl (.of hf10), .inl ⟨_, .inl (.of h10), ?_⟩⟩
   walk_at "gs"
   refine .inl ⟨_, .inl (.of h10), ?_⟩
   have hll : (linesB m ps ties).length ≤ 200 := by
    unfold linesB
    simp only [List.length_cons, List.length_append, List.length_map, List.length_nil]
    omega
   generalize hLB : linesB m ps ties = LB at *
   rw [List.length_map]
   walk_at "gs"
   rw [Int.toNat_natCast]
   refine for_rngG (fun i σ H11 => H11 = H10 ∧ ∃ v9, σ = [some (.ref p), some (.int m), some (.ref l), some (.ref tp), some (.ref hp), some (.ref x), v6, some (.ref fl), some (.ref dl), v9]) ⟨rfl, _, rfl⟩ ?_ ?_
   ·rintro i σ H11 hi ⟨rfl, v9, rfl⟩
    have hat : atI (LB.map V.str) (0 + (i : Int)) = some (.str LB[i]) := by
     rw [atI_ok .non (by omega) (by rw [List.length_map]; omega), show ((0 : Int) + (i : Int)).toNat = i by omega]
     simp [List.getD, hi]
    walk_at "gs"
    refine ⟨_, _, .inl (.of hf10), hat, _, true, .str _, rfl, ?_⟩
    walk_at "gs"
    refine ⟨_, _, .inl (.of hf10), hat, _, _, .inl (.of h10), hat, ?_⟩
    walk_at "gs"
    exact ⟨_, rfl⟩
   ·rintro σ H11 ⟨rfl, v9, rfl⟩
    walk_at "gs"
    refine ⟨.inl ⟨by trivial, _, .of hf10⟩, fl, _, rfl, rfl, hf10, ?_⟩
    have s12 : Same H8 (upd H11 fl (.lst [])) := (s9.trans s10).put hfl
    have h12 : upd H11 fl (.lst []) dl = some (.lst (LB.map V.str)) := by rw [upd_ne ndf]; exact h10
    generalize upd H11 fl (.lst []) = H12 at s12 h12 ⊢
    have s212 := s8.trans s12
    walk_at "gs"
    refine ⟨x, l, tp, m, ts, ps, ties, rfl, hB8.same s12, hP2.same s212, s212 _ _ hT2, by omega, fun H13 s13 => ?_⟩
    walk_at "gs"
    refine ⟨x, m, ps, ties, rfl, (hB8.same s12).same s13, wp, wt, m10, by omega, fun gl H14 md => ?_⟩
    rw [hLB] at md
    obtain ⟨d1, d2, d3⟩ := md
    refine ⟨true, eq_strs (.of d2) (.of (d3 _ _ (s13 _ _ h12))), ?_⟩
    exact k _
theorem lenN1 {us : List Value} (h : us.length = 1) : ∃ a, us = [a] := List.length_eq_one_iff.mp h
theorem lenN2 {us : List Value} (h : us.length = 2) : ∃ a b, us = [a, b] := by
 obtain _ | ⟨a, t⟩ := us
 ·cases h
 ·obtain ⟨b, rfl⟩ := lenN1 (Nat.succ.inj h)
  exact ⟨a, b, rfl⟩
theorem lenN3 {us : List Value} (h : us.length = 3) : ∃ a b c, us = [a, b, c] := by
 obtain _ | ⟨a, t⟩ := us
 ·cases h
 ·obtain ⟨b, c, rfl⟩ := lenN2 (Nat.succ.inj h)
  exact ⟨a, b, c, rfl⟩
theorem lenN4 {us : List Value} (h : us.length = 4) : ∃ a b c d, us = [a, b, c, d] := by
 obtain _ | ⟨a, t⟩ := us
 ·cases h
 ·obtain ⟨b, c, d, rfl⟩ := lenN3 (Nat.succ.inj h)
  exact ⟨a, b, c, d, rfl⟩
theorem all_mk {l : PySem.W.OpenLaw} {w : World} {K : PySem.W.Frag} {h : Heap} {mg : Str → Option Value} {fa : Addr} (X : K.In h) (G : h.Ns mainGlobals mg) (hfa : mg "law" = some (.ref fa))
  {f0 : Addr} {od0 an0 : Option Addr} {sl0 : Array (Option Value)} {oc0 kV0 dc0 pm0 cd0 ct0 : Value} {f1 : Addr} {od1 an1 : Option Addr} {sl1 : Array (Option Value)} {oc1 kV1 dc1 pm1 cd1 ct1 : Value} {f2 : Addr} {od2 an2 : Option Addr} {sl2 : Array (Option Value)} {oc2 kV2 dc2 pm2 cd2 ct2 : Value} {f3 : Addr} {od3 an3 : Option Addr} {sl3 : Array (Option Value)} {oc3 kV3 dc3 pm3 cd3 ct3 : Value} {f4 : Addr} {od4 an4 : Option Addr} {sl4 : Array (Option Value)} {oc4 kV4 dc4 pm4 cd4 ct4 : Value} {f5 : Addr} {od5 an5 : Option Addr} {sl5 : Array (Option Value)} {oc5 kV5 dc5 pm5 cd5 ct5 : Value} {f6 : Addr} {od6 an6 : Option Addr} {sl6 : Array (Option Value)} {oc6 kV6 dc6 pm6 cd6 ct6 : Value} {f7 : Addr} {od7 an7 : Option Addr} {sl7 : Array (Option Value)} {oc7 kV7 dc7 pm7 cd7 ct7 : Value} {f8 : Addr} {od8 an8 : Option Addr} {sl8 : Array (Option Value)} {oc8 kV8 dc8 pm8 cd8 ct8 : Value} {f9 : Addr} {od9 an9 : Option Addr} {sl9 : Array (Option Value)} {oc9 kV9 dc9 pm9 cd9 ct9 : Value} {f10 : Addr} {od10 an10 : Option Addr} {sl10 : Array (Option Value)} {oc10 kV10 dc10 pm10 cd10 ct10 : Value} {f11 : Addr} {od11 an11 : Option Addr} {sl11 : Array (Option Value)} {oc11 kV11 dc11 pm11 cd11 ct11 : Value} {f12 : Addr} {od12 an12 : Option Addr} {sl12 : Array (Option Value)} {oc12 kV12 dc12 pm12 cd12 ct12 : Value} {f13 : Addr} {od13 an13 : Option Addr} {sl13 : Array (Option Value)} {oc13 kV13 dc13 pm13 cd13 ct13 : Value} {f14 : Addr} {od14 an14 : Option Addr} {sl14 : Array (Option Value)} {oc14 kV14 dc14 pm14 cd14 ct14 : Value} {f15 : Addr} {od15 an15 : Option Addr} {sl15 : Array (Option Value)} {oc15 kV15 dc15 pm15 cd15 ct15 : Value} {f16 : Addr} {od16 an16 : Option Addr} {sl16 : Array (Option Value)} {oc16 kV16 dc16 pm16 cd16 ct16 : Value} {f17 : Addr} {od17 an17 : Option Addr} {sl17 : Array (Option Value)} {oc17 kV17 dc17 pm17 cd17 ct17 : Value} {f18 : Addr} {od18 an18 : Option Addr} {sl18 : Array (Option Value)} {oc18 kV18 dc18 pm18 cd18 ct18 : Value} {f19 : Addr} {od19 an19 : Option Addr} {sl19 : Array (Option Value)} {oc19 kV19 dc19 pm19 cd19 ct19 : Value} {C_Board : Addr} {ug_GREATEST_KNOT : Tok} {ug_LONGEST_CUT : Tok} {ug_MOST_INPUTS : Tok}
  (aC_Board : PySem.W.nsIn K mainGlobals "Board" = some (some (.ref C_Board)))
  (a0 : PySem.W.nsIn K mainGlobals "full_column" = some (some (.ref f0)))
  (l0 : K.lookup f0 = some ⟨oc0, od0, .func (PySem.W.fnOf "full_column" "full_column" (defArgs s_full_column) (defBody s_full_column) (defScope s_full_column) .none kV0 dc0 pm0 an0 cd0 ct0), sl0⟩)
  (c0 : PySem.W.codeIn K cd0 "full_column" = true)
  (k0 : PySem.W.keepIn K (.ref f0) = true)
  (a1 : PySem.W.nsIn K mainGlobals "is_whole" = some (some (.ref f1)))
  (l1 : K.lookup f1 = some ⟨oc1, od1, .func (PySem.W.fnOf "is_whole" "is_whole" (defArgs s_is_whole) (defBody s_is_whole) (defScope s_is_whole) .none kV1 dc1 pm1 an1 cd1 ct1), sl1⟩)
  (c1 : PySem.W.codeIn K cd1 "is_whole" = true)
  (k1 : PySem.W.keepIn K (.ref f1) = true)
  (a2 : PySem.W.nsIn K mainGlobals "is_between" = some (some (.ref f2)))
  (l2 : K.lookup f2 = some ⟨oc2, od2, .func (PySem.W.fnOf "is_between" "is_between" (defArgs s_is_between) (defBody s_is_between) (defScope s_is_between) .none kV2 dc2 pm2 an2 cd2 ct2), sl2⟩)
  (c2 : PySem.W.codeIn K cd2 "is_between" = true)
  (k2 : PySem.W.keepIn K (.ref f2) = true)
  (a3 : PySem.W.nsIn K mainGlobals "is_rising" = some (some (.ref f3)))
  (l3 : K.lookup f3 = some ⟨oc3, od3, .func (PySem.W.fnOf "is_rising" "is_rising" (defArgs s_is_rising) (defBody s_is_rising) (defScope s_is_rising) .none kV3 dc3 pm3 an3 cd3 ct3), sl3⟩)
  (c3 : PySem.W.codeIn K cd3 "is_rising" = true)
  (k3 : PySem.W.keepIn K (.ref f3) = true)
  (a4 : PySem.W.nsIn K mainGlobals "is_cut_of" = some (some (.ref f4)))
  (l4 : K.lookup f4 = some ⟨oc4, od4, .func (PySem.W.fnOf "is_cut_of" "is_cut_of" (defArgs s_is_cut_of) (defBody s_is_cut_of) (defScope s_is_cut_of) .none kV4 dc4 pm4 an4 cd4 ct4), sl4⟩)
  (c4 : PySem.W.codeIn K cd4 "is_cut_of" = true)
  (k4 : PySem.W.keepIn K (.ref f4) = true)
  (a5 : PySem.W.nsIn K mainGlobals "need_pieces" = some (some (.ref f5)))
  (l5 : K.lookup f5 = some ⟨oc5, od5, .func (PySem.W.fnOf "need_pieces" "need_pieces" (defArgs s_need_pieces) (defBody s_need_pieces) (defScope s_need_pieces) .none kV5 dc5 pm5 an5 cd5 ct5), sl5⟩)
  (c5 : PySem.W.codeIn K cd5 "need_pieces" = true)
  (k5 : PySem.W.keepIn K (.ref f5) = true)
  (a6 : PySem.W.nsIn K mainGlobals "need_ties" = some (some (.ref f6)))
  (l6 : K.lookup f6 = some ⟨oc6, od6, .func (PySem.W.fnOf "need_ties" "need_ties" (defArgs s_need_ties) (defBody s_need_ties) (defScope s_need_ties) .none kV6 dc6 pm6 an6 cd6 ct6), sl6⟩)
  (c6 : PySem.W.codeIn K cd6 "need_ties" = true)
  (k6 : PySem.W.keepIn K (.ref f6) = true)
  (a7 : PySem.W.findIn K (.ref C_Board) "__init__" = some (some (.ref f7)))
  (i7 : PySem.W.isFn K (.ref f7) = true)
  (l7 : K.lookup f7 = some ⟨oc7, od7, .func (PySem.W.fnOf "__init__" "Board.__init__" (defArgs s_Board___init__) (defBody s_Board___init__) (defScope s_Board___init__) .none kV7 dc7 pm7 an7 cd7 ct7), sl7⟩)
  (c7 : PySem.W.codeIn K cd7 "Board.__init__" = true)
  (k7 : PySem.W.keepIn K (.ref f7) = true)
  (a8 : PySem.W.findIn K (.ref C_Board) "pieces" = some (some (.ref f8)))
  (i8 : PySem.W.isFn K (.ref f8) = true)
  (l8 : K.lookup f8 = some ⟨oc8, od8, .func (PySem.W.fnOf "pieces" "Board.pieces" (defArgs s_Board_pieces) (defBody s_Board_pieces) (defScope s_Board_pieces) .none kV8 dc8 pm8 an8 cd8 ct8), sl8⟩)
  (c8 : PySem.W.codeIn K cd8 "Board.pieces" = true)
  (k8 : PySem.W.keepIn K (.ref f8) = true)
  (a9 : PySem.W.findIn K (.ref C_Board) "ties" = some (some (.ref f9)))
  (i9 : PySem.W.isFn K (.ref f9) = true)
  (l9 : K.lookup f9 = some ⟨oc9, od9, .func (PySem.W.fnOf "ties" "Board.ties" (defArgs s_Board_ties) (defBody s_Board_ties) (defScope s_Board_ties) .none kV9 dc9 pm9 an9 cd9 ct9), sl9⟩)
  (c9 : PySem.W.codeIn K cd9 "Board.ties" = true)
  (k9 : PySem.W.keepIn K (.ref f9) = true)
  (a10 : PySem.W.nsIn K mainGlobals "table_text" = some (some (.ref f10)))
  (l10 : K.lookup f10 = some ⟨oc10, od10, .func (PySem.W.fnOf "table_text" "table_text" (defArgs s_table_text) (defBody s_table_text) (defScope s_table_text) .none kV10 dc10 pm10 an10 cd10 ct10), sl10⟩)
  (c10 : PySem.W.codeIn K cd10 "table_text" = true)
  (k10 : PySem.W.keepIn K (.ref f10) = true)
  (a11 : PySem.W.nsIn K mainGlobals "tie_text" = some (some (.ref f11)))
  (l11 : K.lookup f11 = some ⟨oc11, od11, .func (PySem.W.fnOf "tie_text" "tie_text" (defArgs s_tie_text) (defBody s_tie_text) (defScope s_tie_text) .none kV11 dc11 pm11 an11 cd11 ct11), sl11⟩)
  (c11 : PySem.W.codeIn K cd11 "tie_text" = true)
  (k11 : PySem.W.keepIn K (.ref f11) = true)
  (a12 : PySem.W.nsIn K mainGlobals "board_lines" = some (some (.ref f12)))
  (l12 : K.lookup f12 = some ⟨oc12, od12, .func (PySem.W.fnOf "board_lines" "board_lines" (defArgs s_board_lines) (defBody s_board_lines) (defScope s_board_lines) .none kV12 dc12 pm12 an12 cd12 ct12), sl12⟩)
  (c12 : PySem.W.codeIn K cd12 "board_lines" = true)
  (k12 : PySem.W.keepIn K (.ref f12) = true)
  (a13 : PySem.W.nsIn K mainGlobals "_law_cell_at" = some (some (.ref f13)))
  (l13 : K.lookup f13 = some ⟨oc13, od13, .func (PySem.W.fnOf "_law_cell_at" "_law_cell_at" (defArgs s_law_cell_at) (defBody s_law_cell_at) (defScope s_law_cell_at) .none kV13 dc13 pm13 an13 cd13 ct13), sl13⟩)
  (c13 : PySem.W.codeIn K cd13 "_law_cell_at" = true)
  (k13 : PySem.W.keepIn K (.ref f13) = true)
  (a14 : PySem.W.nsIn K mainGlobals "_law_cut" = some (some (.ref f14)))
  (l14 : K.lookup f14 = some ⟨oc14, od14, .func (PySem.W.fnOf "_law_cut" "_law_cut" (defArgs s_law_cut) (defBody s_law_cut) (defScope s_law_cut) .none kV14 dc14 pm14 an14 cd14 ct14), sl14⟩)
  (c14 : PySem.W.codeIn K cd14 "_law_cut" = true)
  (k14 : PySem.W.keepIn K (.ref f14) = true)
  (a15 : PySem.W.nsIn K mainGlobals "_law_pieces" = some (some (.ref f15)))
  (l15 : K.lookup f15 = some ⟨oc15, od15, .func (PySem.W.fnOf "_law_pieces" "_law_pieces" (defArgs s_law_pieces) (defBody s_law_pieces) (defScope s_law_pieces) .none kV15 dc15 pm15 an15 cd15 ct15), sl15⟩)
  (c15 : PySem.W.codeIn K cd15 "_law_pieces" = true)
  (k15 : PySem.W.keepIn K (.ref f15) = true)
  (a16 : PySem.W.nsIn K mainGlobals "_law_ties" = some (some (.ref f16)))
  (l16 : K.lookup f16 = some ⟨oc16, od16, .func (PySem.W.fnOf "_law_ties" "_law_ties" (defArgs s_law_ties) (defBody s_law_ties) (defScope s_law_ties) .none kV16 dc16 pm16 an16 cd16 ct16), sl16⟩)
  (c16 : PySem.W.codeIn K cd16 "_law_ties" = true)
  (k16 : PySem.W.keepIn K (.ref f16) = true)
  (a17 : PySem.W.nsIn K mainGlobals "_law_lines" = some (some (.ref f17)))
  (l17 : K.lookup f17 = some ⟨oc17, od17, .func (PySem.W.fnOf "_law_lines" "_law_lines" (defArgs s_law_lines) (defBody s_law_lines) (defScope s_law_lines) .none kV17 dc17 pm17 an17 cd17 ct17), sl17⟩)
  (c17 : PySem.W.codeIn K cd17 "_law_lines" = true)
  (k17 : PySem.W.keepIn K (.ref f17) = true)
  (a18 : PySem.W.nsIn K mainGlobals "_law_same" = some (some (.ref f18)))
  (l18 : K.lookup f18 = some ⟨oc18, od18, .func (PySem.W.fnOf "_law_same" "_law_same" (defArgs s_law_same) (defBody s_law_same) (defScope s_law_same) .none kV18 dc18 pm18 an18 cd18 ct18), sl18⟩)
  (c18 : PySem.W.codeIn K cd18 "_law_same" = true)
  (k18 : PySem.W.keepIn K (.ref f18) = true)
  (a19 : PySem.W.nsIn K mainGlobals "law" = some (some (.ref f19)))
  (l19 : K.lookup f19 = some ⟨oc19, od19, .func (PySem.W.fnOf "law" "law" (defArgs s_law) (defBody s_law) (defScope s_law) .none kV19 dc19 pm19 an19 cd19 ct19), sl19⟩)
  (c19 : PySem.W.codeIn K cd19 "law" = true)
  (k19 : PySem.W.keepIn K (.ref f19) = true)
  (pg_Board : PySem.W.plainGet K C_Board Str.empty = true)
  (hd_Board : PySem.W.hasDictIn K C_Board = true)
  (po_Board : PySem.W.plainOver K C_Board = true)
  (sa_Board : PySem.W.findIn K (.ref C_Board) "__setattr__" = some (some (.builtin "object.__setattr__")))
  (mk_Board : PySem.W.makesIn K C_Board = true)
  (kc_Board : PySem.W.keepIn K (.ref C_Board) = true)
  (n_Board_many : PySem.W.findIn K (.ref C_Board) "many" = some none)
  (n_Board_kept_pieces : PySem.W.findIn K (.ref C_Board) "kept_pieces" = some none)
  (n_Board_kept_ties : PySem.W.findIn K (.ref C_Board) "kept_ties" = some none)
  (g_GREATEST_KNOT : PySem.W.nsIn K mainGlobals "GREATEST_KNOT" = some (some (.int 999 ug_GREATEST_KNOT)))
  (g_LONGEST_CUT : PySem.W.nsIn K mainGlobals "LONGEST_CUT" = some (some (.int 6 ug_LONGEST_CUT)))
  (g_MOST_INPUTS : PySem.W.nsIn K mainGlobals "MOST_INPUTS" = some (some (.int 10 ug_MOST_INPUTS)))
  (z_all : PySem.W.nsIn K mainGlobals "all" = some none)
  (z_bool : PySem.W.nsIn K mainGlobals "bool" = some none)
  (z_dict : PySem.W.nsIn K mainGlobals "dict" = some none)
  (z_int : PySem.W.nsIn K mainGlobals "int" = some none)
  (z_isinstance : PySem.W.nsIn K mainGlobals "isinstance" = some none)
  (z_len : PySem.W.nsIn K mainGlobals "len" = some none)
  (z_list : PySem.W.nsIn K mainGlobals "list" = some none)
  (z_max : PySem.W.nsIn K mainGlobals "max" = some none)
  (z_min : PySem.W.nsIn K mainGlobals "min" = some none)
  (z_range : PySem.W.nsIn K mainGlobals "range" = some none)
  (z_sorted : PySem.W.nsIn K mainGlobals "sorted" = some none)
  (z_str : PySem.W.nsIn K mainGlobals "str" = some none)
  (z_tuple : PySem.W.nsIn K mainGlobals "tuple" = some none)
  (z_zip : PySem.W.nsIn K mainGlobals "zip" = some none) :
  ∃ fd : FuncData, (∀ (s : Shared) (v : Value), BindsTo s fd ⟨[v], []⟩ [("_law_script", v)]) ∧ ∀ base : Heap, K.In base → base.Ns mainGlobals mg → FnOk l.prog w K mg base CX0 6 fa fd ["_law_script"] (sp_law K) := by
 have e := hfa.symm.trans (PySem.W.mg_of X G a19)
 cases e
 have F0 := fun_mk (st := s_full_column) l0 c0 k0
 have B0 := F0.binds (ps := ["many"]) fun _ _ _ _ _ _ us hl => by obtain ⟨_, rfl⟩ := lenN1 hl; rfl
 have F1 := fun_mk (st := s_is_whole) l1 c1 k1
 have B1 := F1.binds (ps := ["thing"]) fun _ _ _ _ _ _ us hl => by obtain ⟨_, rfl⟩ := lenN1 hl; rfl
 have F2 := fun_mk (st := s_is_between) l2 c2 k2
 have B2 := F2.binds (ps := ["thing", "least", "greatest"]) fun _ _ _ _ _ _ us hl => by obtain ⟨_, _, _, rfl⟩ := lenN3 hl; rfl
 have F3 := fun_mk (st := s_is_rising) l3 c3 k3
 have B3 := F3.binds (ps := ["numbers"]) fun _ _ _ _ _ _ us hl => by obtain ⟨_, rfl⟩ := lenN1 hl; rfl
 have F4 := fun_mk (st := s_is_cut_of) l4 c4 k4
 have B4 := F4.binds (ps := ["cut", "lowers"]) fun _ _ _ _ _ _ us hl => by obtain ⟨_, _, rfl⟩ := lenN2 hl; rfl
 have F5 := fun_mk (st := s_need_pieces) l5 c5 k5
 have B5 := F5.binds (ps := ["many", "pieces"]) fun _ _ _ _ _ _ us hl => by obtain ⟨_, _, rfl⟩ := lenN2 hl; rfl
 have F6 := fun_mk (st := s_need_ties) l6 c6 k6
 have B6 := F6.binds (ps := ["ties", "lowers"]) fun _ _ _ _ _ _ us hl => by obtain ⟨_, _, rfl⟩ := lenN2 hl; rfl
 have F7 := fun_mk (st := s_Board___init__) l7 c7 k7
 have B7 := F7.binds (ps := ["self", "many", "pieces", "ties"]) fun _ _ _ _ _ _ us hl => by obtain ⟨_, _, _, _, rfl⟩ := lenN4 hl; rfl
 have F8 := fun_mk (st := s_Board_pieces) l8 c8 k8
 have B8 := F8.binds (ps := ["self"]) fun _ _ _ _ _ _ us hl => by obtain ⟨_, rfl⟩ := lenN1 hl; rfl
 have F9 := fun_mk (st := s_Board_ties) l9 c9 k9
 have B9 := F9.binds (ps := ["self"]) fun _ _ _ _ _ _ us hl => by obtain ⟨_, rfl⟩ := lenN1 hl; rfl
 have F10 := fun_mk (st := s_table_text) l10 c10 k10
 have B10 := F10.binds (ps := ["table", "count"]) fun _ _ _ _ _ _ us hl => by obtain ⟨_, _, rfl⟩ := lenN2 hl; rfl
 have F11 := fun_mk (st := s_tie_text) l11 c11 k11
 have B11 := F11.binds (ps := ["tie"]) fun _ _ _ _ _ _ us hl => by obtain ⟨_, rfl⟩ := lenN1 hl; rfl
 have F12 := fun_mk (st := s_board_lines) l12 c12 k12
 have B12 := F12.binds (ps := ["board"]) fun _ _ _ _ _ _ us hl => by obtain ⟨_, rfl⟩ := lenN1 hl; rfl
 have F13 := fun_mk (st := s_law_cell_at) l13 c13 k13
 have B13 := F13.binds (ps := ["_law_script", "_law_k"]) fun _ _ _ _ _ _ us hl => by obtain ⟨_, _, rfl⟩ := lenN2 hl; rfl
 have F14 := fun_mk (st := s_law_cut) l14 c14 k14
 have B14 := F14.binds (ps := ["_law_cell", "_law_known"]) fun _ _ _ _ _ _ us hl => by obtain ⟨_, _, rfl⟩ := lenN2 hl; rfl
 have F15 := fun_mk (st := s_law_pieces) l15 c15 k15
 have B15 := F15.binds (ps := ["_law_script", "_law_many"]) fun _ _ _ _ _ _ us hl => by obtain ⟨_, _, rfl⟩ := lenN2 hl; rfl
 have F16 := fun_mk (st := s_law_ties) l16 c16 k16
 have B16 := F16.binds (ps := ["_law_cell", "_law_many", "_law_pieces_here"]) fun _ _ _ _ _ _ us hl => by obtain ⟨_, _, _, rfl⟩ := lenN3 hl; rfl
 have F17 := fun_mk (st := s_law_lines) l17 c17 k17
 have B17 := F17.binds (ps := ["_law_many", "_law_pieces_here", "_law_ties_here"]) fun _ _ _ _ _ _ us hl => by obtain ⟨_, _, _, rfl⟩ := lenN3 hl; rfl
 have F18 := fun_mk (st := s_law_same) l18 c18 k18
 have B18 := F18.binds (ps := ["_law_board", "_law_many", "_law_pieces_here", "_law_ties_here"]) fun _ _ _ _ _ _ us hl => by obtain ⟨_, _, _, _, rfl⟩ := lenN4 hl; rfl
 have F19 := fun_mk (st := s_law) l19 c19 k19
 have B19 := F19.binds (ps := ["_law_script"]) fun _ _ _ _ _ _ us hl => by obtain ⟨_, rfl⟩ := lenN1 hl; rfl
 have T : Txt K mg ⟨f0, _, f1, _, f2, _, f3, _, f4, _, f5, _, f6, _, f7, _, f8, _, f9, _, f10, _, f11, _, f12, _, f13, _, f14, _, f15, _, f16, _, f17, _, f18, _, _, _, C_Board⟩ := ⟨PySem.W.mg_of X G a0, F0, B0, PySem.W.mg_of X G a1, F1, B1, PySem.W.mg_of X G a2, F2, B2, PySem.W.mg_of X G a3, F3, B3, PySem.W.mg_of X G a4, F4, B4, PySem.W.mg_of X G a5, F5, B5, PySem.W.mg_of X G a6, F6, B6, F7, B7, F8, B8, ⟨a8, i8, k8⟩, F9, B9, ⟨a9, i9, k9⟩, PySem.W.mg_of X G a10, F10, B10, PySem.W.mg_of X G a11, F11, B11, PySem.W.mg_of X G a12, F12, B12, PySem.W.mg_of X G a13, F13, B13, PySem.W.mg_of X G a14, F14, B14, PySem.W.mg_of X G a15, F15, B15, PySem.W.mg_of X G a16, F16, B16, PySem.W.mg_of X G a17, F17, B17, PySem.W.mg_of X G a18, F18, B18, PySem.W.mg_of X G a19, F19, B19, PySem.W.mg_of X G aC_Board, ⟨pg_Board, hd_Board, po_Board, sa_Board⟩, ⟨mk_Board, a7, i7, kc_Board⟩, n_Board_many, n_Board_kept_pieces, n_Board_kept_ties, ⟨_, PySem.W.mg_of X G g_GREATEST_KNOT, ⟨_, rfl⟩⟩, ⟨_, PySem.W.mg_of X G g_LONGEST_CUT, ⟨_, rfl⟩⟩, ⟨_, PySem.W.mg_of X G g_MOST_INPUTS, ⟨_, rfl⟩⟩, PySem.W.mg_none_of X G z_all, PySem.W.mg_none_of X G z_bool, PySem.W.mg_none_of X G z_dict, PySem.W.mg_none_of X G z_int, PySem.W.mg_none_of X G z_isinstance, PySem.W.mg_none_of X G z_len, PySem.W.mg_none_of X G z_list, PySem.W.mg_none_of X G z_max, PySem.W.mg_none_of X G z_min, PySem.W.mg_none_of X G z_range, PySem.W.mg_none_of X G z_sorted, PySem.W.mg_none_of X G z_str, PySem.W.mg_none_of X G z_tuple, PySem.W.mg_none_of X G z_zip⟩
 exact ⟨_, fun s v => .of_eq rfl, fun base _ _ => ok_law T⟩
theorem walk {l : PySem.W.OpenLaw} {q : Program} {loose : List Str} {XP : (Str → Option Value) → Heap → Prop} {YP : World → Heap → Prop} {d : DefRec} {K : Params → PySem.W.Frag} (hn : l.most = some 63) (hdf : d.params.defaults = [])
  (hY : ∀ (w : World) (h : Heap), YP w h → (K w.params).In h)
  (F : ∀ (w : World) (mg : Str → Option Value) (fa : Addr) (h : Heap), (K w.params).In h → h.Ns mainGlobals mg → mg d.name = some (.ref fa) →
   ∃ fd : FuncData, (∀ (s : Shared) (u : Value), BindsTo s fd ⟨[u], []⟩ [("_law_script", u)]) ∧ ∀ base : Heap, (K w.params).In base → base.Ns mainGlobals mg → FnOk l.prog w (K w.params) mg base CX0 6 fa fd ["_law_script"] (sp_law (K w.params))) :
  PySem.W.WalkO q loose XP YP l.row.toRowW d [] (fun f vs => PySem.call f vs) :=
 L2.walk_of (n := 63) (k := 6) (x := "_law_script") (CX := fun _ => CX0) (sp := fun w => sp_law (K w.params)) hn (by decide) hdf ⟨rfl, by decide, by decide⟩ hY F (fun _ _ a ns hl _ hS => ⟨a, ns, rfl, hS, hl, fun _ => rfl⟩) fun _ _ _ _ _ z => z
end K38
lay_quick PySem.Challenge.pw_gatefold_k38_board_lines
namespace OT
open PySem PySem.W PySem.Spec PyProof.Rows L2
abbrev PM := Params
abbrev OB := Obj
noncomputable abbrev TP : Program := PySem.W.Fast.tw3334233930621351735
noncomputable def tT (i : Nat) : Stmt := TP.main.body.getD i (.Pass ⟨0, 0, 0, 0⟩)
abbrev vs (s : Str) (t : Nat) : Value := .str s t
abbrev vr (a : Nat) : Value := .ref a
abbrev vi (a : Int) (t : Nat) : Value := .int a t
abbrev vn : Value := .none
abbrev df (a : Array Value) : Data := .fields a
abbrev dq (a : Array Value) (n : Nat) : Data := .seq a n
abbrev dd (a : Array DictEntry) (n : Nat) : Data := .dict a n
noncomputable abbrev de (P : Params) (s : Str) (t : Nat) (v : Value) : DictEntry := .mk (PyData.keyHash P s) (.str s t) v
abbrev ob (t : String) (d : Data) (sl : Array (Option Value)) : Obj := ⟨.type t, none, d, sl⟩
abbrev nd := BT.node
abbrev nl := BT.nil
noncomputable abbrev y0 : String := PySem.W.SL.s2766695959194262286x5
noncomputable abbrev y1 : String := PySem.W.SL.s5856160107412720595x4
noncomputable abbrev y2 : String := PySem.W.SL.s658472552662922059x5
noncomputable abbrev y3 : String := PySem.W.SL.s14018661285674007319x4
noncomputable abbrev y4 : String := PySem.W.SL.s7097527257260152453x26
noncomputable abbrev y5 : String := PySem.W.SL.s7174869446012820540x8
noncomputable abbrev y6 : String := PySem.W.SL.s6070975301684473832x10
noncomputable abbrev y7 : String := PySem.W.SL.s11030030927630378310x26
noncomputable abbrev y8 : String := PySem.W.SL.s10062305145149207511x16
noncomputable abbrev y9 : String := PySem.W.SL.s17162191345867700912x4
noncomputable abbrev y10 : String := PySem.W.SL.s5946037652744460706x9
noncomputable abbrev y11 : String := PySem.W.SL.s4278001404047624695x13
noncomputable abbrev y12 : String := PySem.W.SL.s2742458400755230247x6
noncomputable abbrev y13 : String := PySem.W.SL.s4209523147560561109x18
noncomputable abbrev y14 : String := PySem.W.SL.s14755015743595814543x17
noncomputable abbrev y15 : String := PySem.W.SL.s10220274742760427390x26
noncomputable abbrev y16 : String := PySem.W.SL.s4290257624100764138x5
noncomputable abbrev y17 : String := PySem.W.SL.s4860613602091757760x24
noncomputable abbrev y18 : String := PySem.W.SL.s11443829558043349243x14
noncomputable abbrev y19 : String := PySem.W.SL.s6511155373996960695x17
noncomputable abbrev y20 : String := PySem.W.SL.s12411053484034534018x21
noncomputable abbrev b0 (P : PM) : OB := PySem.W.boot_o_0 P
noncomputable abbrev b1 (P : PM) : OB := PySem.W.boot_o_1 P
noncomputable abbrev b2 (P : PM) : OB := PySem.W.boot_o_2 P
noncomputable abbrev b3 (P : PM) : OB := PySem.W.boot_o_3 P
noncomputable abbrev b4 (P : PM) : OB := PySem.W.boot_o_4 P
noncomputable abbrev b5 (P : PM) : OB := PySem.W.boot_o_5 P
noncomputable abbrev b6 (P : PM) : OB := PySem.W.boot_o_6 P
noncomputable abbrev b7 (P : PM) : OB := PySem.W.boot_o_7 P
noncomputable abbrev b8 (P : PM) : OB := PySem.W.boot_o_8 P
noncomputable abbrev b9 (P : PM) : OB := PySem.W.boot_o_9 P
noncomputable abbrev b10 (P : PM) : OB := PySem.W.boot_o_10 P
noncomputable abbrev j0 (a b : Str) (s : Stmt) : OB := ⟨vn, none, .func (.mk a b (defArgs s) (.stmts (defBody s)) (defScope s) 0 [] vn vn vn vn none vn vn 0), ⟨[]⟩⟩
noncomputable abbrev j1 (a b : Str) (s : Stmt) (q : Str) (t n : Nat) : OB := ⟨(Value.type y5), none, .func (.mk a b (defArgs s) (.stmts (defBody s)) (defScope s) 3 [] vn vn vn (vs q t) none (vr n) vn 0), ⟨[]⟩⟩
abbrev q0 : Str := ⟨⟨[105,115,95,98,101,116,119,101,101,110]⟩⟩
abbrev q1 : Str := ⟨⟨[116,104,105,110,103]⟩⟩
abbrev q2 : Str := ⟨⟨[108,101,97,115,116]⟩⟩
abbrev q3 : Str := ⟨⟨[103,114,101,97,116,101,115,116]⟩⟩
abbrev q4 : Str := ⟨⟨[105,115,95,119,104,111,108,101]⟩⟩
abbrev q5 : Str := ⟨⟨[103,97,116,101,102,111,108,100,46,119,104,111,108,101,115]⟩⟩
abbrev q6 : Str := ⟨⟨[105,115,105,110,115,116,97,110,99,101]⟩⟩
abbrev q7 : Str := ⟨⟨[105,110,116]⟩⟩
abbrev q8 : Str := ⟨⟨[98,111,111,108]⟩⟩
abbrev q9 : Str := ⟨⟨[105,115,95,99,117,116,95,111,102]⟩⟩
abbrev q10 : Str := ⟨⟨[47,99,108,97,105,109,47,99,117,116,46,112,121]⟩⟩
abbrev q11 : Str := ⟨⟨[112,105,101,99,101,115]⟩⟩
abbrev q12 : Str := ⟨⟨[66,111,97,114,100,46,112,105,101,99,101,115]⟩⟩
abbrev q13 : Str := ⟨⟨[115,101,108,102]⟩⟩
abbrev q18 : Str := ⟨⟨[107,101,112,116,95,112,105,101,99,101,115]⟩⟩
abbrev q21 : Str := ⟨⟨[95,108,97,119,95,115,97,109,101]⟩⟩
abbrev q22 : Str := ⟨⟨[95,108,97,119,95,98,111,97,114,100]⟩⟩
abbrev q23 : Str := ⟨⟨[95,108,97,119,95,109,97,110,121]⟩⟩
abbrev q24 : Str := ⟨⟨[95,108,97,119,95,112,105,101,99,101,115,95,104,101,114,101]⟩⟩
abbrev q25 : Str := ⟨⟨[95,108,97,119,95,116,105,101,115,95,104,101,114,101]⟩⟩
abbrev q26 : Str := ⟨⟨[95,108,97,119,95,102,111,117,110,100]⟩⟩
abbrev q27 : Str := ⟨⟨[109,97,110,121]⟩⟩
abbrev q28 : Str := ⟨⟨[116,105,101,115]⟩⟩
abbrev q29 : Str := ⟨⟨[95,108,97,119,95,112,105,101,99,101]⟩⟩
abbrev q32 : Str := ⟨⟨[110,101,101,100,95,116,105,101,115]⟩⟩
abbrev q33 : Str := ⟨⟨[108,111,119,101,114,115]⟩⟩
abbrev q35 : Str := ⟨⟨[78,111,66,111,97,114,100]⟩⟩
abbrev q37 : Str := ⟨⟨[116,105,101]⟩⟩
abbrev q39 : Str := ⟨⟨[95,95,109,111,100,117,108,101,95,95]⟩⟩
abbrev q40 : Str := ⟨⟨[103,97,116,101,102,111,108,100,46,101,114,114,111,114,115]⟩⟩
abbrev q41 : Str := ⟨⟨[95,95,102,105,114,115,116,108,105,110,101,110,111,95,95]⟩⟩
abbrev q42 : Str := ⟨⟨[95,95,115,116,97,116,105,99,95,97,116,116,114,105,98,117,116,101,115,95,95]⟩⟩
abbrev q43 : Str := ⟨⟨[95,95,119,101,97,107,114,101,102,95,95]⟩⟩
abbrev q44 : Str := ⟨⟨[95,95,100,111,99,95,95]⟩⟩
abbrev q45 : Str := ⟨⟨[102,117,108,108,95,99,111,108,117,109,110]⟩⟩
abbrev q46 : Str := ⟨⟨[66,111,97,114,100,46,116,105,101,115]⟩⟩
abbrev q47 : Str := ⟨⟨[107,101,112,116,95,116,105,101,115]⟩⟩
abbrev q48 : Str := ⟨⟨[103,97,116,101,102,111,108,100,46,98,111,97,114,100,115]⟩⟩
abbrev q49 : Str := ⟨⟨[95,108,97,119,95,112,105,101,99,101,115]⟩⟩
abbrev q50 : Str := ⟨⟨[66,111,97,114,100]⟩⟩
abbrev q51 : Str := ⟨⟨[116,105,101,95,116,101,120,116]⟩⟩
abbrev q52 : Str := ⟨⟨[115,105,103,110]⟩⟩
abbrev q56 : Str := ⟨⟨[103,97,116,101,102,111,108,100,46,98,111,97,114,100,108,105,110,101,115]⟩⟩
abbrev q57 : Str := ⟨⟨[95,108,97,119,95,116,105,101,115]⟩⟩
abbrev q58 : Str := ⟨⟨[95,95,113,117,97,108,110,97,109,101,95,95]⟩⟩
abbrev q59 : Str := ⟨⟨[70,111,108,100,69,114,114,111,114]⟩⟩
abbrev q60 : Str := ⟨⟨[95,108,97,119,95,108,105,110,101,115]⟩⟩
abbrev q61 : Str := ⟨⟨[107]⟩⟩
abbrev q62 : Str := ⟨⟨[110,101,101,100,95,112,105,101,99,101,115]⟩⟩
abbrev q66 : Str := ⟨⟨[71,82,69,65,84,69,83,84,95,75,78,79,84]⟩⟩
abbrev q69 : Str := ⟨⟨[60,109,111,100,117,108,101,62]⟩⟩
abbrev q70 : Str := ⟨⟨[95,119,97,108,108]⟩⟩
abbrev q71 : Str := ⟨⟨[76,79,78,71,69,83,84,95,67,85,84]⟩⟩
abbrev q74 : Str := ⟨⟨[105,115,95,114,105,115,105,110,103]⟩⟩
abbrev q75 : Str := ⟨⟨[95,108,97,119,95,99,101,108,108]⟩⟩
abbrev q77 : Str := ⟨⟨[95,108,97,119,95,106]⟩⟩
abbrev q78 : Str := ⟨⟨[95,108,97,119,95,111,110,101]⟩⟩
abbrev q79 : Str := ⟨⟨[95,108,97,119,95,97,116]⟩⟩
abbrev q82 : Str := ⟨⟨[108,97,119,95,103,97,116,101,102,111,108,100,95,107,51,56,95,98,111,97,114,100,95,108,105,110,101,115]⟩⟩
abbrev q87 : Str := ⟨⟨[95,108,97,119,95,115,99,114,105,112,116]⟩⟩
abbrev q88 : Str := ⟨⟨[95,108,97,119,95,107]⟩⟩
abbrev q89 : Str := ⟨⟨[95,95,110,97,109,101,95,95]⟩⟩
abbrev q90 : Str := ⟨⟨[95,95,112,97,99,107,97,103,101,95,95]⟩⟩
abbrev q91 : Str := ⟨⟨[95,95,108,111,97,100,101,114,95,95]⟩⟩
abbrev q92 : Str := ⟨⟨[95,95,115,112,101,99,95,95]⟩⟩
abbrev q93 : Str := ⟨⟨[95,95,97,110,110,111,116,97,116,105,111,110,115,95,95]⟩⟩
abbrev q94 : Str := ⟨⟨[95,95,98,117,105,108,116,105,110,115,95,95]⟩⟩
abbrev q95 : Str := ⟨⟨[95,95,102,105,108,101,95,95]⟩⟩
abbrev q96 : Str := ⟨⟨[95,95,99,97,99,104,101,100,95,95]⟩⟩
abbrev q97 : Str := ⟨⟨[77,79,83,84,95,73,78,80,85,84,83]⟩⟩
abbrev q98 : Str := ⟨⟨[116,97,98,108,101,95,116,101,120,116]⟩⟩
abbrev q99 : Str := ⟨⟨[98,111,97,114,100,95,108,105,110,101,115]⟩⟩
abbrev q100 : Str := ⟨⟨[95,108,97,119,95,99,101,108,108,95,97,116]⟩⟩
abbrev q101 : Str := ⟨⟨[95,108,97,119,95,99,117,116]⟩⟩
abbrev q102 : Str := ⟨⟨[108,97,119]⟩⟩
abbrev q104 : Str := ⟨⟨[95,108,97,119,95,107,110,111,116]⟩⟩
abbrev q105 : Str := ⟨⟨[95,108,97,119,95,99,117,116,95,104,101,114,101]⟩⟩
abbrev q118 : Str := ⟨⟨[95,108,97,119,95,107,110,111,119,110]⟩⟩
abbrev q120 : Str := ⟨⟨[100,101,112,116,104,115]⟩⟩
abbrev q121 : Str := ⟨⟨[66,111,97,114,100,46,100,101,112,116,104,115]⟩⟩
abbrev q122 : Str := ⟨⟨[99,111,108,117,109,110,115]⟩⟩
abbrev q123 : Str := ⟨⟨[66,111,97,114,100,46,99,111,108,117,109,110,115]⟩⟩
abbrev q124 : Str := ⟨⟨[95,95,105,110,105,116,95,95]⟩⟩
abbrev q125 : Str := ⟨⟨[66,111,97,114,100,46,95,95,105,110,105,116,95,95]⟩⟩
abbrev q132 : Str := ⟨⟨[95,95,109,97,105,110,95,95]⟩⟩
abbrev q135 : Str := ⟨⟨[95,95,100,105,99,116,95,95]⟩⟩
abbrev q137 : Str := ⟨⟨[103,97,116,101,102,111,108,100,46,98,105,116,115]⟩⟩
noncomputable def o43 (P : PM) : OB := (ob y0 (dq ⟨[]⟩ 0) ⟨[]⟩)
noncomputable def o44 (P : PM) : OB := (Obj.mk vn none (df ⟨[]⟩) ⟨[]⟩)
noncomputable def o45 (P : PM) : OB := (ob y1 (df ⟨[vs q69 182,vs q69 183,vs q10 184,vi 1 0,vi 0 0,vi 0 0,vi 0 0,vi 0 0,vr 11,(Value.bool false),vi 181 0,vr 12,vn,vn,vn,vn,vi 185 0,vi 1 0,vs q10 186]⟩) ⟨[]⟩)
noncomputable def o46 (P : PM) : OB := (ob y2 Data.plain ⟨[(some (vr 13)),(some (vr 3)),(some (vr 3)),none,(some (vs q132 164)),none,(some (vr 0))]⟩)
noncomputable def o49 (P : PM) : OB := (ob y3 (dd ⟨[de P q89 165 (vs q40 203),de P q44 166 vn,de P q90 167 vn,de P q91 168 (Value.builtin y4),de P q92 169 vn,de P q93 170 (vr 6),de P q94 171 (vr 4),de P q95 173 (vs q10 172),de P q96 174 vn,de P q70 193 (vr 21),de P q45 202 (vr 28),de P q59 222 (vr 38)]⟩ 12) ⟨[]⟩)
noncomputable def o50 (P : PM) : OB := (Obj.mk vn none (df ⟨[vi 1 0,vi 0 0,vr 20,vi 5 0,vi 0 0,vr 27,vi 8 0,vi 0 0,vr 34]⟩) ⟨[]⟩)
noncomputable def o53 (P : PM) : OB := (ob y0 (dq ⟨[vs q61 190]⟩ 0) ⟨[]⟩)
noncomputable def o55 (P : PM) : OB := j0 q70 q70 (tT 0)
noncomputable def o56 (P : PM) : OB := (ob y1 (df ⟨[vs q70 187,vs q70 188,vs q10 189,vi 1 0,vi 1 0,vi 0 0,vi 0 0,vi 3 0,vr 15,(Value.bool true),vi 181 0,vr 16,vn,vr 17,vr 18,vr 19,vi 191 0,vi 1 0,vs q10 192]⟩) ⟨[]⟩)
noncomputable def o57 (P : PM) : OB := j1 q70 q70 (tT 0) q132 164 20
noncomputable def o60 (P : PM) : OB := (ob y0 (dq ⟨[vs q27 199]⟩ 0) ⟨[]⟩)
noncomputable def o62 (P : PM) : OB := j0 q45 q45 (tT 2)
noncomputable def o63 (P : PM) : OB := (ob y1 (df ⟨[vs q45 196,vs q45 197,vs q10 198,vi 5 0,vi 1 0,vi 0 0,vi 0 0,vi 3 0,vr 22,(Value.bool true),vi 181 0,vr 23,vn,vr 24,vr 25,vr 26,vi 200 0,vi 5 0,vs q10 201]⟩) ⟨[]⟩)
noncomputable def o64 (P : PM) : OB := j1 q45 q45 (tT 2) q137 194 27
noncomputable def o65 (P : PM) : OB := (ob y0 (dq ⟨[(Value.type y6)]⟩ 0) ⟨[]⟩)
noncomputable def o66 (P : PM) : OB := (ob y7 (df ⟨[(Value.builtin y8),(Value.type y9)]⟩) ⟨[]⟩)
noncomputable def o67 (P : PM) : OB := (ob y3 (dd ⟨[de P q39 212 (vs q40 203),de P q58 214 (vs q59 213),de P q41 216 (vi 8 215),de P q42 217 (vr 36)]⟩ 4) ⟨[]⟩)
noncomputable def o70 (P : PM) : OB := (ob y1 (df ⟨[vs q59 207,vs q59 208,vs q10 209,vi 8 0,vi 0 0,vi 0 0,vi 0 0,vi 0 0,vr 32,(Value.bool false),vi 181 0,vr 33,vn,vn,vn,vn,vi 210 0,vi 8 0,vs q10 211]⟩) ⟨[]⟩)
noncomputable def o71 (P : PM) : OB := (ob y2 Data.plain ⟨[(some (vr 34)),(some (vr 3)),(some (vr 31)),none,(some (vs q40 203)),none,(some (vr 0))]⟩)
noncomputable def o73 (P : PM) : OB := (ob y3 (dd ⟨[de P q39 212 (vs q40 203),de P q41 216 (vi 8 215),de P q42 217 (vr 36),de P q43 219 (vr 39),de P q44 220 vn]⟩ 3) ⟨[]⟩)
noncomputable def o74 (P : PM) : OB := (ob y9 (Data.cls (ClassData.mk q59 [(Value.type y6)] [vr 38,(Value.type y6),(Value.type y10),(Value.type y11),(Value.type y12)] 37 q59 true [] [] false none false)) ⟨[(some (vr 29)),none,(some (vs q59 205)),(some (vs q59 213)),(some (Value.builtin y13)),(some (Value.bool true))]⟩)
noncomputable def o75 (P : PM) : OB := (ob y14 (df ⟨[vs q43 218,vr 38,(Value.builtin y15),vn]⟩) ⟨[]⟩)
noncomputable def o76 (P : PM) : OB := (ob y16 (df ⟨[vr 38,vr 38,vr 38]⟩) ⟨[]⟩)
noncomputable def o77 (P : PM) : OB := (ob y7 (df ⟨[(Value.builtin y17),vr 38]⟩) ⟨[]⟩)
noncomputable def o78 (P : PM) : OB := (ob y3 (dd ⟨[de P q89 165 (vs q48 263),de P q44 166 vn,de P q90 167 vn,de P q91 168 (Value.builtin y4),de P q92 169 vn,de P q93 170 (vr 6),de P q94 171 (vr 4),de P q95 173 (vs q10 172),de P q96 174 vn,de P q70 193 (vr 21),de P q45 202 (vr 28),de P q59 222 (vr 38),de P q35 238 (vr 51),de P q4 247 (vr 60),de P q0 256 (vr 67),de P q74 262 (vr 72),de P q97 266 (vi 10 265),de P q66 268 (vi 999 267),de P q71 270 (vi 6 269),de P q9 276 (vr 77),de P q62 282 (vr 82)]⟩ 21) ⟨[]⟩)
noncomputable def o79 (P : PM) : OB := (Obj.mk vn none (df ⟨[vi 1 0,vi 0 0,vr 20,vi 5 0,vi 0 0,vr 27,vi 8 0,vi 0 0,vr 34,vi 10 0,vi 0 0,vr 47,vi 13 0,vi 0 0,vr 59,vi 15 0,vi 0 0,vr 66,vi 17 0,vi 0 0,vr 71,vi 23 0,vi 0 0,vr 76,vi 29 0,vi 0 0,vr 81]⟩) ⟨[]⟩)
noncomputable def o80 (P : PM) : OB := (ob y9 (Data.cls (ClassData.mk q59 [(Value.type y6)] [vr 38,(Value.type y6),(Value.type y10),(Value.type y11),(Value.type y12)] 37 q59 true [] [vr 51] false none false)) ⟨[(some (vr 29)),none,(some (vs q59 205)),(some (vs q59 213)),(some (Value.builtin y13)),(some (Value.bool true))]⟩)
noncomputable def o81 (P : PM) : OB := (ob y0 (dq ⟨[vr 38]⟩ 0) ⟨[]⟩)
noncomputable def o83 (P : PM) : OB := (ob y3 (dd ⟨[de P q39 230 (vs q40 203),de P q58 232 (vs q35 231),de P q41 234 (vi 10 233),de P q42 235 (vr 49)]⟩ 4) ⟨[]⟩)
noncomputable def o86 (P : PM) : OB := (ob y1 (df ⟨[vs q35 225,vs q35 226,vs q10 227,vi 10 0,vi 0 0,vi 0 0,vi 0 0,vi 0 0,vr 45,(Value.bool false),vi 181 0,vr 46,vn,vn,vn,vn,vi 228 0,vi 10 0,vs q10 229]⟩) ⟨[]⟩)
noncomputable def o87 (P : PM) : OB := (ob y2 Data.plain ⟨[(some (vr 47)),(some (vr 3)),(some (vr 44)),none,(some (vs q40 203)),none,(some (vr 0))]⟩)
noncomputable def o89 (P : PM) : OB := (ob y3 (dd ⟨[de P q39 230 (vs q40 203),de P q41 234 (vi 10 233),de P q42 235 (vr 49),de P q44 236 vn]⟩ 2) ⟨[]⟩)
noncomputable def o90 (P : PM) : OB := (ob y9 (Data.cls (ClassData.mk q35 [vr 38] [vr 51,vr 38,(Value.type y6),(Value.type y10),(Value.type y11),(Value.type y12)] 50 q35 true [] [] false none false)) ⟨[(some (vr 42)),none,(some (vs q35 223)),(some (vs q35 231)),(some (Value.builtin y13)),(some (Value.bool true))]⟩)
noncomputable def o91 (P : PM) : OB := (ob y16 (df ⟨[vr 51,vr 51,vr 51]⟩) ⟨[]⟩)
noncomputable def o92 (P : PM) : OB := (ob y7 (df ⟨[(Value.builtin y17),vr 51]⟩) ⟨[]⟩)
noncomputable def o95 (P : PM) : OB := (ob y0 (dq ⟨[vs q1 244]⟩ 0) ⟨[]⟩)
noncomputable def o97 (P : PM) : OB := j0 q4 q4 (tT 7)
noncomputable def o98 (P : PM) : OB := (ob y1 (df ⟨[vs q4 241,vs q4 242,vs q10 243,vi 13 0,vi 1 0,vi 0 0,vi 0 0,vi 3 0,vr 54,(Value.bool true),vi 181 0,vr 55,vn,vr 56,vr 57,vr 58,vi 245 0,vi 13 0,vs q10 246]⟩) ⟨[]⟩)
noncomputable def o99 (P : PM) : OB := j1 q4 q4 (tT 7) q5 239 59
noncomputable def o102 (P : PM) : OB := (ob y0 (dq ⟨[vs q1 251,vs q2 252,vs q3 253]⟩ 0) ⟨[]⟩)
noncomputable def o104 (P : PM) : OB := j0 q0 q0 (tT 8)
noncomputable def o105 (P : PM) : OB := (ob y1 (df ⟨[vs q0 248,vs q0 249,vs q10 250,vi 15 0,vi 3 0,vi 0 0,vi 0 0,vi 3 0,vr 61,(Value.bool true),vi 181 0,vr 62,vn,vr 63,vr 64,vr 65,vi 254 0,vi 15 0,vs q10 255]⟩) ⟨[]⟩)
noncomputable def o106 (P : PM) : OB := j1 q0 q0 (tT 8) q5 239 66
noncomputable def o109 (P : PM) : OB := j0 q74 q74 (tT 9)
noncomputable def o110 (P : PM) : OB := (ob y1 (df ⟨[vs q74 257,vs q74 258,vs q10 259,vi 17 0,vi 1 0,vi 0 0,vi 0 0,vi 3 0,vr 68,(Value.bool true),vi 181 0,vr 69,vn,vn,vn,vr 70,vi 260 0,vi 17 0,vs q10 261]⟩) ⟨[]⟩)
noncomputable def o111 (P : PM) : OB := j1 q74 q74 (tT 9) q5 239 71
noncomputable def o114 (P : PM) : OB := j0 q9 q9 (tT 14)
noncomputable def o115 (P : PM) : OB := (ob y1 (df ⟨[vs q9 271,vs q9 272,vs q10 273,vi 23 0,vi 2 0,vi 0 0,vi 0 0,vi 3 0,vr 73,(Value.bool true),vi 181 0,vr 74,vn,vn,vn,vr 75,vi 274 0,vi 23 0,vs q10 275]⟩) ⟨[]⟩)
noncomputable def o116 (P : PM) : OB := j1 q9 q9 (tT 14) q48 263 76
noncomputable def o119 (P : PM) : OB := j0 q62 q62 (tT 15)
noncomputable def o120 (P : PM) : OB := (ob y1 (df ⟨[vs q62 277,vs q62 278,vs q10 279,vi 29 0,vi 2 0,vi 0 0,vi 0 0,vi 3 0,vr 78,(Value.bool true),vi 181 0,vr 79,vn,vn,vn,vr 80,vi 280 0,vi 29 0,vs q10 281]⟩) ⟨[]⟩)
noncomputable def o121 (P : PM) : OB := j1 q62 q62 (tT 15) q48 263 81
noncomputable def o122 (P : PM) : OB := (ob y3 (dd ⟨[de P q89 165 (vs q56 348),de P q44 166 vn,de P q90 167 vn,de P q91 168 (Value.builtin y4),de P q92 169 vn,de P q93 170 (vr 6),de P q94 171 (vr 4),de P q95 173 (vs q10 172),de P q96 174 vn,de P q70 193 (vr 21),de P q45 202 (vr 28),de P q59 222 (vr 38),de P q35 238 (vr 51),de P q4 247 (vr 60),de P q0 256 (vr 67),de P q74 262 (vr 72),de P q97 266 (vi 10 265),de P q66 268 (vi 999 267),de P q71 270 (vi 6 269),de P q9 276 (vr 77),de P q62 282 (vr 82),de P q32 291 (vr 89),de P q50 347 (vr 130)]⟩ 23) ⟨[]⟩)
noncomputable def o123 (P : PM) : OB := (Obj.mk vn none (df ⟨[vi 1 0,vi 0 0,vr 20,vi 5 0,vi 0 0,vr 27,vi 8 0,vi 0 0,vr 34,vi 10 0,vi 0 0,vr 47,vi 13 0,vi 0 0,vr 59,vi 15 0,vi 0 0,vr 66,vi 17 0,vi 0 0,vr 71,vi 23 0,vi 0 0,vr 76,vi 29 0,vi 0 0,vr 81,vi 40 0,vi 0 0,vr 88,vi 46 0,vi 0 0,vr 95]⟩) ⟨[]⟩)
noncomputable def o126 (P : PM) : OB := (ob y0 (dq ⟨[vs q28 286,vs q33 287,vs q37 288]⟩ 0) ⟨[]⟩)
noncomputable def o128 (P : PM) : OB := j0 q32 q32 (tT 16)
noncomputable def o129 (P : PM) : OB := (ob y1 (df ⟨[vs q32 283,vs q32 284,vs q10 285,vi 40 0,vi 2 0,vi 0 0,vi 0 0,vi 3 0,vr 83,(Value.bool true),vi 181 0,vr 84,vn,vr 85,vr 86,vr 87,vi 289 0,vi 40 0,vs q10 290]⟩) ⟨[]⟩)
noncomputable def o130 (P : PM) : OB := j1 q32 q32 (tT 16) q48 263 88
noncomputable def o133 (P : PM) : OB := (ob y3 (dd ⟨[de P q39 299 (vs q48 263),de P q58 301 (vs q50 300),de P q41 303 (vi 46 302),de P q124 309 (vr 101),de P q11 315 (vr 106),de P q28 322 (vr 113),de P q122 329 (vr 120),de P q120 336 (vr 127),de P q42 340 (vr 128)]⟩ 9) ⟨[]⟩)
noncomputable def o135 (P : PM) : OB := (Obj.mk vn none (df ⟨[vi 48 0,vi 4 0,vr 100,vi 56 0,vi 4 0,vr 105,vi 59 0,vi 4 0,vr 112,vi 62 0,vi 4 0,vr 119,vi 65 0,vi 4 0,vr 126]⟩) ⟨[]⟩)
noncomputable def o136 (P : PM) : OB := (ob y1 (df ⟨[vs q50 294,vs q50 295,vs q10 296,vi 46 0,vi 0 0,vi 0 0,vi 0 0,vi 0 0,vr 93,(Value.bool false),vi 181 0,vr 94,vn,vn,vn,vn,vi 297 0,vi 46 0,vs q10 298]⟩) ⟨[]⟩)
noncomputable def o137 (P : PM) : OB := (ob y2 Data.plain ⟨[(some (vr 95)),(some (vr 3)),(some (vr 92)),none,(some (vs q48 263)),none,(some (vr 0))]⟩)
noncomputable def o140 (P : PM) : OB := j0 q124 q125 (inClass (tT 17) 0)
noncomputable def o141 (P : PM) : OB := (ob y1 (df ⟨[vs q124 304,vs q125 305,vs q10 306,vi 48 0,vi 4 0,vi 0 0,vi 0 0,vi 3 0,vr 97,(Value.bool true),vi 181 0,vr 98,vn,vn,vn,vr 99,vi 307 0,vi 48 0,vs q10 308]⟩) ⟨[]⟩)
noncomputable def o142 (P : PM) : OB := j1 q124 q125 (inClass (tT 17) 0) q48 263 100
noncomputable def o145 (P : PM) : OB := j0 q11 q12 (inClass (tT 17) 1)
noncomputable def o146 (P : PM) : OB := (ob y1 (df ⟨[vs q11 310,vs q12 311,vs q10 312,vi 56 0,vi 1 0,vi 0 0,vi 0 0,vi 3 0,vr 102,(Value.bool true),vi 181 0,vr 103,vn,vn,vn,vr 104,vi 313 0,vi 56 0,vs q10 314]⟩) ⟨[]⟩)
noncomputable def o147 (P : PM) : OB := j1 q11 q12 (inClass (tT 17) 1) q48 263 105
noncomputable def o150 (P : PM) : OB := (ob y0 (dq ⟨[vs q13 319]⟩ 0) ⟨[]⟩)
noncomputable def o152 (P : PM) : OB := j0 q28 q46 (inClass (tT 17) 2)
noncomputable def o153 (P : PM) : OB := (ob y1 (df ⟨[vs q28 316,vs q46 317,vs q10 318,vi 59 0,vi 1 0,vi 0 0,vi 0 0,vi 3 0,vr 107,(Value.bool true),vi 181 0,vr 108,vn,vr 109,vr 110,vr 111,vi 320 0,vi 59 0,vs q10 321]⟩) ⟨[]⟩)
noncomputable def o154 (P : PM) : OB := j1 q28 q46 (inClass (tT 17) 2) q48 263 112
noncomputable def o157 (P : PM) : OB := (ob y0 (dq ⟨[vs q13 326]⟩ 0) ⟨[]⟩)
noncomputable def o159 (P : PM) : OB := j0 q122 q123 (inClass (tT 17) 3)
noncomputable def o160 (P : PM) : OB := (ob y1 (df ⟨[vs q122 323,vs q123 324,vs q10 325,vi 62 0,vi 1 0,vi 0 0,vi 0 0,vi 3 0,vr 114,(Value.bool true),vi 181 0,vr 115,vn,vr 116,vr 117,vr 118,vi 327 0,vi 62 0,vs q10 328]⟩) ⟨[]⟩)
noncomputable def o161 (P : PM) : OB := j1 q122 q123 (inClass (tT 17) 3) q48 263 119
noncomputable def o164 (P : PM) : OB := (ob y0 (dq ⟨[vs q13 333]⟩ 0) ⟨[]⟩)
noncomputable def o166 (P : PM) : OB := j0 q120 q121 (inClass (tT 17) 4)
noncomputable def o167 (P : PM) : OB := (ob y1 (df ⟨[vs q120 330,vs q121 331,vs q10 332,vi 65 0,vi 1 0,vi 0 0,vi 0 0,vi 3 0,vr 121,(Value.bool true),vi 181 0,vr 122,vn,vr 123,vr 124,vr 125,vi 334 0,vi 65 0,vs q10 335]⟩) ⟨[]⟩)
noncomputable def o168 (P : PM) : OB := j1 q120 q121 (inClass (tT 17) 4) q48 263 126
noncomputable def o169 (P : PM) : OB := (ob y0 (dq ⟨[vs q18 337,vs q47 338,vs q27 339]⟩ 0) ⟨[]⟩)
noncomputable def o170 (P : PM) : OB := (ob y3 (dd ⟨[de P q39 299 (vs q48 263),de P q41 303 (vi 46 302),de P q124 309 (vr 101),de P q11 315 (vr 106),de P q28 322 (vr 113),de P q122 329 (vr 120),de P q120 336 (vr 127),de P q42 340 (vr 128),de P q135 342 (vr 131),de P q43 344 (vr 132),de P q44 345 vn]⟩ 4) ⟨[]⟩)
noncomputable def o171 (P : PM) : OB := (ob y9 (Data.cls (ClassData.mk q50 [(Value.type y12)] [vr 130,(Value.type y12)] 129 q50 true [] [] false none false)) ⟨[none,none,(some (vs q50 292)),(some (vs q50 300)),(some (Value.builtin y18)),(some (Value.bool true))]⟩)
noncomputable def o172 (P : PM) : OB := (ob y14 (df ⟨[vs q135 341,vr 130,(Value.builtin y19),(Value.builtin y20)]⟩) ⟨[]⟩)
noncomputable def o173 (P : PM) : OB := (ob y14 (df ⟨[vs q43 343,vr 130,(Value.builtin y15),vn]⟩) ⟨[]⟩)
noncomputable def o174 (P : PM) : OB := (ob y16 (df ⟨[vr 130,vr 130,vr 130]⟩) ⟨[]⟩)
noncomputable def o175 (P : PM) : OB := (ob y7 (df ⟨[(Value.builtin y17),vr 130]⟩) ⟨[]⟩)
noncomputable def o176 (P : PM) : OB := (ob y3 (dd ⟨[de P q89 165 (vs q82 370),de P q44 166 vn,de P q90 167 vn,de P q91 168 (Value.builtin y4),de P q92 169 vn,de P q93 170 (vr 6),de P q94 171 (vr 4),de P q95 173 (vs q10 172),de P q96 174 vn,de P q70 193 (vr 21),de P q45 202 (vr 28),de P q59 222 (vr 38),de P q35 238 (vr 51),de P q4 247 (vr 60),de P q0 256 (vr 67),de P q74 262 (vr 72),de P q97 266 (vi 10 265),de P q66 268 (vi 999 267),de P q71 270 (vi 6 269),de P q9 276 (vr 77),de P q62 282 (vr 82),de P q32 291 (vr 89),de P q50 347 (vr 130),de P q98 355 (vr 139),de P q51 363 (vr 146),de P q99 369 (vr 151),de P q100 379 (vr 158),de P q101 391 (vr 165),de P q49 405 (vr 172),de P q57 411 (vr 177),de P q60 417 (vr 182),de P q21 429 (vr 189),de P q102 435 (vr 194)]⟩ 33) ⟨[]⟩)
noncomputable def o177 (P : PM) : OB := (Obj.mk vn none (df ⟨[vi 1 0,vi 0 0,vr 20,vi 5 0,vi 0 0,vr 27,vi 8 0,vi 0 0,vr 34,vi 10 0,vi 0 0,vr 47,vi 13 0,vi 0 0,vr 59,vi 15 0,vi 0 0,vr 66,vi 17 0,vi 0 0,vr 71,vi 23 0,vi 0 0,vr 76,vi 29 0,vi 0 0,vr 81,vi 40 0,vi 0 0,vr 88,vi 46 0,vi 0 0,vr 95,vi 68 0,vi 0 0,vr 138,vi 70 0,vi 0 0,vr 145,vi 73 0,vi 0 0,vr 150,vi 81 0,vi 0 0,vr 157,vi 85 0,vi 0 0,vr 164,vi 95 0,vi 0 0,vr 171,vi 106 0,vi 0 0,vr 176,vi 116 0,vi 0 0,vr 181,vi 125 0,vi 0 0,vr 188,vi 135 0,vi 0 0,vr 193]⟩) ⟨[]⟩)
noncomputable def o180 (P : PM) : OB := j0 q98 q98 (tT 19)
noncomputable def o181 (P : PM) : OB := (ob y1 (df ⟨[vs q98 350,vs q98 351,vs q10 352,vi 68 0,vi 2 0,vi 0 0,vi 0 0,vi 3 0,vr 135,(Value.bool true),vi 181 0,vr 136,vn,vn,vn,vr 137,vi 353 0,vi 68 0,vs q10 354]⟩) ⟨[]⟩)
noncomputable def o182 (P : PM) : OB := j1 q98 q98 (tT 19) q56 348 138
noncomputable def o185 (P : PM) : OB := (ob y0 (dq ⟨[vs q37 359,vs q52 360]⟩ 0) ⟨[]⟩)
noncomputable def o187 (P : PM) : OB := j0 q51 q51 (tT 20)
noncomputable def o188 (P : PM) : OB := (ob y1 (df ⟨[vs q51 356,vs q51 357,vs q10 358,vi 70 0,vi 1 0,vi 0 0,vi 0 0,vi 3 0,vr 140,(Value.bool true),vi 181 0,vr 141,vn,vr 142,vr 143,vr 144,vi 361 0,vi 70 0,vs q10 362]⟩) ⟨[]⟩)
noncomputable def o189 (P : PM) : OB := j1 q51 q51 (tT 20) q56 348 145
noncomputable def o192 (P : PM) : OB := j0 q99 q99 (tT 21)
noncomputable def o193 (P : PM) : OB := (ob y1 (df ⟨[vs q99 364,vs q99 365,vs q10 366,vi 73 0,vi 1 0,vi 0 0,vi 0 0,vi 3 0,vr 147,(Value.bool true),vi 181 0,vr 148,vn,vn,vn,vr 149,vi 367 0,vi 73 0,vs q10 368]⟩) ⟨[]⟩)
noncomputable def o194 (P : PM) : OB := j1 q99 q99 (tT 21) q56 348 150
noncomputable def o197 (P : PM) : OB := (ob y0 (dq ⟨[vs q87 375,vs q88 376]⟩ 0) ⟨[]⟩)
noncomputable def o199 (P : PM) : OB := j0 q100 q100 (tT 23)
noncomputable def o200 (P : PM) : OB := (ob y1 (df ⟨[vs q100 372,vs q100 373,vs q10 374,vi 81 0,vi 2 0,vi 0 0,vi 0 0,vi 3 0,vr 152,(Value.bool true),vi 181 0,vr 153,vn,vr 154,vr 155,vr 156,vi 377 0,vi 81 0,vs q10 378]⟩) ⟨[]⟩)
noncomputable def o201 (P : PM) : OB := j1 q100 q100 (tT 23) q82 370 157
noncomputable def o204 (P : PM) : OB := (ob y0 (dq ⟨[vs q75 383,vs q118 384,vs q105 385,vs q77 386,vs q78 387,vs q79 388]⟩ 0) ⟨[]⟩)
noncomputable def o206 (P : PM) : OB := j0 q101 q101 (tT 24)
noncomputable def o207 (P : PM) : OB := (ob y1 (df ⟨[vs q101 380,vs q101 381,vs q10 382,vi 85 0,vi 2 0,vi 0 0,vi 0 0,vi 3 0,vr 159,(Value.bool true),vi 181 0,vr 160,vn,vr 161,vr 162,vr 163,vi 389 0,vi 85 0,vs q10 390]⟩) ⟨[]⟩)
noncomputable def o208 (P : PM) : OB := j1 q101 q101 (tT 24) q82 370 164
noncomputable def o211 (P : PM) : OB := (ob y0 (dq ⟨[vs q87 395,vs q23 396,vs q118 397,vs q24 398,vs q88 399,vs q75 400,vs q104 401,vs q105 402]⟩ 0) ⟨[]⟩)
noncomputable def o213 (P : PM) : OB := j0 q49 q49 (tT 25)
noncomputable def o214 (P : PM) : OB := (ob y1 (df ⟨[vs q49 392,vs q49 393,vs q10 394,vi 95 0,vi 2 0,vi 0 0,vi 0 0,vi 3 0,vr 166,(Value.bool true),vi 181 0,vr 167,vn,vr 168,vr 169,vr 170,vi 403 0,vi 95 0,vs q10 404]⟩) ⟨[]⟩)
noncomputable def o215 (P : PM) : OB := j1 q49 q49 (tT 25) q82 370 171
noncomputable def o218 (P : PM) : OB := j0 q57 q57 (tT 26)
noncomputable def o219 (P : PM) : OB := (ob y1 (df ⟨[vs q57 406,vs q57 407,vs q10 408,vi 106 0,vi 3 0,vi 0 0,vi 0 0,vi 3 0,vr 173,(Value.bool true),vi 181 0,vr 174,vn,vn,vn,vr 175,vi 409 0,vi 106 0,vs q10 410]⟩) ⟨[]⟩)
noncomputable def o220 (P : PM) : OB := j1 q57 q57 (tT 26) q82 370 176
noncomputable def o223 (P : PM) : OB := j0 q60 q60 (tT 27)
noncomputable def o224 (P : PM) : OB := (ob y1 (df ⟨[vs q60 412,vs q60 413,vs q10 414,vi 116 0,vi 3 0,vi 0 0,vi 0 0,vi 3 0,vr 178,(Value.bool true),vi 181 0,vr 179,vn,vn,vn,vr 180,vi 415 0,vi 116 0,vs q10 416]⟩) ⟨[]⟩)
noncomputable def o225 (P : PM) : OB := j1 q60 q60 (tT 27) q82 370 181
noncomputable def o228 (P : PM) : OB := (ob y0 (dq ⟨[vs q22 421,vs q23 422,vs q24 423,vs q25 424,vs q26 425,vs q29 426]⟩ 0) ⟨[]⟩)
noncomputable def o230 (P : PM) : OB := j0 q21 q21 (tT 28)
noncomputable def o231 (P : PM) : OB := (ob y1 (df ⟨[vs q21 418,vs q21 419,vs q10 420,vi 125 0,vi 4 0,vi 0 0,vi 0 0,vi 3 0,vr 183,(Value.bool true),vi 181 0,vr 184,vn,vr 185,vr 186,vr 187,vi 427 0,vi 125 0,vs q10 428]⟩) ⟨[]⟩)
noncomputable def o232 (P : PM) : OB := j1 q21 q21 (tT 28) q82 370 188
noncomputable def o235 (P : PM) : OB := j0 q102 q102 (tT 29)
noncomputable def o236 (P : PM) : OB := (ob y1 (df ⟨[vs q102 430,vs q102 431,vs q10 432,vi 135 0,vi 1 0,vi 0 0,vi 0 0,vi 3 0,vr 190,(Value.bool true),vi 181 0,vr 191,vn,vn,vn,vr 192,vi 433 0,vi 135 0,vs q10 434]⟩) ⟨[]⟩)
noncomputable def o237 (P : PM) : OB := j1 q102 q102 (tT 29) q82 370 193
noncomputable def heap_46 (P : Params) : Heap := (Heap.mk ⟨[b0 P,b1 P,b2 P,b3 P,b4 P,b5 P,b6 P,b7 P,b8 P,b9 P,b10 P,o43 P,o44 P,o45 P,o46 P]⟩ (PySem.Life.mk [] [] [] 0 [] [] false ⟨[]⟩ [] 0 false false false 0 [2000,10,10] false 0 true [] [] 0 false))
noncomputable def tree_47 (P : PM) : BT := (nd (b0 P) (nd (b1 P) (nd (b3 P) (nd (b7 P) nl nl) (nd (o43 P) nl nl)) (nd (b5 P) (nd (b9 P) nl nl) (nd (o45 P) nl nl))) (nd (b2 P) (nd (b4 P) (nd (b8 P) nl nl) (nd (o44 P) nl nl)) (nd (b6 P) (nd (b10 P) nl nl) (nd (o46 P) nl nl))))
noncomputable def tree_77 (P : PM) : BT := (nd (b0 P) (nd (b1 P) (nd (o49 P) (nd (b7 P) (nd (o43 P) (nd (o67 P) nl nl) nl) (nd (o44 P) (nd (o75 P) nl nl) nl)) (nd (o43 P) (nd (o55 P) (nd (o71 P) nl nl) nl) (nd (o63 P) nl nl))) (nd (b5 P) (nd (b9 P) (nd (o53 P) (nd (o44 P) nl nl) nl) (nd (o43 P) (nd (o77 P) nl nl) nl)) (nd (o45 P) (nd (o57 P) (nd (o73 P) nl nl) nl) (nd (o65 P) nl nl)))) (nd (b2 P) (nd (b4 P) (nd (b8 P) (nd (o44 P) (nd (o43 P) nl nl) nl) (nd (o60 P) (nd (o76 P) nl nl) nl)) (nd (o50 P) (nd (o56 P) (nd (o43 P) nl nl) nl) (nd (o64 P) nl nl))) (nd (b6 P) (nd (b10 P) (nd (o43 P) (nd (o70 P) nl nl) nl) (nd (o62 P) nl nl)) (nd (o46 P) (nd (o43 P) (nd (o74 P) nl nl) nl) (nd (o66 P) nl nl)))))
noncomputable def tree_121 (P : PM) : BT := (nd (b0 P) (nd (b1 P) (nd (o78 P) (nd (b7 P) (nd (o43 P) (nd (o67 P) (nd (o102 P) nl nl) nl) (nd (o86 P) (nd (o44 P) nl nl) nl)) (nd (o44 P) (nd (o75 P) (nd (o110 P) nl nl) nl) (nd (o44 P) nl nl))) (nd (o43 P) (nd (o55 P) (nd (o71 P) (nd (o106 P) nl nl) nl) (nd (o90 P) nl nl)) (nd (o63 P) (nd (o66 P) (nd (o114 P) nl nl) nl) (nd (o98 P) nl nl)))) (nd (b5 P) (nd (b9 P) (nd (o53 P) (nd (o44 P) (nd (o104 P) nl nl) nl) (nd (o43 P) (nd (o120 P) nl nl) nl)) (nd (o43 P) (nd (o77 P) (nd (o43 P) nl nl) nl) (nd (o43 P) nl nl))) (nd (o45 P) (nd (o57 P) (nd (o73 P) (nd (o44 P) nl nl) nl) (nd (o92 P) nl nl)) (nd (o65 P) (nd (o43 P) (nd (o116 P) nl nl) nl) (nd (o43 P) nl nl))))) (nd (b2 P) (nd (b4 P) (nd (b8 P) (nd (o44 P) (nd (o43 P) (nd (o43 P) nl nl) nl) (nd (o87 P) (nd (o119 P) nl nl) nl)) (nd (o60 P) (nd (o76 P) (nd (o111 P) nl nl) nl) (nd (o95 P) nl nl))) (nd (o79 P) (nd (o56 P) (nd (o43 P) (nd (o43 P) nl nl) nl) (nd (o91 P) nl nl)) (nd (o64 P) (nd (o83 P) (nd (o115 P) nl nl) nl) (nd (o99 P) nl nl)))) (nd (b6 P) (nd (b10 P) (nd (o43 P) (nd (o70 P) (nd (o105 P) nl nl) nl) (nd (o89 P) (nd (o121 P) nl nl) nl)) (nd (o62 P) (nd (o81 P) (nd (o44 P) nl nl) nl) (nd (o97 P) nl nl))) (nd (o46 P) (nd (o43 P) (nd (o80 P) (nd (o109 P) nl nl) nl) (nd (o43 P) nl nl)) (nd (o66 P) (nd (o44 P) (nd (o43 P) nl nl) nl) (nd (o44 P) nl nl))))))
noncomputable def tree_175 (P : PM) : BT := (nd (b0 P) (nd (b1 P) (nd (o122 P) (nd (b7 P) (nd (o43 P) (nd (o67 P) (nd (o102 P) (nd (o168 P) nl nl) nl) (nd (o136 P) nl nl)) (nd (o86 P) (nd (o44 P) nl nl) (nd (o152 P) nl nl))) (nd (o44 P) (nd (o75 P) (nd (o110 P) nl nl) (nd (o44 P) nl nl)) (nd (o44 P) (nd (o128 P) nl nl) (nd (o160 P) nl nl)))) (nd (o43 P) (nd (o55 P) (nd (o71 P) (nd (o106 P) (nd (o172 P) nl nl) nl) (nd (o140 P) nl nl)) (nd (o90 P) (nd (o43 P) nl nl) (nd (o44 P) nl nl))) (nd (o63 P) (nd (o66 P) (nd (o114 P) nl nl) (nd (o43 P) nl nl)) (nd (o98 P) (nd (o66 P) nl nl) (nd (o164 P) nl nl))))) (nd (b5 P) (nd (b9 P) (nd (o53 P) (nd (o44 P) (nd (o104 P) (nd (o170 P) nl nl) nl) (nd (o43 P) nl nl)) (nd (o43 P) (nd (o120 P) nl nl) (nd (o154 P) nl nl))) (nd (o43 P) (nd (o77 P) (nd (o43 P) nl nl) (nd (o146 P) nl nl)) (nd (o43 P) (nd (o130 P) nl nl) (nd (o43 P) nl nl)))) (nd (o45 P) (nd (o57 P) (nd (o73 P) (nd (o44 P) (nd (o174 P) nl nl) nl) (nd (o142 P) nl nl)) (nd (o92 P) (nd (o126 P) nl nl) (nd (o43 P) nl nl))) (nd (o65 P) (nd (o43 P) (nd (o116 P) nl nl) (nd (o150 P) nl nl)) (nd (o43 P) (nd (o43 P) nl nl) (nd (o166 P) nl nl)))))) (nd (b2 P) (nd (b4 P) (nd (b8 P) (nd (o44 P) (nd (o43 P) (nd (o43 P) (nd (o169 P) nl nl) nl) (nd (o137 P) nl nl)) (nd (o87 P) (nd (o119 P) nl nl) (nd (o153 P) nl nl))) (nd (o60 P) (nd (o76 P) (nd (o111 P) nl nl) (nd (o145 P) nl nl)) (nd (o95 P) (nd (o129 P) nl nl) (nd (o161 P) nl nl)))) (nd (o123 P) (nd (o56 P) (nd (o43 P) (nd (o43 P) (nd (o173 P) nl nl) nl) (nd (o141 P) nl nl)) (nd (o91 P) (nd (o44 P) nl nl) (nd (o157 P) nl nl))) (nd (o64 P) (nd (o83 P) (nd (o115 P) nl nl) (nd (o44 P) nl nl)) (nd (o99 P) (nd (o133 P) nl nl) (nd (o43 P) nl nl))))) (nd (b6 P) (nd (b10 P) (nd (o43 P) (nd (o70 P) (nd (o105 P) (nd (o171 P) nl nl) nl) (nd (o44 P) nl nl)) (nd (o89 P) (nd (o121 P) nl nl) (nd (o43 P) nl nl))) (nd (o62 P) (nd (o81 P) (nd (o44 P) nl nl) (nd (o147 P) nl nl)) (nd (o97 P) (nd (o43 P) nl nl) (nd (o44 P) nl nl)))) (nd (o46 P) (nd (o43 P) (nd (o80 P) (nd (o109 P) (nd (o175 P) nl nl) nl) (nd (o43 P) nl nl)) (nd (o43 P) (nd (o43 P) nl nl) (nd (o159 P) nl nl))) (nd (o66 P) (nd (o44 P) (nd (o43 P) nl nl) (nd (o43 P) nl nl)) (nd (o44 P) (nd (o135 P) nl nl) (nd (o167 P) nl nl)))))))
noncomputable def tree_237 (P : PM) : BT := (nd (b0 P) (nd (b1 P) (nd (o176 P) (nd (b7 P) (nd (o43 P) (nd (o67 P) (nd (o102 P) (nd (o168 P) nl nl) (nd (o44 P) nl nl)) (nd (o136 P) (nd (o43 P) nl nl) nl)) (nd (o86 P) (nd (o44 P) (nd (o43 P) nl nl) nl) (nd (o152 P) (nd (o218 P) nl nl) nl))) (nd (o44 P) (nd (o75 P) (nd (o110 P) (nd (o43 P) nl nl) nl) (nd (o44 P) (nd (o44 P) nl nl) nl)) (nd (o44 P) (nd (o128 P) (nd (o194 P) nl nl) nl) (nd (o160 P) (nd (o43 P) nl nl) nl)))) (nd (o43 P) (nd (o55 P) (nd (o71 P) (nd (o106 P) (nd (o172 P) nl nl) nl) (nd (o140 P) (nd (o206 P) nl nl) nl)) (nd (o90 P) (nd (o43 P) (nd (o43 P) nl nl) nl) (nd (o44 P) (nd (o44 P) nl nl) nl))) (nd (o63 P) (nd (o66 P) (nd (o114 P) (nd (o182 P) nl nl) nl) (nd (o43 P) (nd (o214 P) nl nl) nl)) (nd (o98 P) (nd (o66 P) (nd (o43 P) nl nl) nl) (nd (o164 P) (nd (o230 P) nl nl) nl))))) (nd (b5 P) (nd (b9 P) (nd (o53 P) (nd (o44 P) (nd (o104 P) (nd (o170 P) nl nl) (nd (o236 P) nl nl)) (nd (o43 P) (nd (o204 P) nl nl) nl)) (nd (o43 P) (nd (o120 P) (nd (o188 P) nl nl) nl) (nd (o154 P) (nd (o220 P) nl nl) nl))) (nd (o43 P) (nd (o77 P) (nd (o43 P) (nd (o180 P) nl nl) nl) (nd (o146 P) (nd (o43 P) nl nl) nl)) (nd (o43 P) (nd (o130 P) (nd (o44 P) nl nl) nl) (nd (o43 P) (nd (o228 P) nl nl) nl)))) (nd (o45 P) (nd (o57 P) (nd (o73 P) (nd (o44 P) (nd (o174 P) nl nl) nl) (nd (o142 P) (nd (o208 P) nl nl) nl)) (nd (o92 P) (nd (o126 P) (nd (o192 P) nl nl) nl) (nd (o43 P) (nd (o224 P) nl nl) nl))) (nd (o65 P) (nd (o43 P) (nd (o116 P) (nd (o44 P) nl nl) nl) (nd (o150 P) (nd (o43 P) nl nl) nl)) (nd (o43 P) (nd (o43 P) (nd (o200 P) nl nl) nl) (nd (o166 P) (nd (o232 P) nl nl) nl)))))) (nd (b2 P) (nd (b4 P) (nd (b8 P) (nd (o44 P) (nd (o43 P) (nd (o43 P) (nd (o169 P) nl nl) (nd (o235 P) nl nl)) (nd (o137 P) (nd (o44 P) nl nl) nl)) (nd (o87 P) (nd (o119 P) (nd (o187 P) nl nl) nl) (nd (o153 P) (nd (o219 P) nl nl) nl))) (nd (o60 P) (nd (o76 P) (nd (o111 P) (nd (o44 P) nl nl) nl) (nd (o145 P) (nd (o211 P) nl nl) nl)) (nd (o95 P) (nd (o129 P) (nd (o43 P) nl nl) nl) (nd (o161 P) (nd (o44 P) nl nl) nl)))) (nd (o177 P) (nd (o56 P) (nd (o43 P) (nd (o43 P) (nd (o173 P) nl nl) nl) (nd (o141 P) (nd (o207 P) nl nl) nl)) (nd (o91 P) (nd (o44 P) (nd (o44 P) nl nl) nl) (nd (o157 P) (nd (o223 P) nl nl) nl))) (nd (o64 P) (nd (o83 P) (nd (o115 P) (nd (o43 P) nl nl) nl) (nd (o44 P) (nd (o215 P) nl nl) nl)) (nd (o99 P) (nd (o133 P) (nd (o199 P) nl nl) nl) (nd (o43 P) (nd (o231 P) nl nl) nl))))) (nd (b6 P) (nd (b10 P) (nd (o43 P) (nd (o70 P) (nd (o105 P) (nd (o171 P) nl nl) (nd (o237 P) nl nl)) (nd (o44 P) (nd (o43 P) nl nl) nl)) (nd (o89 P) (nd (o121 P) (nd (o189 P) nl nl) nl) (nd (o43 P) (nd (o43 P) nl nl) nl))) (nd (o62 P) (nd (o81 P) (nd (o44 P) (nd (o181 P) nl nl) nl) (nd (o147 P) (nd (o213 P) nl nl) nl)) (nd (o97 P) (nd (o43 P) (nd (o197 P) nl nl) nl) (nd (o44 P) (nd (o43 P) nl nl) nl)))) (nd (o46 P) (nd (o43 P) (nd (o80 P) (nd (o109 P) (nd (o175 P) nl nl) nl) (nd (o43 P) (nd (o43 P) nl nl) nl)) (nd (o43 P) (nd (o43 P) (nd (o193 P) nl nl) nl) (nd (o159 P) (nd (o225 P) nl nl) nl))) (nd (o66 P) (nd (o44 P) (nd (o43 P) (nd (o185 P) nl nl) nl) (nd (o43 P) (nd (o44 P) nl nl) nl)) (nd (o44 P) (nd (o135 P) (nd (o201 P) nl nl) nl) (nd (o167 P) (nd (o43 P) nl nl) nl)))))))
noncomputable def heap_238 (P : Params) : Heap := (Heap.mk ⟨[b0 P,b1 P,b2 P,o176 P,b4 P,b5 P,b6 P,b7 P,b8 P,b9 P,b10 P,o43 P,o177 P,o45 P,o46 P,o43 P,o44 P,o53 P,o43 P,o55 P,o56 P,o57 P,o43 P,o44 P,o60 P,o43 P,o62 P,o63 P,o64 P,o65 P,o66 P,o67 P,o43 P,o44 P,o70 P,o71 P,o43 P,o73 P,o80 P,o75 P,o76 P,o77 P,o81 P,o66 P,o83 P,o43 P,o44 P,o86 P,o87 P,o43 P,o89 P,o90 P,o91 P,o92 P,o43 P,o44 P,o95 P,o43 P,o97 P,o98 P,o99 P,o43 P,o44 P,o102 P,o43 P,o104 P,o105 P,o106 P,o43 P,o44 P,o109 P,o110 P,o111 P,o43 P,o44 P,o114 P,o115 P,o116 P,o43 P,o44 P,o119 P,o120 P,o121 P,o43 P,o44 P,o126 P,o43 P,o128 P,o129 P,o130 P,o43 P,o66 P,o133 P,o43 P,o135 P,o136 P,o137 P,o43 P,o44 P,o140 P,o141 P,o142 P,o43 P,o44 P,o145 P,o146 P,o147 P,o43 P,o44 P,o150 P,o43 P,o152 P,o153 P,o154 P,o43 P,o44 P,o157 P,o43 P,o159 P,o160 P,o161 P,o43 P,o44 P,o164 P,o43 P,o166 P,o167 P,o168 P,o169 P,o170 P,o171 P,o172 P,o173 P,o174 P,o175 P,o43 P,o44 P,o180 P,o181 P,o182 P,o43 P,o44 P,o185 P,o43 P,o187 P,o188 P,o189 P,o43 P,o44 P,o192 P,o193 P,o194 P,o43 P,o44 P,o197 P,o43 P,o199 P,o200 P,o201 P,o43 P,o44 P,o204 P,o43 P,o206 P,o207 P,o208 P,o43 P,o44 P,o211 P,o43 P,o213 P,o214 P,o215 P,o43 P,o44 P,o218 P,o219 P,o220 P,o43 P,o44 P,o223 P,o224 P,o225 P,o43 P,o44 P,o228 P,o43 P,o230 P,o231 P,o232 P,o43 P,o44 P,o235 P,o236 P,o237 P]⟩ (PySem.Life.mk [] [] [] 0 [] [] false ⟨[]⟩ [] 0 false false false 0 [2000,10,10] false 0 true [] [] 0 false))
noncomputable def ev (p : Program) : Env := Env.mk p.main.scope mainNs mainNs [] Str.empty none (.ref 13) (some 14) 0
noncomputable def cE (p : Program) : Code := .body (behindTheImports p) (ev p)
noncomputable def st (p : Program) (i k : Nat) : List Stmt := ((behindTheImports p).drop i).take k
noncomputable def LF : Life := Life.mk [] [] [] 0 [] [] false #[] [] 0 false false false 0 [2000, 10, 10] false 0 true [] [] 0 false
noncomputable def SS (T : Params → BT) (n k : Nat) (w : World) (os : OsState) : SharedT := ⟨T w.params, n, LF, ⟨[]⟩, ⟨0, 0, 0, 0⟩, k, os⟩
def Pc (f : (String → Option Builtin) → Program → World → Nat → Option Value → Nat → Nat → SharedT → Thread → Option (Flow × SharedT × Code × Pos)) (tb : String → Option Builtin) (p : Program) (N i k : Nat) (pos pos' : Pos) (T T' : Params → BT) (n t n' t' : Nat) : Prop :=
 ∀ (w : World) (os : OsState), f tb p w 11 (some (.ref 6)) 1 N (SS T n t w os) (piecesOf (st p i k) (ev p) (cE p) pos [topFrame ⟨0, 0, 0, 0⟩]) = some (.next, SS T' n' t' w os, cE p, pos')
theorem Pc.plain {N i k : Nat} {pos pos' : Pos} {T T' : Params → BT} {n t n' t' : Nat} (h : Pc PySem.W.Fast.tw10110043849684766642 PySem.W.Fast.tw14364793385576792824 TP N i k pos pos' T T' n t n' t') : Pc segRunT treeTable PySem.Challenge.pw_gatefold_k38_board_lines N i k pos pos' T T' n t n' t' := by
 rw [PySem.W.Fast.te10110043849684766642, PySem.W.Fast.te14364793385576792824, PySem.W.Fast.te3334233930621351735]
 exact h
theorem c0 : Pc segRunT treeTable PySem.Challenge.pw_gatefold_k38_board_lines 263 0 5 ⟨0, 0, 0, 0⟩ ⟨8, 0, 9, 8⟩ tree_47 tree_77 15 187 42 223 := Pc.plain (fun w os => by kernel_rfl)
theorem c1 : Pc segRunT treeTable PySem.Challenge.pw_gatefold_k38_board_lines 397 5 11 ⟨8, 0, 9, 8⟩ ⟨29, 0, 39, 17⟩ tree_77 tree_121 42 223 83 283 := Pc.plain (fun w os => by kernel_rfl)
theorem c2 : Pc segRunT treeTable PySem.Challenge.pw_gatefold_k38_board_lines 382 16 3 ⟨29, 0, 39, 17⟩ ⟨67, 0, 67, 8⟩ tree_121 tree_175 83 283 135 350 := Pc.plain (fun w os => by kernel_rfl)
theorem c3 : Pc segRunT treeTable PySem.Challenge.pw_gatefold_k38_board_lines 304 19 11 ⟨67, 0, 67, 8⟩ ⟨135, 0, 154, 117⟩ tree_175 tree_237 135 350 195 436 := Pc.plain (fun w os => by kernel_rfl)
noncomputable abbrev PW : Program := PySem.Challenge.pw_gatefold_k38_board_lines
noncomputable abbrev B0 : List Frame := [topFrame ⟨0, 0, 0, 0⟩]
theorem step {p : Program} {N i k : Nat} {pos pos' : Pos} {T T' : Params → BT} {n t n' t' : Nat} (c : Pc segRunT treeTable p N i k pos pos' T T' n t n' t') {M : Nat} {r : Shared} {w : World} {os : OsState}
  (h : topRun treeTable p w 11 (some (.ref 6)) M (SS T' n' t' w os).abs (restOf ((behindTheImports p).drop (i + k)) (ev p) (cE p) pos' [topFrame ⟨0, 0, 0, 0⟩]) = some r) :
  topRun treeTable p w 11 (some (.ref 6)) (N + M) (SS T n t w os).abs (restOf ((behindTheImports p).drop i) (ev p) (cE p) pos [topFrame ⟨0, 0, 0, 0⟩]) = some r := by
 have e : (behindTheImports p).drop i = st p i k ++ (behindTheImports p).drop (i + k) := by
  unfold st
  rw [← List.drop_drop]
  exact (List.take_append_drop _ _).symm
 rw [e]
 exact piece_app (segRun_of (c w os)) h
def Fn (f : (String → Option Builtin) → Program → World → Nat → Option Value → Nat → Shared → Thread → Option Shared) (tb : String → Option Builtin) (p : Program) : Prop :=
 ∀ (w : World) (os : OsState), f tb p w 11 (some (.ref 6)) 2 (SS tree_237 195 436 w os).abs ⟨doneF .next, cE p, ⟨135, 0, 154, 117⟩, [topFrame ⟨0, 0, 0, 0⟩]⟩ = some ⟨heap_238 w.params, ⟨[]⟩, ⟨0, 0, 0, 0⟩, 436, os⟩
theorem fin : Fn topRun treeTable PW := by
 rw [PySem.W.Fast.te14082659384304107361, PySem.W.Fast.te14364793385576792824, show PW = TP from PySem.W.Fast.te3334233930621351735]
 exact fun w os => by kernel_rfl
def Pr (f : (String → Option Builtin) → Program → World → Nat → Option Value → Nat → Shared → Thread → Option (Shared × Thread)) (d : (String → Option Builtin) → Code → Sem Fin) (tb : String → Option Builtin) (p : Program) : Prop :=
 ∀ (w : World) (os : OsState), f tb p w 11 (some (.ref 6)) 12 ⟨boot_heap w.params, ⟨[]⟩, boot_drawn, boot_toks, os⟩ (topStub p) = some (⟨heap_46 w.params, ⟨[]⟩, ⟨0, 0, 0, 0⟩, 187, os⟩, ⟨d tb (cE p), cE p, ⟨0, 0, 0, 0⟩, [topFrame ⟨0, 0, 0, 0⟩]⟩)
theorem preT : Pr topGo denote treeTable PW := by
 rw [PySem.W.Fast.te15667345088766844465, PySem.W.Fast.te11892475500146522536, PySem.W.Fast.te14364793385576792824, show PW = TP from PySem.W.Fast.te3334233930621351735]
 exact fun w os => by kernel_rfl
def Bl (f : (String → Option Builtin) → Program → World → Nat → Option Value → Nat → Nat → Shared → Thread → Option (Flow × Shared × Code × Pos)) (tb : String → Option Builtin) (p : Program) : Prop :=
 ∀ (w : World) (os : OsState), f tb p w 11 (some (.ref 6)) 1 1 ⟨heap_46 w.params, ⟨[]⟩, ⟨0, 0, 0, 0⟩, 187, os⟩ (blockOf (behindTheImports p) (ev p) (cE p) ⟨0, 0, 0, 0⟩ [topFrame ⟨0, 0, 0, 0⟩]) = some (.next, (SS tree_47 15 187 w os).abs, cE p, ⟨0, 0, 0, 0⟩)
theorem blk : Bl segRun treeTable PW := by
 rw [PySem.W.Fast.te14374325043358763698, PySem.W.Fast.te14364793385576792824, show PW = TP from PySem.W.Fast.te3334233930621351735]
 exact fun w os => by kernel_rfl
theorem d44 : (behindTheImports PW).drop 30 = [] := by kernel_rfl
theorem run (w : World) (os : OsState) : topRun treeTable PW w 11 (some (.ref 6)) (12 + (1 + (263 + (397 + (382 + (304 + 2)))))) ⟨boot_heap w.params, ⟨[]⟩, boot_drawn, boot_toks, os⟩ (topStub PW) = some ⟨heap_238 w.params, ⟨[]⟩, ⟨0, 0, 0, 0⟩, 436, os⟩ := by
 refine go_top (preT w os) ?_
 refine piece_block (blk w os) ?_
 refine step c0 (step c1 (step c2 (step c3 ?_)))
 rw [d44]
 exact fin w os
theorem size (w : World) : ((boot_heap w.params).isNs mainGlobals && (Array.mk ([] : List GenState)).size == 0, (boot_heap w.params).objs.size, (boot_heap w.params).nsMap mainGlobals "__annotations__") = (true, 11, some (.ref 6)) := by kernel_rfl
theorem op : ∀ w : World, (fencedOpening treeTable PW w 2802).map (fun s => (s.heap, s.gens, s.drawn, s.toks)) = some (boot_heap w.params, Array.mk [], boot_drawn, boot_toks) :=
 boot_open (by kernel_rfl) (by decide) (fun s => by kernel_rfl)
def KP : List Nat := [0, 2, 4, 5, 7, 8, 9, 11, 12, 13, 14, 15, 16, 17, 19, 20, 21, 23, 24, 25, 26, 27, 28, 29]
noncomputable def VW (p : Program) : Program := { p with main := { p.main with body := KP.filterMap fun i => p.main.body[i]? } }
noncomputable abbrev S9 (w : World) (os : OsState) : Shared := ⟨heap_238 w.params, ⟨[]⟩, ⟨0, 0, 0, 0⟩, 436, os⟩
def LA (im : List Stmt → List Str) (p : Program) : Prop :=
 ∀ (w : World) (os : OsState), (staticsOk (im p.main.body) (boot_heap w.params) (heap_238 w.params) && namesBound p (heap_238 w.params) && gensDone (S9 w os) && laidKept (boot_heap w.params) (heap_238 w.params)) = true
theorem la : LA importedModules PW := by
 rw [PySem.W.Fast.te5923862056798008813, show PW = TP from PySem.W.Fast.te3334233930621351735]
 exact fun w os => by kernel_rfl
noncomputable abbrev XT (q : Program) : Shared → Bool := fun s => xlAt q [] s && recOk [] s
theorem lb0 (w : World) (os : OsState) : PySem.W.Fast.tw4187177175401517315 (VW TP) [] (PySem.W.Fast.tw5923862056798008813 TP.main.body) (XT (VW TP)) true (S9 w os) = openGood (VW TP) [] := by kernel_rfl
end OT
namespace K38
open PySem PySem.Spec PyProof.Rows L2
noncomputable abbrev Q (l : List Nat) : Str := ⟨⟨l⟩⟩
noncomputable abbrev fq (b c : Str) (s : Stmt) (q : Str) (t n : Nat) : Obj := ⟨(Value.type "function"), none, .func (PySem.W.fnOf b c (defArgs s) (defBody s) (defScope s) Value.none Value.none Value.none (Value.str q t) none (Value.ref n) Value.none), ⟨[]⟩⟩
set_option maxRecDepth 100000 in
noncomputable def KF : Params → PySem.W.Frag := fun P =>
 (nat_lit 28, fq "full_column" "full_column" s_full_column OT.q137 194 27) ::
 (nat_lit 60, fq "is_whole" "is_whole" s_is_whole OT.q5 239 59) ::
 (nat_lit 67, fq "is_between" "is_between" s_is_between OT.q5 239 66) ::
 (nat_lit 72, fq "is_rising" "is_rising" s_is_rising OT.q5 239 71) ::
 (nat_lit 77, fq "is_cut_of" "is_cut_of" s_is_cut_of OT.q48 263 76) ::
 (nat_lit 82, fq "need_pieces" "need_pieces" s_need_pieces OT.q48 263 81) ::
 (nat_lit 89, fq "need_ties" "need_ties" s_need_ties OT.q48 263 88) ::
 (nat_lit 101, fq "__init__" "Board.__init__" s_Board___init__ OT.q48 263 100) ::
 (nat_lit 106, fq "pieces" "Board.pieces" s_Board_pieces OT.q48 263 105) ::
 (nat_lit 113, fq "ties" "Board.ties" s_Board_ties OT.q48 263 112) ::
 (nat_lit 139, fq "table_text" "table_text" s_table_text OT.q56 348 138) ::
 (nat_lit 146, fq "tie_text" "tie_text" s_tie_text OT.q56 348 145) ::
 (nat_lit 151, fq "board_lines" "board_lines" s_board_lines OT.q56 348 150) ::
 (nat_lit 158, fq "_law_cell_at" "_law_cell_at" s_law_cell_at OT.q82 370 157) ::
 (nat_lit 165, fq "_law_cut" "_law_cut" s_law_cut OT.q82 370 164) ::
 (nat_lit 172, fq "_law_pieces" "_law_pieces" s_law_pieces OT.q82 370 171) ::
 (nat_lit 177, fq "_law_ties" "_law_ties" s_law_ties OT.q82 370 176) ::
 (nat_lit 182, fq "_law_lines" "_law_lines" s_law_lines OT.q82 370 181) ::
 (nat_lit 189, fq "_law_same" "_law_same" s_law_same OT.q82 370 188) ::
 (nat_lit 194, fq "law" "law" s_law OT.q82 370 193) ::
 (nat_lit 27, OT.o63 P) ::
 (nat_lit 59, OT.o98 P) ::
 (nat_lit 66, OT.o105 P) ::
 (nat_lit 71, OT.o110 P) ::
 (nat_lit 76, OT.o115 P) ::
 (nat_lit 81, OT.o120 P) ::
 (nat_lit 88, OT.o129 P) ::
 (nat_lit 100, OT.o141 P) ::
 (nat_lit 105, OT.o146 P) ::
 (nat_lit 112, OT.o153 P) ::
 (nat_lit 138, OT.o181 P) ::
 (nat_lit 145, OT.o188 P) ::
 (nat_lit 150, OT.o193 P) ::
 (nat_lit 157, OT.o200 P) ::
 (nat_lit 164, OT.o207 P) ::
 (nat_lit 171, OT.o214 P) ::
 (nat_lit 176, OT.o219 P) ::
 (nat_lit 181, OT.o224 P) ::
 (nat_lit 188, OT.o231 P) ::
 (nat_lit 193, OT.o236 P) ::
 (nat_lit 2, OT.b2 P) ::
 (nat_lit 3, OT.o176 P) ::
 (nat_lit 38, OT.o80 P) ::
 (nat_lit 37, OT.o73 P) ::
 (nat_lit 51, OT.o90 P) ::
 (nat_lit 50, OT.o89 P) ::
 (nat_lit 130, OT.o171 P) ::
 (nat_lit 129, OT.o170 P) :: []
end K38
namespace OT
open PySem PySem.W PySem.Spec
noncomputable abbrev AS : List Addr := (nat_lit 28 :: nat_lit 60 :: nat_lit 67 :: nat_lit 72 :: nat_lit 77 :: nat_lit 82 :: nat_lit 89 :: nat_lit 101 :: nat_lit 106 :: nat_lit 113 :: nat_lit 139 :: nat_lit 146 :: nat_lit 151 :: nat_lit 158 :: nat_lit 165 :: nat_lit 172 :: nat_lit 177 :: nat_lit 182 :: nat_lit 189 :: nat_lit 194 :: nat_lit 27 :: nat_lit 59 :: nat_lit 66 :: nat_lit 71 :: nat_lit 76 :: nat_lit 81 :: nat_lit 88 :: nat_lit 100 :: nat_lit 105 :: nat_lit 112 :: nat_lit 138 :: nat_lit 145 :: nat_lit 150 :: nat_lit 157 :: nat_lit 164 :: nat_lit 171 :: nat_lit 176 :: nat_lit 181 :: nat_lit 188 :: nat_lit 193 :: nat_lit 2 :: nat_lit 3 :: nat_lit 38 :: nat_lit 37 :: nat_lit 51 :: nat_lit 50 :: nat_lit 130 :: nat_lit 129 :: [])
noncomputable abbrev HK : Hook := kHook K38.KF AS (fun _ => by kernel_rfl)
theorem lb (w : World) (os : OsState) : openSeen (VW PW) [] (importedModules PW.main.body) (XT (VW PW)) true (S9 w os) = openGood (VW PW) [] := by
 rw [PySem.W.Fast.te4187177175401517315, PySem.W.Fast.te5923862056798008813, show PW = TP from PySem.W.Fast.te3334233930621351735]
 exact lb0 w os
theorem lc (w : World) (os : OsState) : HK.obs (S9 w os) = HK.val w := by kernel_rfl
theorem left : LeftO PW (VW PW) [] (XT (VW PW)) HK.obs HK.val 2802 :=
 LeftO.of_pieces op size run (by decide) fun w => funext fun os => by
  rw [la w os, lb w os, lc w os]
end OT
open PySem PySem.W PyProof.Rows
set_option maxRecDepth 100000 in
set_option maxHeartbeats 0 in
theorem PySem.Challenge.cw_gatefold_k38_board_lines_holds : PySem.Challenge.rw_gatefold_k38_board_lines.Holds := by
 w_on; o_law
 refine holds_open (q := OT.VW OT.PW) (loose := []) (Xt := OT.XT (OT.VW OT.PW)) (XP := XL (OT.VW OT.PW) []) (Yf := OT.HK.obs) (Ya := OT.HK.val) (YP := OT.HK.says) (N := 2802) OT.left OT.HK.of OT.HK.keeps
  (fun s e => xl_of s (Bool.and_eq_true_iff.mp e).1) XL.keeps (by rfl) (by rfl) (by rfl)
  (fun s e => recFacts_of (Bool.and_eq_true_iff.mp e).2) (by rfl) (by first | assumption | decide +kernel)
  (by decide +kernel)
  ⟨rfl, rfl, rfl, rfl, rfl, by decide +kernel⟩ ?hw ?hc
 case hw => w_witness2
 refine K38.walk (l := PySem.Challenge.rw_gatefold_k38_board_lines) (K := K38.KF) rfl rfl (fun w h Y => PySem.W.kIn_of Y) ?F
 case F =>
  intro w mg fa h KX G hmg
  k_fill
  refine' K38.all_mk KX G hmg ?aC_Board ?a0 ?l0 ?c0 ?k0 ?a1 ?l1 ?c1 ?k1 ?a2 ?l2 ?c2 ?k2 ?a3 ?l3 ?c3 ?k3 ?a4 ?l4 ?c4 ?k4 ?a5 ?l5 ?c5 ?k5 ?a6 ?l6 ?c6 ?k6 ?a7 ?i7 ?l7 ?c7 ?k7 ?a8 ?i8 ?l8 ?c8 ?k8 ?a9 ?i9 ?l9 ?c9 ?k9 ?a10 ?l10 ?c10 ?k10 ?a11 ?l11 ?c11 ?k11 ?a12 ?l12 ?c12 ?k12 ?a13 ?l13 ?c13 ?k13 ?a14 ?l14 ?c14 ?k14 ?a15 ?l15 ?c15 ?k15 ?a16 ?l16 ?c16 ?k16 ?a17 ?l17 ?c17 ?k17 ?a18 ?l18 ?c18 ?k18 ?a19 ?l19 ?c19 ?k19 ?pg_Board ?hd_Board ?po_Board ?sa_Board ?mk_Board ?kc_Board ?n_Board_many ?n_Board_kept_pieces ?n_Board_kept_ties ?g_GREATEST_KNOT ?g_LONGEST_CUT ?g_MOST_INPUTS ?z_all ?z_bool ?z_dict ?z_int ?z_isinstance ?z_len ?z_list ?z_max ?z_min ?z_range ?z_sorted ?z_str ?z_tuple ?z_zip
  (case aC_Board | a0 | l0 | c0 | k0 | a1 | l1 | c1 | k1 | a2 | l2 | c2 | k2 | a3 | l3 | c3 | k3 | a4 | l4 | c4 | k4 | a5 | l5 | c5 | k5 | a6 | l6 | c6 | k6 | a7 | i7 | l7 | c7 | k7 | a8 | i8 | l8 | c8 | k8 | a9 | i9 | l9 | c9 | k9 | a10 | l10 | c10 | k10 | a11 | l11 | c11 | k11 | a12 | l12 | c12 | k12 | a13 | l13 | c13 | k13 | a14 | l14 | c14 | k14 | a15 | l15 | c15 | k15 | a16 | l16 | c16 | k16 | a17 | l17 | c17 | k17 | a18 | l18 | c18 | k18 | a19 | l19 | c19 | k19 | pg_Board | hd_Board | po_Board | sa_Board | mk_Board | kc_Board | n_Board_many | n_Board_kept_pieces | n_Board_kept_ties | g_GREATEST_KNOT | g_LONGEST_CUT | g_MOST_INPUTS | z_all | z_bool | z_dict | z_int | z_isinstance | z_len | z_list | z_max | z_min | z_range | z_sorted | z_str | z_tuple | z_zip => k_is)

