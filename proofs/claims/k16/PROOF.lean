import PyProof.Rows.All
import Wide.All
import OpenK.AllK
import Wide.FinOn
import Lean
import PyProof.EqAt
import PyProof.EqKinds
import PyProof.TupleCall
import PyProof.ZipIter
import PyProof.WalksMore
import PyProof.ListNew
import PyProof.IsiBase
import PyProof.DictList
import PyProof.AttrMiss
import PyProof.FactsAll.dict
import PyProof.ListRange
import PyProof.StrLawsWords
import PyProof.StationsW
import KE.KIsAll
import PyProof.DictIter
import KE.KRevIter
import KE.KRangeStep
import KE.RegMulBits
import KE.KDictList
import PyProof.Draws
import PyProof.EnumStmt
import PyProof.Rows.CallKwBuiltin
import PyProof.Rows.Exc
import PySem.Challenge.RW_gatefold_k16_folded_tidy
set_option Elab.async false
set_option linter.all false
set_option maxRecDepth 100000
namespace L2
open PySem PySem.Spec PyProof.Rows
abbrev Key := Sum Int Str
def keyIs : Key → Value → Bool
 | .inl k, v => Value.isInt k v
 | .inr x, v => Value.isStrOf x v
def keyH (w : World) : Key → Int
 | .inl k => hashInt k
 | .inr x => hashStr w x
theorem keyIs_shape : ∀ {k : Key} {v : Value}, keyIs k v = true → (∃ i t, k = Sum.inl i ∧ v = Value.int i t) ∨ (∃ x t, k = Sum.inr x ∧ v = Value.str x t)
 | .inl i, v, h => by
  obtain ⟨t, e⟩ := Value.isInt_shape (k := i) (v := v) h
  exact .inl ⟨i, t, rfl, e⟩
 | .inr x, v, h => by
  obtain ⟨t, e⟩ := Value.isStrOf_shape (x := x) (v := v) h
  exact .inr ⟨x, t, rfl, e⟩
theorem keyIs_int (i : Int) (t : Tok) : keyIs (.inl i) (.int i t) = true := by simp [keyIs, Value.isInt]
theorem keyIs_str (x : Str) (t : Tok) : keyIs (.inr x) (.str x t) = true := by simp [keyIs, Value.isStrOf]
theorem key_ll (a b : Int) : decide ((Sum.inl a : Key) = Sum.inl b) = (a == b) := by
 by_cases e : a = b
 ·subst e; simp
 ·have h : ¬ (Sum.inl a : Key) = Sum.inl b := fun q => e (Sum.inl.inj q)
  rw [decide_eq_false h]
  exact (beq_eq_false_iff_ne.mpr e).symm
theorem key_rr (a b : Str) : decide ((Sum.inr a : Key) = Sum.inr b) = decide (a = b) := by
 by_cases e : a = b
 ·subst e; simp
 ·have h : ¬ (Sum.inr a : Key) = Sum.inr b := fun q => e (Sum.inr.inj q)
  rw [decide_eq_false h, decide_eq_false e]
theorem key_lr (a : Int) (b : Str) : decide ((Sum.inl a : Key) = Sum.inr b) = false := decide_eq_false (fun q => nomatch q)
theorem key_rl (a : Str) (b : Int) : decide ((Sum.inr a : Key) = Sum.inl b) = false := decide_eq_false (fun q => nomatch q)
def mixKind (prog : Program) (w : World) : PySem.KeyKind prog w Key where
 is := keyIs
 hash := keyH w
 inj := fun v a b ha hb => by
  rcases keyIs_shape ha with ⟨i, t, rfl, rfl⟩ | ⟨x, t, rfl, rfl⟩
  ·rcases keyIs_shape hb with ⟨j, u, rfl, e⟩ | ⟨y, u, rfl, e⟩
   ·injection e with e1 _; rw [e1]
   ·exact nomatch e
  ·rcases keyIs_shape hb with ⟨j, u, rfl, e⟩ | ⟨y, u, rfl, e⟩
   ·exact nomatch e
   ·injection e with e1 _; rw [e1]
 byValue := fun k v h => by
  rcases keyIs_shape h with ⟨i, t, rfl, rfl⟩ | ⟨x, t, rfl, rfl⟩ <;> rfl
 pyHash := fun hv h => by
  rcases keyIs_shape hv with ⟨i, t, rfl, rfl⟩ | ⟨x, t, rfl, rfl⟩
  ·exact wpAny_pyHash_int h
  ·exact wpAny_pyHash_str h
 eqBool := fun hu hv h => by
  rcases keyIs_shape hu with ⟨i, t, rfl, rfl⟩ | ⟨x, t, rfl, rfl⟩
  ·rcases keyIs_shape hv with ⟨j, u, rfl, rfl⟩ | ⟨y, u, rfl, rfl⟩
   ·rw [key_ll] at h; exact wpAny_eqBool_int h
   ·rw [key_lr] at h; exact SeqAt.EqAt.int_str i t y u _ _ _ _ h
  ·rcases keyIs_shape hv with ⟨j, u, rfl, rfl⟩ | ⟨y, u, rfl, rfl⟩
   ·rw [key_rl] at h; exact SeqAt.EqAt.str_int x t j u _ _ _ _ h
   ·rw [key_rr] at h; exact wpAny_eqBool_str h
 «strs» := fun k x t v h => by
  rcases keyIs_shape h with ⟨i, u, rfl, e⟩ | ⟨y, u, rfl, e⟩
  ·exact nomatch e
  ·injection e with e1 _
   subst e1
   cases v <;> rfl
theorem mixKind_int (prog : Program) (w : World) (i : Int) (t : Tok) : (mixKind prog w).is (.inl i) (.int i t) = true := keyIs_int i t
theorem mixKind_str (prog : Program) (w : World) (x : Str) (t : Tok) : (mixKind prog w).is (.inr x) (.str x t) = true := keyIs_str x t
inductive V where
 | non | bl (b : Bool) | int (i : Int) | str (x : Str) | byt (b : Array UInt8) | flt (b : UInt64) | ref (a : Addr) | ty (n : String)
 deriving DecidableEq
def RelV : V → Value → Prop
 | .non, u => u = Value.none
 | .bl b, u => u = Value.bool b
 | .int i, u => ∃ t, u = Value.int i t
 | .str x, u => ∃ t, u = Value.str x t
 | .byt b, u => ∃ t, u = Value.bytes b t
 | .flt b, u => ∃ t, u = Value.float b t
 | .ref a, u => u = Value.ref a
 | .ty n, u => u = Value.type n
abbrev Vals : List V → List Value → Prop := Paired RelV
theorem Vals.length {xs : List V} {us : List Value} (r : Vals xs us) : xs.length = us.length := Paired.length r
theorem Vals.get : ∀ {xs : List V} {us : List Value} {i : Nat} {x : V}, Vals xs us → xs[i]? = some x → ∃ u, us[i]? = some u ∧ RelV x u
 | _, _, _, _, .nil, e => by simp at e
 | _, _, 0, _, .cons r _, e => by simp at e; subst e; exact ⟨_, rfl, r⟩
 | _, _, i + 1, x, .cons _ t, e => by
  obtain ⟨u, h1, h2⟩ := Vals.get (i := i) (x := x) t (by simpa using e)
  exact ⟨u, by simpa using h1, h2⟩
theorem Vals.set {x : V} {u : Value} (r : RelV x u) : ∀ {xs : List V} {us : List Value} (i : Nat), Vals xs us → Vals (xs.set i x) (us.set i u)
 | _, _, _, .nil => .nil
 | _, _, 0, .cons _ t => .cons r t
 | _, _, i + 1, .cons q t => .cons q (Vals.set r i t)
theorem Vals.append : ∀ {xs ys : List V} {us ws : List Value}, Vals xs us → Vals ys ws → Vals (xs ++ ys) (us ++ ws)
 | _, _, _, _, .nil, s => s
 | _, _, _, _, .cons r t, s => .cons r (Vals.append t s)
theorem Vals.take : ∀ {xs : List V} {us : List Value} (n : Nat), Vals xs us → Vals (xs.take n) (us.take n)
 | _, _, 0, _ => .nil
 | _, _, _ + 1, .nil => .nil
 | _, _, n + 1, .cons r t => .cons r (Vals.take n t)
theorem Vals.drop : ∀ {xs : List V} {us : List Value} (n : Nat), Vals xs us → Vals (xs.drop n) (us.drop n)
 | _, _, 0, r => r
 | _, _, _ + 1, .nil => .nil
 | _, _, n + 1, .cons _ t => Vals.drop n t
def RelO : Option V → Option Value → Prop
 | some v, some u => RelV v u
 | none, none => True
 | _, _ => False
def KV {κ : Type} : List (κ × V) → List (κ × Value) → Prop := Paired fun (p : κ × V) (q : κ × Value) => p.1 = q.1 ∧ RelV p.2 q.2
def kV : Key → V
 | .inl i => .int i
 | .inr x => .str x
inductive HO where
  | lst (xs : List V)
  | tup (xs : List V)
  | dK (kvs : List (Key × V)) | dT (kvs : List (List Key × V))
  | set (S : Int → Bool) (n : Nat)
  | ins (C dx : Addr) (fs : List (Str × V))
  | own (x : Addr)
  | xd (fs : List (Str × V))
  | met (f x : Addr)
  | rng (lo hi : Int)
  | frz (o : Obj) (u : HO)
  | tbl (ps : Array Value)
  | ext (φ : Heap → Prop)
abbrev Hp := Addr → Option HO
def upd (H : Hp) (a : Addr) (o : HO) : Hp := fun b => if b = a then some o else H b
theorem upd_same {H : Hp} {a : Addr} {o : HO} : upd H a o a = some o := by unfold upd; rw [if_pos rfl]
theorem upd_ne {H : Hp} {a b : Addr} {o : HO} (h : b ≠ a) : upd H a o b = H b := by unfold upd; rw [if_neg h]
theorem upd_upd {H : Hp} {a : Addr} {o u : HO} : upd (upd H a o) a u = upd H a u := by
 funext b; unfold upd; split <;> rfl
theorem ne_of {H : Hp} {a b : Addr} {o u : HO} (h : H a = some o) (h' : H b = some u) (d : o ≠ u) : a ≠ b := by
 intro e; subst e; rw [h] at h'; exact d (Option.some.inj h')
theorem ne_of_none {H : Hp} {a b : Addr} {o : HO} (h : H a = some o) (h' : H b = none) : a ≠ b := by
 intro e; subst e; rw [h] at h'; cases h'
section
variable (P : Program) (w : World)
def ObjOk (H : Hp) (h : Heap) (a : Addr) : HO → Prop
 | .lst xs => xs.length ≤ sizeLine ∧ ∃ (its : List Value) (n : Nat), Vals xs its ∧ h.get? a = some { cls := .type "list", data := .seq its.toArray n }
 | .tup xs => xs.length ≤ sizeLine ∧ ∃ its : List Value, Vals xs its ∧ IsTup h a its.toArray
 | .dK kvs => kvs.length ≤ sizeLine ∧ (a == sysModules) = false ∧ ∃ vs, KV kvs vs ∧ h.DictOf (mixKind P w) a vs
 | .dT kvs => kvs.length ≤ sizeLine ∧ (a == sysModules) = false ∧ ∃ xs : List (List Key × Addr × Value),
   Paired (fun (p : List Key × V) (q : List Key × Addr × Value) => p.1 = q.1 ∧ H q.2.1 = some (.tup (p.1.map kV)) ∧ RelV p.2 q.2.2) kvs xs ∧
   ∃ o es ep, h.get? a = some o ∧ o.ExactDict ∧ o.data = .dict es ep ∧ es.toList = xs.map (entryOfKey (tupleKind (mixKind P w))) ∧ (xs.map (·.1)).Nodup
 | .set S n => h.SetOf (intKind P w) a S n
 | .ins C dx fs => H dx = some (.own a) ∧ fs.length ≤ 1000 ∧ dx ≠ a ∧ h.get? a = some (PySem.W.instObj C dx) ∧
   ∃ mA, h.Ns1 dx mA ∧ (∀ f, RelO (fs.lookup f) (mA f)) ∧ PySem.Within mA (fs.map (·.1))
 | .own _ => ∃ o, h.get? a = some o
 | .xd fs => ∃ mA, h.Ns1 a mA ∧ ∀ f, RelO (fs.lookup f) (mA f)
 | .rng lo hi => ∃ t u v, h.get? a = some { cls := .type "range", data := .fields #[.int lo t, .int hi u, .int 1 v] }
 | .frz o u => h.get? a = some o ∧ ObjOk H h a u
 | .tbl ps => h.get? a = some { cls := .none, data := .fields ps }
 | .met f x => h.get? a = some (PySem.W.methodObj (.ref f) (.ref x))
 | .ext φ => φ h ∧ (∃ o, h.get? a = some o) ∧ ∀ h1 h2 : Heap, φ h1 → (∀ o, h1.get? a = some o → h2.get? a = some o) → φ h2
def HOk (H : Hp) (h : Heap) : Prop := ∀ a o, H a = some o → ObjOk P w H h a o
end
section
variable {P : Program} {w : World} {H H' : Hp} {h h' : Heap} {a : Addr} {o : HO}
theorem ObjOk.lt (x : ObjOk P w H h a o) : a < h.objs.size := by
 cases o with
 | lst xs => obtain ⟨_, _, _, _, e⟩ := x; exact Heap.lt_size e
 | tup xs => obtain ⟨_, _, _, p⟩ := x; exact p.lt
 | dK kvs => obtain ⟨_, _, _, _, o, _, _, e, _⟩ := x; exact Heap.lt_size e
 | dT kvs => obtain ⟨_, _, _, _, o, _, _, e, _⟩ := x; exact Heap.lt_size e
 | set S n => obtain ⟨o, _, _, _, e, _⟩ := x; exact Heap.lt_size e
 | ins C dx fs => obtain ⟨_, _, _, e, _⟩ := x; exact Heap.lt_size e
 | own y => obtain ⟨_, e⟩ := x; exact Heap.lt_size e
 | xd fs => obtain ⟨_, ⟨_, _, _, e, _⟩, _⟩ := x; exact Heap.lt_size e
 | rng lo hi => obtain ⟨_, _, _, e⟩ := x; exact Heap.lt_size e
 | frz ob u => obtain ⟨e, _⟩ := x; exact Heap.lt_size e
 | tbl ps => exact Heap.lt_size (show h.get? a = some _ from x)
 | met f y => exact Heap.lt_size (show h.get? a = some _ from x)
 | ext φ => obtain ⟨_, ⟨_, e⟩, _⟩ := x; exact Heap.lt_size e
theorem Paired.mapP {α β : Type} {F G : α → β → Prop} : ∀ {l₁ : List α} {l₂ : List β}, Paired F l₁ l₂ → (∀ a b, F a b → G a b) → Paired G l₁ l₂
 | _, _, .nil, _ => .nil
 | _, _, .cons r t, f => .cons (f _ _ r) (Paired.mapP t f)
theorem ObjOk.stay (x : ObjOk P w H h a o) (k : ∀ b u, (b = a ∨ H b = some (.own a)) → h.get? b = some u → h'.get? b = some u)
  (ho : ∀ b, H b = some (.own a) → H' b = some (.own a)) (ht : ∀ b xs, H b = some (.tup xs) → H' b = some (.tup xs)) : ObjOk P w H' h' a o := by
 induction o with
 | lst xs => obtain ⟨z, its, n, r, e⟩ := x; exact ⟨z, its, n, r, k _ _ (.inl rfl) e⟩
 | tup xs => obtain ⟨z, its, r, ob, e, c⟩ := x; exact ⟨z, its, r, ob, k _ _ (.inl rfl) e, c⟩
 | dK kvs => obtain ⟨z, y, vs, r, ob, es, ep, e, c⟩ := x; exact ⟨z, y, vs, r, ob, es, ep, k _ _ (.inl rfl) e, c⟩
 | dT kvs =>
  obtain ⟨z, y, xs, r, ob, es, ep, e, c⟩ := x
  exact ⟨z, y, xs, Paired.mapP r fun p q z => ⟨z.1, ht _ _ z.2.1, z.2.2⟩, ob, es, ep, k _ _ (.inl rfl) e, c⟩
 | set S n => obtain ⟨ob, es, ep, t, e, c⟩ := x; exact ⟨ob, es, ep, t, k _ _ (.inl rfl) e, c⟩
 | ins C dx fs =>
  obtain ⟨d, z, ne, e, mA, ⟨od, es, ep, e2, c⟩, r⟩ := x
  exact ⟨ho _ d, z, ne, k _ _ (.inl rfl) e, mA, ⟨od, es, ep, k _ _ (.inr d) e2, c⟩, r⟩
 | own y => obtain ⟨ob, e⟩ := x; exact ⟨ob, k _ _ (.inl rfl) e⟩
 | xd fs => obtain ⟨mA, ⟨od, es, ep, e, c⟩, r⟩ := x; exact ⟨mA, ⟨od, es, ep, k _ _ (.inl rfl) e, c⟩, r⟩
 | rng lo hi => obtain ⟨t, u, v, e⟩ := x; exact ⟨t, u, v, k _ _ (.inl rfl) e⟩
 | frz ob u ih => obtain ⟨e, q⟩ := x; exact ⟨k _ _ (.inl rfl) e, ih q⟩
 | tbl ps =>
  have e : h.get? a = some { cls := .none, data := .fields ps } := x
  show h'.get? a = some { cls := .none, data := .fields ps }
  exact k a _ (.inl rfl) e
 | met f y =>
  have e : h.get? a = some (PySem.W.methodObj (.ref f) (.ref y)) := x
  show h'.get? a = some (PySem.W.methodObj (.ref f) (.ref y))
  exact k a _ (.inl rfl) e
 | ext φ => obtain ⟨p, ⟨o, e⟩, st⟩ := x; exact ⟨st _ _ p fun o q => k _ _ (.inl rfl) q, ⟨o, k _ _ (.inl rfl) e⟩, st⟩
theorem HOk.lt (x : HOk P w H h) (e : H a = some o) : a < h.objs.size := (x a o e).lt
theorem HOk.fresh (x : HOk P w H h) (e : h.objs.size ≤ a) : H a = none := by
 cases q : H a with
 | none => rfl
 | some u => exact absurd (Nat.lt_of_lt_of_le (x.lt q) e) (Nat.lt_irrefl _)
theorem HOk.kept (x : HOk P w H h) (k : ∀ b u, h.get? b = some u → h'.get? b = some u) : HOk P w H h' := fun a o e =>
 (x a o e).stay (fun b u _ q => k b u q) (fun _ q => q) fun _ _ q => q
theorem HOk.laid (x : HOk P w H h) (k : ∀ b u, h.get? b = some u → h'.get? b = some u) (hp : h.objs.size ≤ a) (new : ObjOk P w (upd H a o) h' a o) : HOk P w (upd H a o) h' := fun b u e => by
 have hn := x.fresh hp
 by_cases hb : b = a
 ·subst hb; rw [upd_same] at e; cases e; exact new
 ·rw [upd_ne hb] at e
  exact (x b u e).stay (fun c v _ q => k c v q) (fun c q => by rw [upd_ne (ne_of_none q hn)]; exact q) fun c xs q => by rw [upd_ne (ne_of_none q hn)]; exact q
end
def Rd (H : Hp) (a : Addr) (u : HO) : Prop := H a = some u ∨ ∃ o, H a = some (.frz o u)
theorem Rd.ok {P : Program} {w : World} {H : Hp} {h : Heap} {a : Addr} {u : HO} (r : Rd H a u) (x : HOk P w H h) : ObjOk P w H h a u := by
 rcases r with r | ⟨o, r⟩
 ·exact x a u r
 ·obtain ⟨_, q⟩ := x a _ r
  exact q
def Mut : Option HO → Prop
 | some (.lst _) => True
 | some (.dK _) => True
 | some (.dT _) => True
 | some (.set _ _) => True
 | some (.ins _ _ _) => True
 | some (.ext _) => True
 | _ => False
section
variable {P : Program} {w : World} {H : Hp} {h h' : Heap} {x e : Addr} {o' : HO}
theorem HOk.write (ok : HOk P w H h) (mu : Mut (H x)) (he : e = x ∨ H e = some (.own x)) (k : ∀ b u, b ≠ e → h.get? b = some u → h'.get? b = some u) (heo : ∃ u, h'.get? e = some u)
  (new : ObjOk P w (upd H x o') h' x o') : HOk P w (upd H x o') h' := fun b u q => by
 have nown : ∀ c y, H c = some (.own y) → c ≠ x := fun c y r z => by subst z; rw [r] at mu; exact mu
 have ntup : ∀ c xs, H c = some (.tup xs) → c ≠ x := fun c xs r z => by subst z; rw [r] at mu; exact mu
 by_cases hb : b = x
 ·subst hb; rw [upd_same] at q; cases q; exact new
 ·rw [upd_ne hb] at q
  by_cases hbe : b = e
  ·have q' : H b = some (.own x) := by
    rcases he with z | z
    ·exact absurd (hbe.trans z) hb
    ·rw [hbe]; exact z
   rw [q] at q'; cases q'
   obtain ⟨v, hv⟩ := heo
   exact ⟨v, by rw [hbe]; exact hv⟩
  ·refine (ok b u q).stay (fun c v hc r => k c v ?_ r) (fun c r => by rw [upd_ne (nown c b r)]; exact r) fun c xs r => by rw [upd_ne (ntup c xs r)]; exact r
   rcases hc with rfl | hc
   ·exact hbe
   ·rintro rfl
    rcases he with z | z
    ·exact nown c b hc z
    ·rw [hc] at z; cases z; exact hb rfl
end
structure Un (fs ex : List Addr) (H H' : Hp) (h h' : Heap) : Prop where
 keep : ∀ b o, h.get? b = some o → H b = none → b ∉ fs → b ∉ ex → h'.get? b = some o
 slot : ∀ b o, h.get? b = some o → H b = none → b ∈ fs → b ∉ ex → ∃ sl, h'.get? b = some { o with slots := sl }
 free : ∀ b o, h.get? b = some o → H b = none → b ∉ ex → H' b = none
 there : ∀ b o, h.get? b = some o → b ∉ ex → ∃ o', h'.get? b = some o'
 tups : ∀ b xs, H b = some (.tup xs) → H' b = some (.tup xs)
 frzs : ∀ b o u, H b = some (.frz o u) → H' b = some (.frz o u)
 tbls : ∀ b ps, H b = some (.tbl ps) → ∃ more, H' b = some (.tbl (ps ++ more))
section
variable {fs fs' ex ex' : List Addr} {H H1 H2 : Hp} {h h1 h2 h' : Heap} {a x e : Addr} {o : HO}
theorem Un.any (u : Un fs ex H H1 h h1) {b : Addr} {ob : Obj} (q : h.get? b = some ob) (n : H b = none) (hx : b ∉ ex) : ∃ sl, h1.get? b = some { ob with slots := sl } := by
 by_cases hb : b ∈ fs
 ·exact u.slot b ob q n hb hx
 ·exact ⟨ob.slots, u.keep b ob q n hb hx⟩
theorem Un.kept (k : ∀ b u, h.get? b = some u → h'.get? b = some u) : Un fs ex H H h h' :=
 ⟨fun b ob q _ _ _ => k b ob q, fun b ob q _ _ _ => ⟨ob.slots, k b ob q⟩, fun _ _ _ n _ => n, fun b ob q _ => ⟨ob, k b ob q⟩, fun _ _ q => q, fun _ _ _ q => q, fun _ ps q => ⟨#[], by rw [q]; simp⟩⟩
theorem Un.refl : Un fs ex H H h h := Un.kept fun _ _ q => q
theorem Un.laid (k : ∀ b u, h.get? b = some u → h'.get? b = some u) (hp : h.objs.size ≤ a) (hn : H a = none) : Un fs ex H (upd H a o) h h' where
 keep := fun b u q _ _ _ => k b u q
 slot := fun b u q _ _ _ => ⟨u.slots, k b u q⟩
 free := fun b u q n _ => by rw [upd_ne (Nat.ne_of_lt (Nat.lt_of_lt_of_le (Heap.lt_size q) hp))]; exact n
 there := fun b u q _ => ⟨u, k b u q⟩
 tups := fun b xs q => by rw [upd_ne (ne_of_none q hn)]; exact q
 frzs := fun b u xs q => by rw [upd_ne (ne_of_none q hn)]; exact q
 tbls := fun b ps q => ⟨#[], by rw [upd_ne (ne_of_none q hn), q]; simp⟩
theorem Un.write (mu : Mut (H x)) (he : e = x ∨ H e = some (.own x)) (k : ∀ b u, b ≠ e → h.get? b = some u → h'.get? b = some u) (heo : ∃ u, h'.get? e = some u) : Un fs ex H (upd H x o) h h' := by
 have hx : ∀ b, H b = none → b ≠ x := fun b n z => by subst z; rw [n] at mu; exact mu
 have hb : ∀ b, H b = none → b ≠ e := fun b n z => by
  subst z
  rcases he with r | r
  ·exact hx b n r
  ·rw [n] at r; cases r
 have hm : ∀ b u, H b = some u → ¬ Mut (some u) → b ≠ x := fun b u q nm z => by subst z; rw [q] at mu; exact nm mu
 refine ⟨fun b u q n _ _ => k b u (hb b n) q, fun b u q n _ _ => ⟨u.slots, k b u (hb b n) q⟩, fun b u q n _ => by rw [upd_ne (hx b n)]; exact n, fun b u q _ => ?_,
  fun b xs q => by rw [upd_ne (hm b _ q fun z => z)]; exact q, fun b u xs q => by rw [upd_ne (hm b _ q fun z => z)]; exact q, fun b ps q => ⟨#[], by rw [upd_ne (hm b _ q fun z => z), q]; simp⟩⟩
 by_cases hbe : b = e
 ·subst hbe; exact heo
 ·exact ⟨u, k b u hbe q⟩
end
def trk (h : Heap) (H : Hp) : List Addr := (List.range h.objs.size).filter fun a => (H a).isSome
def hidT (h : Heap) (H : Hp) : Heap := PySem.W.hideAll h (trk h H)
theorem hidT_size (h : Heap) (H : Hp) : (hidT h H).objs.size = h.objs.size := PySem.W.hideAll_size _ _
theorem hidT_get {h : Heap} {H : Hp} {b : Addr} {o : Obj} (e : h.get? b = some o) (n : H b = none) : (hidT h H).get? b = some o :=
 PySem.W.hideAll_get _ e fun hm => by
  have q : (H b).isSome = true := (List.mem_filter.mp hm).2
  rw [n] at q; simp at q
theorem of_hidT {h : Heap} {H : Hp} {b : Addr} {o : Obj} (e : (hidT h H).get? b = some o) : h.get? b = some o ∧ H b = none := by
 have e' : h.get? b = some o := PySem.W.of_hideAll (trk h H) e
 refine ⟨e', ?_⟩
 cases q : H b with
 | none => rfl
 | some x =>
  have hm : b ∈ trk h H := List.mem_filter.mpr ⟨List.mem_range.mpr (Heap.lt_size e'), by simp [q]⟩
  have z : (hidT h H).get? b = none := PySem.W.hideAll_none (trk h H) hm
  rw [z] at e; cases e
def allNews (g h : Heap) (L : Addr) : List (Addr × Obj) := (List.range h.objs.size).filterMap fun a => if a = L ∨ (g.get? a).isSome = true then none else (h.get? a).map fun o => (a, o)
def rest (g h : Heap) (L d : Addr) : List (Addr × Obj) := (allNews g h L).filter fun p => decide (p.1 ≠ d)
structure Mod (K : PySem.W.Frag) (mg : Str → Option Value) (base : Heap) : Prop where
 kin : K.In base
 glob : base.Ns mainGlobals mg
 blt : ∃ mb, base.Ns builtinsNs mb ∧ ∀ x : Str, x ≠ "__name__" → mb x = bootBuiltins x
 nolimit : base.NoLimit
structure Cx where
 prog : Program
 w : World
 K : PySem.W.Frag
 mg : Str → Option Value
 base : Heap
 A : Around
 N : List Str
 s₀ : Shared
 H₀ : Hp
 env : Env
 outer : List Env
 stack : List Env
 ex : List Addr
 fn : Str → Bool
 calm : Bool
 pn : List (Addr × Obj)
 xe : Value → Shared → Prop
def frs (l : List Env) : List Addr := l.filterMap (·.frame)
abbrev Cx.fs (X : Cx) : List Addr := frs X.outer
def Vis (sc : Scope) (x : Str) : Prop := sc.names.lookup x = some .local ∨ sc.names.lookup x = some .cell ∨ sc.names.lookup x = some .free
def Loc (sc : Scope) (x : Str) : Prop := sc.names.lookup x = some .local ∨ sc.names.lookup x = some .cell
def Look (env : Env) (h : Heap) (m : Str → Option Value) (x : Str) (u : Value) : Prop :=
 (env.kindOf x = some .local ∧ m x = some u) ∨ ((env.kindOf x = some .cell ∨ env.kindOf x = some .free) ∧ ∃ c, env.cells.lookup x = some c ∧ h.IsCell c (some u))
structure Cx.Ok (X : Cx) : Prop where
 mod : Mod X.K X.mg X.base
 kind : X.env.scope.kind = .function
 glob : X.env.globals = mainGlobals
 blt : X.env.builtins = builtinsNs
 above : X.s₀.heap.objs.size ≤ X.env.locals
 inj : ∀ x y c, X.env.cells.lookup x = some c → X.env.cells.lookup y = some c → x = y
 has : ∀ x, (X.env.kindOf x = some .cell ∨ X.env.kindOf x = some .free) → ∃ c, X.env.cells.lookup x = some c
 cab : ∀ x c, X.fn x = true → X.env.cells.lookup x = some c → X.s₀.heap.objs.size ≤ c
 hd : X.calm = true → X.A.handled = none
 frames : X.A.frames = some X.stack
 stk : X.stack = X.outer ∨ (X.stack = X.env :: X.outer ∧ X.env.frame = some X.env.locals)
 exf : ∀ b ∈ X.ex, b ≠ X.env.locals ∧ ∀ x c, X.env.cells.lookup x = some c → c ≠ b
 bs : ∀ b o, X.base.get? b = some o → X.s₀.heap.get? b = some o ∧ X.H₀ b = none
 bsz : X.base.objs.size ≤ X.s₀.heap.objs.size
 noex : ∀ b o, X.base.get? b = some o → b ∉ X.ex
 exfs : ∀ b ∈ X.ex, b ∉ X.fs
 funs : X.s₀.heap.FunFrames X.base X.outer
 frf : ∀ b ∈ X.fs, X.H₀ b = none
structure Inv (X : Cx) (pins : List (Addr × Obj)) (σ : List (Option V)) (H : Hp) (s : Shared) : Prop where
 ok : X.Ok
 os : s.os = X.s₀.os
 bare : AllBare s.gens
 base : Un X.fs X.ex X.H₀ H X.s₀.heap s.heap
 loc : ∃ m, s.heap.Ns X.env.locals m ∧ ∀ (i : Nat) (x : Str) (v : V), X.N[i]? = some x → σ[i]? = some (some v) → Vis X.env.scope x → ∃ u, RelV v u ∧ Look X.env s.heap m x u
 cell : ∀ x c, X.env.cells.lookup x = some c → ∃ v, s.heap.IsCell c v
 free : H X.env.locals = none
 freeC : ∀ x c, X.env.cells.lookup x = some c → H c = none
 pin : ∀ p ∈ X.pn ++ pins, s.heap.get? p.1 = some p.2 ∧ H p.1 = none ∧ p.1 ≠ X.env.locals ∧ p.1 ∉ X.fs ∧ ∀ v, p.2.data ≠ .cell v
 hok : HOk X.prog X.w H s.heap
 len : σ.length = X.N.length
section
variable {X : Cx} {pins : List (Addr × Obj)} {σ : List (Option V)} {H H' : Hp} {s : Shared} {h' : Heap}
theorem Cx.Ok.nofr (ok : X.Ok) {b : Addr} {o : Obj} (e : X.base.get? b = some o) : b ∉ X.fs := fun hb => by
 have := (ok.funs.mem hb).1
 rw [e] at this; cases this
theorem Inv.bs (I : Inv X pins σ H s) : ∀ b o, X.base.get? b = some o → s.heap.get? b = some o ∧ H b = none := fun b o e =>
 ⟨I.base.keep b o (I.ok.bs b o e).1 (I.ok.bs b o e).2 (I.ok.nofr e) (I.ok.noex b o e), I.base.free b o (I.ok.bs b o e).1 (I.ok.bs b o e).2 (I.ok.noex b o e)⟩
theorem Inv.bk (I : Inv X pins σ H s) : ∀ b o, X.base.get? b = some o → s.heap.get? b = some o := fun b o e => (I.bs b o e).1
theorem Inv.mod (I : Inv X pins σ H s) : Mod X.K X.mg X.base := I.ok.mod
theorem Inv.kIn (I : Inv X pins σ H s) : X.K.In s.heap := I.ok.mod.kin.keeps I.bk
theorem Inv.nolimit (I : Inv X pins σ H s) : s.heap.NoLimit := I.ok.mod.nolimit.keeps I.bk
theorem Inv.fr (I : Inv X pins σ H s) : ∃ m, Fr X.base X.env.locals s.heap m :=
 let ⟨m, hn, _⟩ := I.loc
 ⟨m, hn, I.bk, Nat.le_trans I.ok.bsz I.ok.above⟩
theorem Inv.lt (I : Inv X pins σ H s) : X.env.locals < s.heap.objs.size := let ⟨_, hn, _⟩ := I.loc; hn.lt
theorem Inv.sz (I : Inv X pins σ H s) : X.s₀.heap.objs.size ≤ s.heap.objs.size := Nat.le_trans I.ok.above (Nat.le_of_lt I.lt)
theorem Inv.nofs (I : Inv X pins σ H s) {a : Addr} (h : s.heap.objs.size ≤ a) : a ∉ X.fs := fun hb => by
 obtain ⟨_, o, ho, _⟩ := I.ok.funs.mem hb
 exact absurd (Nat.lt_of_lt_of_le (Heap.lt_size ho) (Nat.le_trans I.sz h)) (Nat.lt_irrefl _)
theorem Inv.cne (I : Inv X pins σ H s) : ∀ x c, X.env.cells.lookup x = some c → c ≠ X.env.locals := fun x c e z => by
 obtain ⟨v, o, ho, hd⟩ := I.cell x c e
 obtain ⟨m, ⟨o', es, ep, ho', hd', _⟩, _⟩ := I.loc
 rw [z, ho'] at ho; cases ho; rw [hd'] at hd; cases hd
theorem Inv.funs (I : Inv X pins σ H s) : s.heap.FunFrames X.base X.outer := by
 have all : ∀ (l : List Env), (∀ b ∈ frs l, b ∈ X.fs) → X.s₀.heap.FunFrames X.base l → s.heap.FunFrames X.base l := by
  intro l
  induction l with
  | nil => intro _ _; trivial
  | cons env r ih =>
   intro hs hl
   obtain ⟨hk, ⟨L, o, hf, hn, ho, hd⟩, hr⟩ := hl
   have hL : L ∈ X.fs := hs L (by unfold frs; rw [List.filterMap_cons, hf]; exact List.mem_cons_self)
   obtain ⟨sl, e⟩ := I.base.slot L o ho (I.ok.frf L hL) hL fun z => I.ok.exfs L z hL
   exact ⟨hk, ⟨L, _, hf, hn, e, hd⟩, ih (fun b hb => hs b (by unfold frs; rw [List.filterMap_cons, hf]; exact List.mem_cons_of_mem _ hb)) hr⟩
 exact all X.outer (fun _ hb => hb) I.ok.funs
theorem Inv.stack (I : Inv X pins σ H s) : s.heap.FunFrames X.base X.stack := by
 rcases I.ok.stk with e | ⟨e, hf⟩
 ·rw [e]; exact I.funs
 ·rw [e]
  obtain ⟨m, hn, _⟩ := I.loc
  refine .cons (by rw [I.ok.kind]; decide) hf hn ?_ I.funs
  exact Heap.get?_none_of_le (Nat.le_trans I.ok.bsz I.ok.above)
theorem Inv.stkSub (I : Inv X pins σ H s) : ∀ b ∈ frs X.stack, b ∈ X.env.locals :: X.fs := fun b hb => by
 rcases I.ok.stk with e | ⟨e, hf⟩
 ·rw [e] at hb; exact List.mem_cons_of_mem _ hb
 ·rw [e] at hb
  unfold frs at hb
  rw [List.filterMap_cons, hf] at hb
  exact hb
theorem Inv.stkFree (I : Inv X pins σ H s) : ∀ b ∈ frs X.stack, H b = none := fun b hb => by
 rcases List.mem_cons.mp (I.stkSub b hb) with e | hb
 ·rw [e]; exact I.free
 ·obtain ⟨_, o, ho, _⟩ := I.ok.funs.mem hb
  exact I.base.free b o ho (I.ok.frf b hb) fun z => I.ok.exfs b z hb
theorem Inv.step {g' : Array GenState} {t' : Nat} {d' : Drawn} {ch : List Addr} (I : Inv X pins σ H s)
  (hch : ∀ b ∈ ch, (b ∈ X.ex ∨ X.s₀.heap.objs.size ≤ b) ∧ b ≠ X.env.locals ∧ (∀ x c, X.env.cells.lookup x = some c → c ≠ b) ∧ ∀ p ∈ X.pn ++ pins, p.1 ≠ b)
  (keep : ∀ b o, b ≠ X.env.locals → b ∉ X.fs → b ∉ ch → s.heap.get? b = some o → H b = none → h'.get? b = some o)
  (slot : ∀ b o, b ≠ X.env.locals → b ∈ X.fs → b ∉ ch → s.heap.get? b = some o → H b = none → ∃ sl, h'.get? b = some { o with slots := sl }) (free : ∀ b o, b ∉ ch → s.heap.get? b = some o → H b = none → H' b = none)
  (there : ∀ b o, b ∉ ch → s.heap.get? b = some o → ∃ o', h'.get? b = some o')
  (tups : ∀ b xs, H b = some (.tup xs) → H' b = some (.tup xs)) (frzs : ∀ b o u, H b = some (.frz o u) → H' b = some (.frz o u)) (tbls : ∀ b ps, H b = some (.tbl ps) → ∃ more, H' b = some (.tbl (ps ++ more)))
  (ns : ∀ m, s.heap.Ns X.env.locals m → h'.Ns X.env.locals m) (hok : HOk X.prog X.w H' h') (hg : AllBare g') :
  Inv X pins σ H' { s with heap := h', gens := g', drawn := d', toks := t' } := by
 have neL : ∀ b o, X.s₀.heap.get? b = some o → b ≠ X.env.locals := fun b o e => Nat.ne_of_lt (Nat.lt_of_lt_of_le (Heap.lt_size e) I.ok.above)
 have neC : ∀ b o, X.s₀.heap.get? b = some o → b ∉ X.ex → b ∉ ch := fun b o e hx hb => by
  rcases (hch b hb).1 with z | z
  ·exact hx z
  ·exact absurd (Nat.lt_of_lt_of_le (Heap.lt_size e) z) (Nat.lt_irrefl _)
 have cellK : ∀ x c, X.env.cells.lookup x = some c → ∀ v, s.heap.IsCell c v → h'.IsCell c v := fun x c e v ⟨o, ho, hd⟩ => by
  have nch : c ∉ ch := fun z => (hch c z).2.2.1 x c e rfl
  by_cases hc : c ∈ X.fs
  ·obtain ⟨sl, q⟩ := slot c o (I.cne x c e) hc nch ho (I.freeC x c e)
   exact ⟨_, q, hd⟩
  ·exact ⟨o, keep c o (I.cne x c e) hc nch ho (I.freeC x c e), hd⟩
 refine ⟨I.ok, I.os, hg, ⟨fun b o e n hb hx => ?_, fun b o e n hb hx => ?_, fun b o e n hx => ?_, fun b o e hx => ?_, fun b xs e => tups b xs (I.base.tups b xs e), fun b o xs e => frzs b o xs (I.base.frzs b o xs e), fun b ps e => ?_⟩, ?_, fun x c e => ?_, ?_, fun x c e => ?_, fun p hp => ?_, hok, I.len⟩
 ·exact keep b o (neL b o e) hb (neC b o e hx) (I.base.keep b o e n hb hx) (I.base.free b o e n hx)
 ·obtain ⟨sl, e1⟩ := I.base.slot b o e n hb hx
  obtain ⟨sl', e2⟩ := slot b _ (neL b o e) hb (neC b o e hx) e1 (I.base.free b o e n hx)
  exact ⟨sl', e2⟩
 ·obtain ⟨o', e1⟩ := I.base.there b o e hx
  exact free b o' (neC b o e hx) e1 (I.base.free b o e n hx)
 ·obtain ⟨o', e1⟩ := I.base.there b o e hx
  exact there b o' (neC b o e hx) e1
 ·obtain ⟨m1, e1⟩ := I.base.tbls b ps e
  obtain ⟨m2, e2⟩ := tbls b _ e1
  exact ⟨m1 ++ m2, by rw [e2, Array.append_assoc]⟩
 ·obtain ⟨m, hn, hl⟩ := I.loc
  refine ⟨m, ns m hn, fun i x v e1 e2 e3 => ?_⟩
  obtain ⟨u, r, l⟩ := hl i x v e1 e2 e3
  refine ⟨u, r, ?_⟩
  rcases l with l | ⟨k, c, e, z⟩
  ·exact .inl l
  ·exact .inr ⟨k, c, e, cellK x c e _ z⟩
 ·obtain ⟨v, z⟩ := I.cell x c e
  exact ⟨v, cellK x c e v z⟩
 ·obtain ⟨m, ⟨o, _, _, ho, _⟩, _⟩ := I.loc
  exact free _ o (fun z => (hch _ z).2.1 rfl) ho I.free
 ·obtain ⟨v, o, ho, hd⟩ := I.cell x c e
  exact free c o (fun z => (hch c z).2.2.1 x c e rfl) ho (I.freeC x c e)
 ·obtain ⟨e, n, ne, nf, d⟩ := I.pin p hp
  have nch : p.1 ∉ ch := fun z => (hch p.1 z).2.2.2 p hp rfl
  exact ⟨keep p.1 p.2 ne nf nch e n, free p.1 p.2 nch e n, ne, nf, d⟩
theorem Inv.un {t' : Nat} (I : Inv X pins σ H s) (u : Un X.fs [] H H' s.heap h') (hok : HOk X.prog X.w H' h') : Inv X pins σ H' { s with heap := h', toks := t' } := by
 obtain ⟨m, ⟨o, es, ep, ho, r⟩, _⟩ := id I.loc
 obtain ⟨sl, hL⟩ := u.any ho I.free (by simp)
 exact I.step (g' := s.gens) (d' := s.drawn) (ch := []) (fun _ z => nomatch z) (fun b o _ hb _ e n => u.keep b o e n hb (by simp)) (fun b o _ hb _ e n => u.slot b o e n hb (by simp)) (fun b o _ e n => u.free b o e n (by simp)) (fun b o _ e => u.there b o e (by simp)) u.tups u.frzs u.tbls (fun m' hm => by
  obtain ⟨o', es', ep', ho', r'⟩ := hm
  rw [ho] at ho'; cases ho'
  exact ⟨_, es', ep', hL, r'⟩) hok I.bare
theorem Inv.call {g' : Array GenState} {t' : Nat} {d' : Drawn} {ch : List Addr} (I : Inv X pins σ H s) (u : Un (frs X.stack) ch H H' s.heap h') (hok : HOk X.prog X.w H' h') (hg : AllBare g')
  (hch : ∀ b ∈ ch, (b ∈ X.ex ∨ X.s₀.heap.objs.size ≤ b) ∧ b ≠ X.env.locals ∧ (∀ x c, X.env.cells.lookup x = some c → c ≠ b) ∧ ∀ p ∈ X.pn ++ pins, p.1 ≠ b) :
  Inv X pins σ H' { s with heap := h', gens := g', drawn := d', toks := t' } := by
 obtain ⟨m, ⟨o, es, ep, ho, r⟩, _⟩ := id I.loc
 obtain ⟨sl, hL⟩ := u.any ho I.free fun z => (hch _ z).2.1 rfl
 exact I.step (ch := ch) hch (fun b o hL hb hc e n => u.keep b o e n (fun z => (List.mem_cons.mp (I.stkSub b z)).elim hL hb) hc) (fun b o _ _ hc e n => u.any e n hc) (fun b o hc e n => u.free b o e n hc) (fun b o hc e => u.there b o e hc) u.tups u.frzs u.tbls (fun m' hm => by
  obtain ⟨o', es', ep', ho', r'⟩ := hm
  rw [ho] at ho'; cases ho'
  exact ⟨_, es', ep', hL, r'⟩) hok hg
theorem Inv.turned {t' : Nat} {it : Addr} (I : Inv X pins σ H s) (k : ∀ b o, b ≠ it → s.heap.get? b = some o → h'.get? b = some o) (hn : H it = none) (hL : it ≠ X.env.locals)
  (h1 : it ∈ X.ex ∨ X.s₀.heap.objs.size ≤ it) (h2 : ∀ x c, X.env.cells.lookup x = some c → c ≠ it) (h3 : ∀ p ∈ X.pn ++ pins, p.1 ≠ it) : Inv X pins σ H { s with heap := h', toks := t' } := by
 have nit : ∀ b u, H b = some u → b ≠ it := fun b u e z => by rw [z, hn] at e; cases e
 refine I.step (g' := s.gens) (d' := s.drawn) (ch := [it]) (fun b hb => ?_) (fun b o _ _ hc e _ => k b o (fun z => hc (by simp [z])) e) (fun b o _ _ hc e _ => ⟨o.slots, k b o (fun z => hc (by simp [z])) e⟩) (fun _ _ _ _ n => n)
  (fun b o hc e => ⟨o, k b o (fun z => hc (by simp [z])) e⟩) (fun _ _ e => e) (fun _ _ _ e => e) (fun b ps e => ⟨#[], by rw [e]; simp⟩) (fun m hm => ?_) (fun b u e => ?_) I.bare
 ·have e : b = it := by simpa using hb
  subst e
  exact ⟨h1, hL, h2, h3⟩
 ·obtain ⟨o, es, ep, ho, r⟩ := hm
  exact ⟨o, es, ep, k _ o (Ne.symm hL) ho, r⟩
 ·refine (I.hok b u e).stay (fun c v hc q => k c v ?_ q) (fun _ q => q) fun _ _ q => q
  rcases hc with z | z
  ·rw [z]; exact nit b u e
  ·exact nit c _ z
theorem Inv.tok (I : Inv X pins σ H s) (t : Nat) : Inv X pins σ H { s with toks := t } := I.un (h' := s.heap) (t' := t) Un.refl I.hok
theorem Inv.kept {t' : Nat} (I : Inv X pins σ H s) (k : ∀ b u, s.heap.get? b = some u → h'.get? b = some u) : Inv X pins σ H { s with heap := h', toks := t' } := I.un (Un.kept k) (I.hok.kept k)
theorem Inv.laid {a : Addr} {o : HO} {t' : Nat} (I : Inv X pins σ H s) (k : ∀ b u, s.heap.get? b = some u → h'.get? b = some u) (hp : s.heap.objs.size ≤ a) (new : ObjOk X.prog X.w (upd H a o) h' a o) :
  Inv X pins σ (upd H a o) { s with heap := h', toks := t' } := I.un (Un.laid k hp (I.hok.fresh hp)) (I.hok.laid k hp new)
theorem Inv.write {x e : Addr} {o : HO} {t' : Nat} (I : Inv X pins σ H s) (mu : Mut (H x)) (he : e = x ∨ H e = some (.own x)) (k : ∀ b u, b ≠ e → s.heap.get? b = some u → h'.get? b = some u) (heo : ∃ u, h'.get? e = some u)
  (new : ObjOk X.prog X.w (upd H x o) h' x o) : Inv X pins σ (upd H x o) { s with heap := h', toks := t' } := I.un (Un.write mu he k heo) (I.hok.write mu he k heo new)
theorem Inv.pins_of {pins' : List (Addr × Obj)} (I : Inv X pins σ H s) (h : ∀ p ∈ pins', s.heap.get? p.1 = some p.2 ∧ H p.1 = none ∧ p.1 ≠ X.env.locals ∧ p.1 ∉ X.fs ∧ ∀ v, p.2.data ≠ .cell v) : Inv X pins' σ H s :=
 ⟨I.ok, I.os, I.bare, I.base, I.loc, I.cell, I.free, I.freeC, fun p hp => (List.mem_append.mp hp).elim (fun z => I.pin p (List.mem_append_left _ z)) (h p), I.hok, I.len⟩
theorem nodup_ix {N : List Str} (hN : N.Nodup) {i j : Nat} {x : Str} (a : N[i]? = some x) (b : N[j]? = some x) : i = j := by
 obtain ⟨h1, e1⟩ := List.getElem?_eq_some_iff.mp a
 obtain ⟨h2, e2⟩ := List.getElem?_eq_some_iff.mp b
 exact (List.getElem_inj hN).mp (e1.trans e2.symm)
theorem store_ok2 {M : Model} {A : Around} {E : Value → Shared → Prop} {i : Nat} {x : Str} {v : V} {u : Value} {Q : Unit → Shared → Prop} (I : Inv X pins σ H s) (hN : X.N.Nodup) (hi : X.N[i]? = some x) (hx : Loc X.env.scope x) (r : RelV v u)
  (h : ∀ s', Inv X pins (σ.set i (some v)) H s' → (∃ a, Heap.SameBut a s.heap s'.heap ∧ (a = X.env.locals ∨ X.env.cells.lookup x = some a)) → Q () s') (hf : X.fn x = true ∨ X.env.scope.names.lookup x = some .local := by first | exact .inl rfl | exact .inr rfl | assumption) : wpAny M A (storeName X.env x u) Q E s := by
 obtain ⟨m, hn, hl⟩ := id I.loc
 have hcls : (X.env.scope.kind == .class || (X.env.scope.kind == .module && X.env.locals != X.env.globals)) = false := by rw [I.ok.kind]; rfl
 have hiσ : i < σ.length := by rw [I.len]; exact (List.getElem?_eq_some_iff.mp hi).1
 have cne := I.cne
 have tracked : ∀ {a : Addr} {h' : Heap}, (∃ o, s.heap.get? a = some o ∧ H a = none) → Heap.SameBut a s.heap h' → HOk X.prog X.w H h' := fun {a h'} ha hs b ob e => by
  obtain ⟨_, _, hfree⟩ := ha
  refine (I.hok b ob e).stay (fun c w' hc q => (hs.2 c ?_).trans q) (fun _ q => q) fun _ _ q => q
  rintro rfl
  rcases hc with rfl | hc
  ·rw [hfree] at e; cases e
  ·rw [hfree] at hc; cases hc
 rcases hx with hk | hk
 ·refine wpAny_storeName_local hk hn (fun h' hn' hs => ?_) hcls
  obtain ⟨oL, _, _, hoL, _⟩ := id hn
  refine h _ ⟨I.ok, I.os, I.bare, ⟨fun b o e n hb hx => ?_, fun b o e n hb hx => ?_, I.base.free, fun b o e hx => ?_, I.base.tups, I.base.frzs, I.base.tbls⟩, ⟨_, hn', fun j y v' e1 e2 e3 => ?_⟩, fun y c e => ?_, I.free, I.freeC, fun p hp => ?_, tracked ⟨oL, hoL, I.free⟩ hs, by simpa using I.len⟩ ⟨_, hs, .inl rfl⟩
  ·exact (hs.2 b (Nat.ne_of_lt (Nat.lt_of_lt_of_le (Heap.lt_size e) I.ok.above))).trans (I.base.keep b o e n hb hx)
  ·obtain ⟨sl, e1⟩ := I.base.slot b o e n hb hx
   exact ⟨sl, (hs.2 b (Nat.ne_of_lt (Nat.lt_of_lt_of_le (Heap.lt_size e) I.ok.above))).trans e1⟩
  ·obtain ⟨o', e1⟩ := I.base.there b o e hx
   exact ⟨o', (hs.2 b (Nat.ne_of_lt (Nat.lt_of_lt_of_le (Heap.lt_size e) I.ok.above))).trans e1⟩
  ·by_cases hj : j = i
   ·subst hj
    rw [hi] at e1; cases e1
    rw [List.getElem?_set_self hiσ] at e2
    cases e2
    exact ⟨u, r, .inl ⟨hk, by simp⟩⟩
   ·rw [List.getElem?_set_ne (Ne.symm hj)] at e2
    obtain ⟨u', r', q⟩ := hl j y v' e1 e2 e3
    refine ⟨u', r', ?_⟩
    rcases q with ⟨k, e⟩ | ⟨k, c, e, z⟩
    ·refine .inl ⟨k, ?_⟩
     have : y ≠ x := fun e => hj (nodup_ix hN e1 (e ▸ hi))
     simp [this, e]
    ·exact .inr ⟨k, c, e, z.sameBut hs (cne y c e)⟩
  ·obtain ⟨w', z⟩ := I.cell y c e
   exact ⟨w', z.sameBut hs (cne y c e)⟩
  ·obtain ⟨e, n, ne, nf, d⟩ := I.pin p hp
   exact ⟨(hs.2 p.1 ne).trans e, n, ne, nf, d⟩
 ·have hfn : X.fn x = true := by
   rcases hf with z | z
   ·exact z
   ·rw [z] at hk; cases hk
  obtain ⟨c, hc⟩ := I.ok.has x (.inl hk)
  obtain ⟨w', z⟩ := I.cell x c hc
  refine wpAny_storeName_cell I.ok.kind hk hc z (fun h' hc' hs => ?_)
  obtain ⟨oc, hoc, hocd⟩ := id z
  refine h { s with heap := h' } ⟨I.ok, I.os, I.bare, ⟨fun b o e n hb hx => ?_, fun b o e n hb hx => ?_, I.base.free, fun b o e hx => ?_, I.base.tups, I.base.frzs, I.base.tbls⟩, ⟨m, hn.sameBut hs (Ne.symm (cne x c hc)), fun j y v' e1 e2 e3 => ?_⟩, fun y c' e => ?_, I.free, I.freeC, fun p hp => ?_, tracked ⟨oc, hoc, I.freeC x c hc⟩ hs, by simpa using I.len⟩ ⟨c, hs, .inr hc⟩
  ·exact (hs.2 b (Nat.ne_of_lt (Nat.lt_of_lt_of_le (Heap.lt_size e) (I.ok.cab x c hfn hc)))).trans (I.base.keep b o e n hb hx)
  ·obtain ⟨sl, e1⟩ := I.base.slot b o e n hb hx
   exact ⟨sl, (hs.2 b (Nat.ne_of_lt (Nat.lt_of_lt_of_le (Heap.lt_size e) (I.ok.cab x c hfn hc)))).trans e1⟩
  ·obtain ⟨o', e1⟩ := I.base.there b o e hx
   exact ⟨o', (hs.2 b (Nat.ne_of_lt (Nat.lt_of_lt_of_le (Heap.lt_size e) (I.ok.cab x c hfn hc)))).trans e1⟩
  ·by_cases hj : j = i
   ·subst hj
    rw [hi] at e1; cases e1
    rw [List.getElem?_set_self hiσ] at e2
    cases e2
    exact ⟨u, r, .inr ⟨.inl hk, c, hc, hc'⟩⟩
   ·rw [List.getElem?_set_ne (Ne.symm hj)] at e2
    obtain ⟨u', r', q⟩ := hl j y v' e1 e2 e3
    refine ⟨u', r', ?_⟩
    rcases q with q | ⟨k, c', e, z'⟩
    ·exact .inl q
    ·refine .inr ⟨k, c', e, z'.sameBut hs ?_⟩
     rintro rfl
     exact hj (nodup_ix hN e1 (I.ok.inj _ _ _ e hc ▸ hi))
  ·by_cases hcc : c' = c
   ·subst hcc; exact ⟨_, hc'⟩
   ·obtain ⟨w2, z2⟩ := I.cell y c' e
    exact ⟨w2, z2.sameBut hs hcc⟩
  ·obtain ⟨e, n, ne, nf, d⟩ := I.pin p hp
   refine ⟨(hs.2 p.1 ?_).trans e, n, ne, nf, d⟩
   intro q
   rw [q, hoc] at e
   have q' : oc = p.2 := Option.some.inj e
   exact d w' (by rw [← q']; exact hocd)
theorem store_ok {M : Model} {A : Around} {E : Value → Shared → Prop} {i : Nat} {x : Str} {v : V} {u : Value} {Q : Unit → Shared → Prop} (I : Inv X pins σ H s) (hN : X.N.Nodup) (hi : X.N[i]? = some x) (hx : Loc X.env.scope x) (r : RelV v u)
  (h : ∀ s', Inv X pins (σ.set i (some v)) H s' → Q () s') (hf : X.fn x = true ∨ X.env.scope.names.lookup x = some .local := by first | exact .inl rfl | exact .inr rfl | assumption) : wpAny M A (storeName X.env x u) Q E s :=
 store_ok2 I hN hi hx r (fun s' I' _ => h s' I') hf
theorem Inv.call' {s' : Shared} {ch : List Addr} (I : Inv X pins σ H s) (ho : s'.os = s.os) (u : Un (frs X.stack) ch H H' s.heap s'.heap) (hok : HOk X.prog X.w H' s'.heap) (hg : AllBare s'.gens)
  (hch : ∀ b ∈ ch, (b ∈ X.ex ∨ X.s₀.heap.objs.size ≤ b) ∧ b ≠ X.env.locals ∧ (∀ x c, X.env.cells.lookup x = some c → c ≠ b) ∧ ∀ p ∈ X.pn ++ pins, p.1 ≠ b) : Inv X pins σ H' s' := by
 obtain ⟨h', g', d', t', o'⟩ := s'
 have e : o' = s.os := ho
 subst e
 exact I.call (g' := g') (t' := t') (d' := d') u hok hg hch
end
abbrev XK := Value → Option Addr → Hp → Prop
abbrev St := List (Option V)
abbrev VK := V → Hp → Prop
abbrev TE := St → Hp → VK → Prop
abbrev TT := St → Hp → (Bool → Hp → Prop) → Prop
abbrev TA := St → Hp → (List V → Hp → Prop) → Prop
structure Ends where
 nx : St → Hp → Prop
 rt : VK
 bk : St → Hp → Prop := fun _ _ => False
 ct : St → Hp → Prop := fun _ _ => False
abbrev TS := Ends → St → Hp → Prop
def EP (X : Cx) (pins : List (Addr × Obj)) (σ : St) (Q : VK) (u : Value) (s' : Shared) : Prop := ∃ v H', Inv X pins σ H' s' ∧ RelV v u ∧ Q v H'
def TP (X : Cx) (pins : List (Addr × Obj)) (σ : St) (Q : Bool → Hp → Prop) (b : Bool) (s' : Shared) : Prop := ∃ H', Inv X pins σ H' s' ∧ Q b H'
def AP (X : Cx) (pins : List (Addr × Obj)) (σ : St) (Q : List V → Hp → Prop) (us : List Value) (s' : Shared) : Prop := ∃ vs H', Inv X pins σ H' s' ∧ Vals vs us ∧ Q vs H'
def SP (X : Cx) (pins : List (Addr × Obj)) (D : Ends) (f : Flow) (s' : Shared) : Prop :=
 match f with
 | .next => ∃ σ' H', Inv X pins σ' H' s' ∧ D.nx σ' H'
 | .brk => ∃ σ' H', Inv X pins σ' H' s' ∧ D.bk σ' H'
 | .cont => ∃ σ' H', Inv X pins σ' H' s' ∧ D.ct σ' H'
 | .ret u => ∃ v σ' H', Inv X pins σ' H' s' ∧ RelV v u ∧ D.rt v H'
def PE (X : Cx) (e : Expr) (t : TE) : Prop :=
 ∀ (pins : List (Addr × Obj)) (s : Shared) (σ : St) (H : Hp) (Q : VK), Inv X pins σ H s → t σ H Q → wpAny (model X.prog X.w) X.A (eval e X.env) (EP X pins σ Q) X.xe s
def PT (X : Cx) (e : Expr) (t : TT) : Prop :=
 ∀ (pins : List (Addr × Obj)) (s : Shared) (σ : St) (H : Hp) (Q : Bool → Hp → Prop), Inv X pins σ H s → t σ H Q → wpAny (model X.prog X.w) X.A (isTrue e X.env (eval e X.env)) (TP X pins σ Q) X.xe s
def PW (X : Cx) (e : Expr) (t : TT) : Prop :=
 ∀ (whole : Sem Value) (pins : List (Addr × Obj)) (s : Shared) (σ : St) (H : Hp) (Q : Bool → Hp → Prop), Inv X pins σ H s → t σ H Q → wpAny (model X.prog X.w) X.A (isTrue e X.env whole) (TP X pins σ Q) X.xe s
theorem PW.pt {X : Cx} {e : Expr} {t : TT} (h : PW X e t) : PT X e t := h _
def PA (X : Cx) (es : List Expr) (t : TA) : Prop :=
 ∀ (pos : Pos) (pins : List (Addr × Obj)) (s : Shared) (σ : St) (H : Hp) (Q : List V → Hp → Prop), Inv X pins σ H s → t σ H Q → wpAny (model X.prog X.w) X.A (spliced (backTo pos (starEach es X.env))) (AP X pins σ Q) X.xe s
def PS (X : Cx) (st : Stmt) (t : TS) : Prop :=
 ∀ (pins : List (Addr × Obj)) (s : Shared) (σ : St) (H : Hp) (D : Ends), Inv X pins σ H s → t D σ H → wpAny (model X.prog X.w) X.A (exec st X.env) (SP X pins D) X.xe s
def PSs (X : Cx) (st : List Stmt) (t : TS) : Prop :=
 ∀ (pins : List (Addr × Obj)) (s : Shared) (σ : St) (H : Hp) (D : Ends), Inv X pins σ H s → t D σ H → wpAny (model X.prog X.w) X.A (execs st X.env) (SP X pins D) X.xe s
theorem thn {α : Type} {t : Sem α} {Q Q' : α → Shared → Prop} {M : Model} {A : Around} {E : Value → Shared → Prop} {s : Shared} (h : wpAny M A t Q E s) (hQ : ∀ a s, Q a s → Q' a s) : wpAny M A t Q' E s := wpAny_mono h hQ fun _ _ x => x
section
variable {X : Cx}
theorem bin {a b : Expr} {ta tb : TE} (ha : PE X a ta) (hb : PE X b tb) {pins : List (Addr × Obj)} {s : Shared} {σ : St} {H : Hp} {R : V → V → Hp → Prop} (I : Inv X pins σ H s) (h : ta σ H fun x H1 => tb σ H1 fun y H2 => R x y H2)
  {α : Type} {Q : α → Shared → Prop} {f : Value → Value → Sem α}
  (hf : ∀ v u s2 x y H2, Inv X pins σ H2 s2 → RelV x v → RelV y u → R x y H2 → wpAny (model X.prog X.w) X.A (f v u) Q X.xe s2) :
  wpAny (model X.prog X.w) X.A (eval a X.env) (fun v s₁ => wpAny (model X.prog X.w) X.A (eval b X.env) (fun u s₂ => wpAny (model X.prog X.w) X.A (f v u) Q X.xe s₂) X.xe s₁) X.xe s := by
 refine thn (ha pins s σ H _ I h) fun v s1 ⟨x, H1, I1, r1, q1⟩ => ?_
 refine thn (hb pins s1 σ H1 _ I1 q1) fun u s2 ⟨y, H2, I2, r2, q2⟩ => ?_
 exact hf v u s2 x y H2 I2 r1 r2 q2
def tVar (i : Nat) : TE := fun σ H Q => ∃ v, σ[i]? = some (some v) ∧ Q v H
def tC (v : V) : TE := fun _ H Q => Q v H
theorem pe_var {i : Nat} {x : Str} {pos : Pos} (hN : X.N[i]? = some x) (hv : Vis X.env.scope x) (hd : (x == ("__debug__" : Str)) = false := by decide) (hcd : (x == ("__classdict__" : Str)) = false := by decide) : PE X (.Name x pos) (tVar i) := by
 intro pins s σ H Q I h
 obtain ⟨v, e, h⟩ := h
 obtain ⟨m, hn, hl⟩ := I.loc
 obtain ⟨u, r, l⟩ := hl i x v hN e hv
 have fin : EP X pins σ Q u s := ⟨v, H, I, r, h⟩
 rcases l with ⟨hk, hm⟩ | ⟨hk, c, hc, hcell⟩
 ·exact wpAny_Name (wpAny_loadName_local I.ok.kind hk hn hm fin) hd
 ·rcases hk with hk | hk
  ·exact wpAny_Name (wpAny_loadName_cell I.ok.kind hk hc hcell fin) hd
  ·exact wpAny_Name (wpAny_loadName_free I.ok.kind hk hc hcell fin hcd) hd
theorem pe_int {i j pos} : PE X (.Constant (.int i) j pos) (tC (.int i)) := fun _ _ _ H _ I h => wpAny_Constant_int ⟨.int i, H, I.tok _, ⟨_, rfl⟩, h⟩
theorem pe_bl {b j pos} : PE X (.Constant (.bool b) j pos) (tC (.bl b)) := fun _ _ _ H _ I h => Constant_bool ⟨.bl b, H, I, rfl, h⟩
theorem pe_non {j pos} : PE X (.Constant .none j pos) (tC .non) := fun _ _ _ H _ I h => Constant_none ⟨.non, H, I, rfl, h⟩
theorem pe_str {x j pos} : PE X (.Constant (.str x) j pos) (tC (.str x)) := fun _ _ _ H _ I h => Calls.Constant_str ⟨.str x, H, I.tok _, ⟨_, rfl⟩, h⟩
def Gl (X : Cx) (x : Str) : Prop := X.env.kindOf x = some .globalImplicit
theorem ld_glob {E : Value → Shared → Prop} {pins : List (Addr × Obj)} {s : Shared} {σ : St} {H : Hp} {x : Str} {u : Value} {pos : Pos} {Q : Value → Shared → Prop} (I : Inv X pins σ H s) (hg : Gl X x) (hm : X.mg x = some u) (h : Q u s)
  (hd : (x == ("__debug__" : Str)) = false := by decide) : wpAny (model X.prog X.w) X.A (eval (.Name x pos) X.env) Q E s :=
 Calls.Name_function_global I.ok.kind hg (Calls.loadGlobal_global (by rw [I.ok.glob]; exact I.mod.glob.keeps I.bk) hm h) hd
theorem ld_blt {E : Value → Shared → Prop} {pins : List (Addr × Obj)} {s : Shared} {σ : St} {H : Hp} {x : Str} {u : Value} {pos : Pos} {Q : Value → Shared → Prop} (I : Inv X pins σ H s) (hg : Gl X x) (hm : X.mg x = none) (hv : bootBuiltins x = some u) (h : Q u s)
  (hn : x ≠ "__name__" := by decide) (hd : (x == ("__debug__" : Str)) = false := by decide) : wpAny (model X.prog X.w) X.A (eval (.Name x pos) X.env) Q E s := by
 obtain ⟨mb, h1, h2⟩ := I.mod.blt
 exact Calls.Name_function_global I.ok.kind hg (Calls.loadGlobal_builtin (by rw [I.ok.glob]; exact I.mod.glob.keeps I.bk) hm (by rw [I.ok.blt]; exact h1.keeps I.bk) ((h2 x hn).trans hv) h) hd
theorem pe_glob {x : Str} {v : V} {u : Value} {pos : Pos} (hg : Gl X x) (hm : X.mg x = some u) (r : RelV v u) (hd : (x == ("__debug__" : Str)) = false := by decide) : PE X (.Name x pos) (tC v) :=
 fun _ _ _ H _ I h => ld_glob I hg hm ⟨v, H, I, r, h⟩ hd
theorem pe_bltn {x : Str} {v : V} {u : Value} {pos : Pos} (hg : Gl X x) (hm : X.mg x = none) (hv : bootBuiltins x = some u) (r : RelV v u) (hn : x ≠ "__name__" := by decide) (hd : (x == ("__debug__" : Str)) = false := by decide) : PE X (.Name x pos) (tC v) :=
 fun _ _ _ H _ I h => ld_blt I hg hm hv ⟨v, H, I, r, h⟩ hn hd
variable {a b : Expr} {ta tb : TE} {pos : Pos}
def PC (X : Cx) (op : CmpOp) (a b : Expr) (t : TE) : Prop :=
 ∀ (pins : List (Addr × Obj)) (s : Shared) (σ : St) (H : Hp) (Q : VK), Inv X pins σ H s → t σ H Q →
  wpAny (model X.prog X.w) X.A (eval a X.env) (fun v s₁ => wpAny (model X.prog X.w) X.A (eval b X.env) (fun u s₂ => wpAny (model X.prog X.w) X.A (compareOp op v u) (EP X pins σ Q) X.xe s₂) X.xe s₁) X.xe s
theorem nobehind (b : Expr) {op : CmpOp} (h : op ≠ .In) (h2 : op ≠ .NotIn) : behindInMarks op b = false := by
 have e1 : (op == CmpOp.In) = false := by cases op <;> first | rfl | exact absurd rfl h
 have e2 : (op == CmpOp.NotIn) = false := by cases op <;> first | rfl | exact absurd rfl h2
 cases b <;> simp [behindInMarks, e1, e2]
def tB (t : TE) : TT := fun σ H Q => t σ H fun x H1 => ∃ c, x = .bl c ∧ Q c H1
theorem pt_cmp {op : CmpOp} {t : TE} (h : PC X op a b t) (h1 : behindInMarks op b = false := by first | exact nobehind _ (by decide) (by decide) | rfl) : PT X (.Compare a [op] [b] pos) (tB t) := by
 intro pins s σ H Q I hw
 refine wpAny_isTrue_Compare1 (thn (h pins s σ H _ I hw) fun v s1 h1 => thn h1 fun u s2 h2 => thn h2 fun c s3 ⟨x, H1, I1, r1, q1⟩ => ?_) h1
 obtain ⟨d, rfl, q⟩ := q1
 cases r1
 exact wpAny_truthy_bool ⟨H1, I1, q⟩
variable {tA tB' : TT} {rest : List Expr}
def tAnd (t u : TT) : TT := fun σ H Q => t σ H fun c H1 => if c = true then u σ H1 Q else Q false H1
def tOr (t u : TT) : TT := fun σ H Q => t σ H fun c H1 => if c = true then Q true H1 else u σ H1 Q
def tNot (t : TT) : TT := fun σ H Q => t σ H fun c H1 => Q (!c) H1
theorem pw_and1 (ha : PT X a tA) : PW X (.BoolOp .And [a] pos) tA := by
 intro wh pins s σ H Q I h
 refine isTrue_and (thn (ha pins s σ H Q I h) fun c s1 e => ?_)
 cases c with
 | true => exact isTrue_and_nil e
 | false => exact e
theorem pw_or1 (ha : PT X a tA) : PW X (.BoolOp .Or [a] pos) tA := by
 intro wh pins s σ H Q I h
 refine isTrue_or (thn (ha pins s σ H Q I h) fun c s1 e => ?_)
 cases c with
 | false => exact isTrue_or_nil e
 | true => exact e
theorem pw_and (ha : PT X a tA) (hb : PW X (.BoolOp .And (b :: rest) pos) tB') : PW X (.BoolOp .And (a :: b :: rest) pos) (tAnd tA tB') := by
 intro wh pins s σ H Q I h
 refine isTrue_and (thn (ha pins s σ H _ I h) fun c s1 ⟨H1, I1, q1⟩ => ?_)
 cases c with
 | true => exact hb wh pins s1 σ H1 Q I1 q1
 | false => exact ⟨H1, I1, q1⟩
theorem pw_or (ha : PT X a tA) (hb : PW X (.BoolOp .Or (b :: rest) pos) tB') : PW X (.BoolOp .Or (a :: b :: rest) pos) (tOr tA tB') := by
 intro wh pins s σ H Q I h
 refine isTrue_or (thn (ha pins s σ H _ I h) fun c s1 ⟨H1, I1, q1⟩ => ?_)
 cases c with
 | true => exact ⟨H1, I1, q1⟩
 | false => exact hb wh pins s1 σ H1 Q I1 q1
theorem pt_not (ha : PT X a tA) : PT X (.UnaryOp .Not a pos) (tNot tA) := by
 intro pins s σ H Q I h
 exact isTrue_not (ha pins s σ H (fun c H1 => Q (!c) H1) I h)
def tAndV (ta tb : TE) : TE := fun σ H Q => ta σ H fun x H1 => ∃ c, x = .bl c ∧ if c = true then tb σ H1 Q else Q (.bl false) H1
theorem pe_one {op} {t : TE} (h : PE X a t) : PE X (.BoolOp op [a] pos) t := fun pins s σ H Q I hw => BoolOp_one (h pins s σ H Q I hw)
theorem pe_and (ha : PE X a ta) (hb : PE X (.BoolOp .And (b :: rest) pos) tb) : PE X (.BoolOp .And (a :: b :: rest) pos) (tAndV ta tb) := by
 intro pins s σ H Q I h
 refine BoolOp_and (thn (ha pins s σ H _ I h) fun v s1 ⟨x, H1, I1, r1, q1⟩ => ?_)
 obtain ⟨c, rfl, q1⟩ := q1
 cases r1
 refine wpAny_truthy_bool ?_
 cases c with
 | true => exact hb pins s1 σ H1 Q I1 q1
 | false => exact ⟨.bl false, H1, I1, rfl, q1⟩
def tIf (t : TT) (ta tb : TE) : TE := fun σ H Q => t σ H fun c H1 => if c = true then ta σ H1 Q else tb σ H1 Q
theorem pe_ifExp {c : Expr} (hc : PT X c tA) (ha : PE X a ta) (hb : PE X b tb) : PE X (.IfExp c a b pos) (tIf tA ta tb) := by
 intro pins s σ H Q I h
 refine wpAny_IfExp (thn (hc pins s σ H _ I h) fun d s1 ⟨H1, I1, q1⟩ => ?_)
 cases d with
 | true => exact ha pins s1 σ H1 Q I1 q1
 | false => exact hb pins s1 σ H1 Q I1 q1
end
def SqL (K : PySem.W.Frag) (H : Hp) (a : Addr) (xs : List V) : Prop :=
 Rd H a (.lst xs) ∨
  ∃ (o : Obj) (its : Array Value) (n : Nat), K.lookup a = some o ∧ o.cls = .type "list" ∧ o.dict = none ∧ o.data = .seq its n ∧ its.size ≤ sizeLine ∧ Vals xs its.toList
def SqT (K : PySem.W.Frag) (H : Hp) (a : Addr) (xs : List V) : Prop :=
 Rd H a (.tup xs) ∨
  ∃ (o : Obj) (its : Array Value) (n : Nat), K.lookup a = some o ∧ o.cls = .type "tuple" ∧ o.data = .seq its n ∧ its.size ≤ sizeLine ∧ Vals xs its.toList
def absV : Value → Option V
 | .none => some .non
 | .bool b => some (.bl b)
 | .int i _ => some (.int i)
 | .str x _ => some (.str x)
 | .bytes b _ => some (.byt b)
 | .float b _ => some (.flt b)
 | .ref a => some (.ref a)
 | .type n => some (.ty n)
 | _ => none
theorem RelV.abs {x : V} {u : Value} (r : RelV x u) : absV u = some x := by
 cases x with
 | non => cases r; rfl
 | bl _ => cases r; rfl
 | int _ => obtain ⟨t, rfl⟩ := r; rfl
 | str _ => obtain ⟨t, rfl⟩ := r; rfl
 | byt _ => obtain ⟨t, rfl⟩ := r; rfl
 | flt _ => obtain ⟨t, rfl⟩ := r; rfl
 | ref _ => cases r; rfl
 | ty _ => cases r; rfl
theorem RelV.inj {x y : V} {u : Value} (r : RelV x u) (q : RelV y u) : x = y := Option.some.inj (r.abs.symm.trans q.abs)
theorem Vals.inj : ∀ {xs ys : List V} {us : List Value}, Vals xs us → Vals ys us → xs = ys
 | _, _, _, .nil, .nil => rfl
 | _, _, _, .cons r t, .cons r' t' => by rw [r.inj r', Vals.inj t t']
section
variable {X : Cx} {pins : List (Addr × Obj)} {σ : St} {H : Hp} {s : Shared} {a : Addr} {xs ys : List V}
theorem SqL.of {K : PySem.W.Frag} (h : H a = some (.lst xs)) : SqL K H a xs := .inl (.inl h)
theorem SqT.of {K : PySem.W.Frag} (h : H a = some (.tup xs)) : SqT K H a xs := .inl (.inl h)
theorem Inv.list (I : Inv X pins σ H s) (h : SqL X.K H a xs) : ∃ its : List Value, Vals xs its ∧ PlainL s.heap a its.toArray ∧ xs.length ≤ sizeLine := by
 rcases h with h | ⟨o, its, n, hk, hc, hd, hs, hz, r⟩
 ·obtain ⟨z, its, n, r, e⟩ := h.ok I.hok
  exact ⟨its, r, ⟨_, n, e, rfl, rfl, rfl⟩, z⟩
 ·refine ⟨its.toList, r, ⟨o, n, I.kIn a o hk, hc, hd, by simpa using hs⟩, ?_⟩
  have e := r.length
  simp only [Array.length_toList] at e
  omega
theorem Inv.tuple (I : Inv X pins σ H s) (h : SqT X.K H a xs) : ∃ its : List Value, Vals xs its ∧ IsTup s.heap a its.toArray ∧ xs.length ≤ sizeLine := by
 rcases h with h | ⟨o, its, n, hk, hc, hs, hz, r⟩
 ·obtain ⟨z, its, r, p⟩ := h.ok I.hok
  exact ⟨its, r, p, z⟩
 ·refine ⟨its.toList, r, ⟨o, I.kIn a o hk, hc, n, by simpa using hs⟩, ?_⟩
  have e := r.length
  simp only [Array.length_toList] at e
  omega
theorem Inv.list_inj (I : Inv X pins σ H s) (h : SqL X.K H a xs) (h' : SqL X.K H a ys) : xs = ys := by
 obtain ⟨its, r, ⟨o, n, e, _, _, d⟩, _⟩ := I.list h
 obtain ⟨its', r', ⟨o', n', e', _, _, d'⟩, _⟩ := I.list h'
 rw [e] at e'; cases e'
 rw [d] at d'
 injection d' with d1 _
 have : its = its' := by simpa using congrArg Array.toList d1
 subst this
 exact r.inj r'
theorem Inv.tuple_inj (I : Inv X pins σ H s) (h : SqT X.K H a xs) (h' : SqT X.K H a ys) : xs = ys := by
 obtain ⟨its, r, ⟨o, e, _, n, d⟩, _⟩ := I.tuple h
 obtain ⟨its', r', ⟨o', e', _, n', d'⟩, _⟩ := I.tuple h'
 rw [e] at e'; cases e'
 rw [d] at d'
 injection d' with d1 _
 have : its = its' := by simpa using congrArg Array.toList d1
 subst this
 exact r.inj r'
end
abbrev Cx.wish (X : Cx) (E : Value → Shared → Prop) : Cx := { X with xe := E }
abbrev Cx.nox (X : Cx) : Cx := X.wish fun _ _ => False
theorem Cx.Ok.wish {X : Cx} (ok : X.Ok) (E : Value → Shared → Prop) : (X.wish E).Ok :=
 ⟨ok.mod, ok.kind, ok.glob, ok.blt, ok.above, ok.inj, ok.has, ok.cab, ok.hd, ok.frames, ok.stk, ok.exf, ok.bs, ok.bsz, ok.noex, ok.exfs, ok.funs, ok.frf⟩
theorem Cx.Ok.unwish {X : Cx} {E : Value → Shared → Prop} (ok : (X.wish E).Ok) : X.Ok :=
 ⟨ok.mod, ok.kind, ok.glob, ok.blt, ok.above, ok.inj, ok.has, ok.cab, ok.hd, ok.frames, ok.stk, ok.exf, ok.bs, ok.bsz, ok.noex, ok.exfs, ok.funs, ok.frf⟩
section
variable {X : Cx} {pins : List (Addr × Obj)} {σ : St} {H : Hp} {s : Shared} {E : Value → Shared → Prop}
theorem Inv.wish (I : Inv X pins σ H s) (E : Value → Shared → Prop) : Inv (X.wish E) pins σ H s := ⟨I.ok.wish E, I.os, I.bare, I.base, I.loc, I.cell, I.free, I.freeC, I.pin, I.hok, I.len⟩
theorem Inv.unwish (I : Inv (X.wish E) pins σ H s) : Inv X pins σ H s := ⟨I.ok.unwish, I.os, I.bare, I.base, I.loc, I.cell, I.free, I.freeC, I.pin, I.hok, I.len⟩
theorem SP.unwish {D : Ends} {f : Flow} {s' : Shared} (h : SP (X.wish E) pins D f s') : SP X pins D f s' := by
 cases f with
 | next => obtain ⟨σ', H', I, q⟩ := h; exact ⟨σ', H', I.unwish, q⟩
 | brk => obtain ⟨σ', H', I, q⟩ := h; exact ⟨σ', H', I.unwish, q⟩
 | cont => obtain ⟨σ', H', I, q⟩ := h; exact ⟨σ', H', I.unwish, q⟩
 | ret u => obtain ⟨v, σ', H', I, r, q⟩ := h; exact ⟨v, σ', H', I.unwish, r, q⟩
theorem PSs.nox {st : List Stmt} {t : TS} (h : PSs X.nox st t) : PSs X st t := fun pins s σ H D I hw =>
 wpAny_mono (h pins s σ H D (I.wish _) hw) (fun _ _ q => q.unwish) fun _ _ z => False.elim z
end
section
variable {X : Cx} {st : Stmt} {rest : List Stmt} {t u : TS} {e : Expr} {te : TE} {pos : Pos}
def tNext : TS := fun D σ H => D.nx σ H
def tSeq (t u : TS) : TS := fun D σ H => t { D with nx := u D } σ H
theorem pss_nil : PSs X [] tNext := fun _ _ σ H _ I h => wpAny_execs_nil ⟨σ, H, I, h⟩
theorem pss_cons (h1 : PS X st t) (h2 : PSs X rest u) : PSs X (st :: rest) (tSeq t u) := by
 intro pins s σ H D I h
 refine wpAny_execs_cons (thn (h1 pins s σ H { D with nx := u D } I h) fun f s1 q => ?_)
 cases f with
 | next =>
  obtain ⟨σ', H', I', q⟩ := q
  exact h2 pins s1 σ' H' D I' q
 | ret v => exact q
 | brk => exact q
 | cont => exact q
theorem pss_one (h1 : PS X st t) : PSs X [st] t := by
 intro pins s σ H D I h
 refine wpAny_execs_cons (thn (h1 pins s σ H D I h) fun f s1 q => ?_)
 cases f with
 | next => exact wpAny_execs_nil q
 | ret v => exact q
 | brk => exact q
 | cont => exact q
theorem Inv.quiet {pins : List (Addr × Obj)} {σ : St} {H : Hp} {s : Shared} (I : Inv X pins σ H s) : interactive X.env = false := by simp [interactive, I.ok.kind]
def tDrop (te : TE) : TS := fun D σ H => te σ H fun _ H1 => D.nx σ H1
theorem ps_expr (he : PE X e te) (hs : swapsWith e none pos.line X.env = pure false := by rfl) : PS X (.Expr e pos) (tDrop te) := by
 intro pins s σ H D I h
 exact wpAny_Expr_any (thn (he pins s σ H _ I h) fun v s1 ⟨x, H1, I1, r1, q1⟩ => ⟨σ, H1, I1, q1⟩) I.quiet hs
def tRet (te : TE) : TS := fun D σ H => te σ H D.rt
theorem ps_ret (he : PE X e te) : PS X (.Return (some e) pos) (tRet te) := by
 intro pins s σ H D I h
 exact wpAny_Return_some (thn (he pins s σ H _ I h) fun v s1 ⟨x, H1, I1, r1, q1⟩ => ⟨x, σ, H1, I1, r1, q1⟩)
def tIfS (c : TT) (t u : TS) : TS := fun D σ H => c σ H fun b H1 => if b = true then t D σ H1 else u D σ H1
theorem ps_if {c : Expr} {a b : List Stmt} {tc : TT} (hc : PT X c tc) (ha : PSs X a t) (hb : PSs X b u) : PS X (.If c a b pos) (tIfS tc t u) := by
 intro pins s σ H D I h
 refine wpAny_If (thn (hc pins s σ H _ I h) fun d s1 ⟨H1, I1, q1⟩ => ?_)
 cases d with
 | true => exact ha pins s1 σ H1 D I1 q1
 | false => exact hb pins s1 σ H1 D I1 q1
end
abbrev TG := V → St → Hp → (St → Hp → Prop) → Prop
abbrev TGs := List V → St → Hp → (St → Hp → Prop) → Prop
def PG (X : Cx) (target : Expr) (t : TG) : Prop :=
 ∀ (pins : List (Addr × Obj)) (s : Shared) (σ : St) (H : Hp) (v : V) (u : Value) (Q : St → Hp → Prop), Inv X pins σ H s → RelV v u → t v σ H Q →
  wpAny (model X.prog X.w) X.A (assign target X.env u) (fun _ s' => ∃ σ' H', Inv X pins σ' H' s' ∧ Q σ' H') X.xe s
def PGs (X : Cx) (ts : List Expr) (t : TGs) : Prop :=
 ∀ (pins : List (Addr × Obj)) (s : Shared) (σ : St) (H : Hp) (vs : List V) (us : List Value) (Q : St → Hp → Prop), Inv X pins σ H s → Vals vs us → t vs σ H Q →
  wpAny (model X.prog X.w) X.A (assignInOrder ((assignEach ts X.env).map (·.2)) us) (fun _ s' => ∃ σ' H', Inv X pins σ' H' s' ∧ Q σ' H') X.xe s
abbrev TSet := V → V → V → Hp → (Hp → Prop) → Prop
def PSet (X : Cx) (t : TSet) : Prop :=
 ∀ (pins : List (Addr × Obj)) (s : Shared) (σ : St) (H : Hp) (o i v : V) (ov iv u : Value) (Q : Hp → Prop), Inv X pins σ H s → RelV o ov → RelV i iv → RelV v u → t o i v H Q →
  wpAny (model X.prog X.w) X.A (setItem ov iv u) (fun _ s' => ∃ H', Inv X pins σ H' s' ∧ Q H') X.xe s
abbrev TIp := V → V → Hp → VK → Prop
def PIp (X : Cx) (op : Operator) (t : TIp) : Prop :=
 ∀ (pins : List (Addr × Obj)) (s : Shared) (σ : St) (H : Hp) (x y : V) (v u : Value) (Q : VK), Inv X pins σ H s → RelV x v → RelV y u → t x y H Q →
  wpAny (model X.prog X.w) X.A (inplaceOp op v u) (EP X pins σ Q) X.xe s
section
variable {X : Cx} {pos : Pos}
def gName (i : Nat) : TG := fun v σ H Q => Q (σ.set i (some v)) H
theorem pg_name {i : Nat} {x : Str} (hN : X.N.Nodup) (hi : X.N[i]? = some x) (hx : Loc X.env.scope x) (hf : X.fn x = true ∨ X.env.scope.names.lookup x = some .local := by first | exact .inl rfl | exact .inr rfl | assumption) : PG X (.Name x pos) (gName i) := by
 intro pins s σ H v u Q I r h
 exact wpAny_assign_Name (store_ok I hN hi hx r (fun s' I' => ⟨_, H, I', h⟩) hf)
def gNil : TGs := fun vs σ H Q => vs = [] ∧ Q σ H
def gCons (t : TG) (u : TGs) : TGs := fun vs σ H Q => ∃ v r, vs = v :: r ∧ t v σ H fun σ' H' => u r σ' H' Q
theorem pgs_nil : PGs X [] gNil := by
 intro pins s σ H vs us Q I r h
 obtain ⟨e, h⟩ := h
 subst e
 cases r
 exact assignInOrder_nil ⟨σ, H, I, h⟩
theorem pgs_cons {e : Expr} {es : List Expr} {t : TG} {u : TGs} (h1 : PG X e t) (h2 : PGs X es u)
  (hs : (assignEach (e :: es) X.env).map (·.2) = assign e X.env :: (assignEach es X.env).map (·.2) := by rfl) : PGs X (e :: es) (gCons t u) := by
 intro pins s σ H vs us Q I r h
 obtain ⟨v, vr, e1, h⟩ := h
 subst e1
 cases r with
 | cons r rr =>
  rw [hs]
  refine assignInOrder_cons (thn (h1 pins s σ H _ _ _ I r h) fun _ s1 ⟨σ1, H1, I1, q1⟩ => ?_)
  exact h2 pins s1 σ1 H1 _ _ Q I1 rr q1
def gTup (K : PySem.W.Frag) (n : Nat) (t : TGs) : TG := fun v σ H Q => ∃ a xs, v = .ref a ∧ SqT K H a xs ∧ xs.length = n ∧ t xs σ H Q
theorem pg_tup {es : List Expr} {k : Nat} {t : TGs} {n : Nat} (hc : X.calm = true) (h : PGs X es t)
  (hn : (assignEach es X.env).length = n := by rfl) (hst : (assignEach es X.env).findIdx? (·.1) = none := by rfl) : PG X (.Tuple es k pos) (gTup X.K n t) := by
 intro pins s σ H v u Q I r hw
 obtain ⟨a, xs, e1, hq, hl, hw⟩ := hw
 subst e1
 cases r
 obtain ⟨its, rv, ht, hz⟩ := I.tuple hq
 refine assign_Tuple_tuple (I.ok.hd hc) ht (by simp [hn, ← hl, rv.length]) hst fun h' hx => ?_
 have I1 : Inv X pins σ H { s with heap := h' } := I.kept (t' := s.toks) fun b o e => hx b o (Nat.ne_of_lt (Heap.lt_size e)) e
 exact h pins _ σ H xs _ Q I1 (by simpa using rv) hw
def gSub (to ti : TE) (t : TSet) : TG := fun v σ H Q => to σ H fun o H1 => ti σ H1 fun i H2 => t o i v H2 fun H3 => Q σ H3
theorem pg_sub {o i : Expr} {to ti : TE} {t : TSet} (ho : PE X o to) (hi : PE X i ti) (hs : PSet X t)
  (ha : ∀ v, assign (.Subscript o i pos) X.env v = (do
   let ov ← holding [v] (eval o X.env)
   let iv ← holding [v, ov] (eval i X.env)
   standAt pos
   holding [v, ov, iv] (setItem ov iv v)
   release [v, ov, iv] []) := by intro _; rfl) : PG X (.Subscript o i pos) (gSub to ti t) := by
 intro pins s σ H v u Q I r h
 rw [ha]
 refine wpAny_bind (wpAny_holding (thn (ho pins s σ H _ I h) fun ov s1 ⟨x, H1, I1, r1, q1⟩ => ?_))
 refine wpAny_bind (wpAny_holding (thn (hi pins s1 σ H1 _ I1 q1) fun iv s2 ⟨y, H2, I2, r2, q2⟩ => ?_))
 refine wpAny_bind (wpAny_standAt (wpAny_bind (wpAny_holding (thn (hs pins s2 σ H2 x y v ov iv u _ I2 r1 r2 r q2) fun _ s3 ⟨H3, I3, q3⟩ => ?_))))
 exact wpAny_release ⟨σ, H3, I3, q3⟩
def tAsg (te : TE) (g : TG) : TS := fun D σ H => te σ H fun x H1 => g x σ H1 D.nx
theorem ps_asg {tg e : Expr} {te : TE} {g : TG} (he : PE X e te) (hg : PG X tg g) (hs : swapsWithSole [tg] e pos.line X.env = pure false := by rfl) (hw : swappedStores [tg] e X.env = pure none := by rfl)
  (h1 : (assignEach [tg] X.env).map (·.2) = [assign tg X.env] := by rfl) : PS X (.Assign [tg] e pos) (tAsg te g) := by
 intro pins s σ H D I h
 refine wpAny_Assign_stores (thn (he pins s σ H _ I h) fun v s1 ⟨x, H1, I1, r1, q1⟩ => ?_) hs hw
 rw [h1]
 exact thn (hg pins s1 σ H1 x v _ I1 r1 q1) fun _ s2 q => q
theorem ps_set {i : Nat} {x : Str} {e : Expr} {te : TE} {pos' : Pos} (hN : X.N.Nodup) (hi : X.N[i]? = some x) (hx : Loc X.env.scope x) (he : PE X e te) (hs : swapsWith e (some (.Name x pos')) pos.line X.env = pure false := by rfl) (hf : X.fn x = true ∨ X.env.scope.names.lookup x = some .local := by first | exact .inl rfl | exact .inr rfl | assumption) :
  PS X (.Assign [.Name x pos'] e pos) (tAsg te (gName i)) := by
 intro pins s σ H D I h
 refine wpAny_Assign_Name (thn (he pins s σ H _ I h) fun v s1 ⟨y, H1, I1, r1, q1⟩ => ?_) hs
 exact store_ok I1 hN hi hx r1 (fun s2 I2 => ⟨_, H1, I2, q1⟩) hf
end
section
variable {X : Cx} {pos : Pos}
end
structure It where
 go : Nat → Hp → Prop
 yld : Nat → Hp → V → Hp → Prop
 stop : Nat → Hp → Prop
def FpOk (X : Cx) (pins : List (Addr × Obj)) (H : Hp) (b : Addr) : Prop :=
 H b = none ∧ b ≠ X.env.locals ∧ b ∉ X.fs ∧ (b ∈ X.ex ∨ X.s₀.heap.objs.size ≤ b) ∧ (∀ x c, X.env.cells.lookup x = some c → c ≠ b) ∧ ∀ p ∈ X.pn ++ pins, p.1 ≠ b
theorem Inv.fpOk {X : Cx} {pins : List (Addr × Obj)} {σ : St} {H H' : Hp} {s : Shared} {b : Addr} (I : Inv X pins σ H s) (hb : s.heap.objs.size ≤ b) (hn : H' b = none) : FpOk X pins H' b := by
 refine ⟨hn, Nat.ne_of_gt (Nat.lt_of_lt_of_le I.lt hb), I.nofs hb, .inr (Nat.le_trans I.sz hb), fun x c e z => ?_, fun p hp z => ?_⟩
 ·obtain ⟨v, q⟩ := I.cell x c e
  exact absurd (Nat.lt_of_lt_of_le q.lt (by rw [z]; exact hb)) (Nat.lt_irrefl _)
 ·exact absurd (Nat.lt_of_lt_of_le (Heap.lt_size (I.pin p hp).1) (by rw [z]; exact hb)) (Nat.lt_irrefl _)
structure Turn (P : Program) (w : World) (K : PySem.W.Frag) (tg : Expr) (J : It) (fp : List Addr) (it : Addr) (tn : Nat → Heap → Prop) : Prop where
 mem : it ∈ fp
 obj : ∀ i h, tn i h → ∀ b ∈ fp, ∃ o, h.get? b = some o ∧ ∀ v, o.data ≠ .cell v
 keep : ∀ i h h', tn i h → (∀ b ∈ fp, ∀ o, h.get? b = some o → h'.get? b = some o) → tn i h'
 item : ∀ (X : Cx), X.prog = P → X.w = w → X.K = K → X.calm = true → ∀ (i : Nat) (pins : List (Addr × Obj)) (s : Shared) (σ : St) (H : Hp) (E : Value → Shared → Prop), Inv X pins σ H s → (∀ b ∈ fp, FpOk X pins H b) → tn i s.heap → J.go i H →
  wpAny (model P w) X.A (pyNext (.ref it)) (fun r s1 => ∃ u, r = some u ∧
   wpAny (model P w) X.A (letOwnedTupleGo tg (.ref it) u) (fun _ s2 => ∃ x H', Inv X pins σ H' s2 ∧ RelV x u ∧ J.yld i H x H' ∧ tn (i + 1) s2.heap ∧ ∀ b ∈ fp, H' b = none) E s1) E s
 done : ∀ (X : Cx), X.prog = P → X.w = w → X.K = K → X.calm = true → ∀ (i : Nat) (pins : List (Addr × Obj)) (s : Shared) (σ : St) (H : Hp) (E : Value → Shared → Prop), Inv X pins σ H s → (∀ b ∈ fp, FpOk X pins H b) → tn i s.heap → J.stop i H →
  wpAny (model P w) X.A (pyNext (.ref it)) (fun r s1 => r = none ∧ Inv X pins σ H s1) E s
 self : ∀ (A : Around) (i : Nat) (s : Shared) (Q : Value → Shared → Prop) (E : Value → Shared → Prop), tn i s.heap → Q (.ref it) s → wpAny (model P w) A (pyIter (.ref it)) Q E s
abbrev TI := St → Hp → (It → Hp → Prop) → Prop
def PIE (X : Cx) (pins : List (Addr × Obj)) (σ : St) (tg : Expr) (R : It → Hp → Prop) (itv : Value) (s2 : Shared) : Prop :=
 ∃ (it : Addr) (fp : List Addr) (tn : Nat → Heap → Prop) (J : It) (H' : Hp), itv = .ref it ∧ Inv X pins σ H' s2 ∧ Turn X.prog X.w X.K tg J fp it tn ∧ tn 0 s2.heap ∧ (∀ b ∈ fp, FpOk X pins H' b) ∧ R J H'
def PI (X : Cx) (tg iter : Expr) (wi : TI) : Prop :=
 ∀ (pins : List (Addr × Obj)) (s : Shared) (σ : St) (H : Hp) (R : It → Hp → Prop), Inv X pins σ H s → wi σ H R →
  wpAny (model X.prog X.w) X.A (eval iter X.env) (fun v s1 => wpAny (model X.prog X.w) X.A (pyIter v) (PIE X pins σ tg R) X.xe s1) X.xe s
theorem go_of {M : Model} {A : Around} {E : Value → Shared → Prop} {s : Shared} {tg : Expr} {it : Addr} {u : Value} {o : Obj} {n : String} {vs : Array Value} {Q : Unit → Shared → Prop} (ho : s.heap.get? it = some o) (hc : o.cls = .type n) (hd : o.data = .fields vs)
    (hn : ["enumerate", "zip", "dict_itemiterator", "dict_reverseitemiterator", "odict_iterator", "itertools.zip_longest", "itertools.pairwise"].contains n = false) (hQ : Q () s) : wpAny M A (letOwnedTupleGo tg (.ref it) u) Q E s := by
  unfold letOwnedTupleGo
  cases tg <;> first
    | exact wpAny_pure hQ
    | (cases u <;> first
        | exact wpAny_pure hQ
        | (refine wpAny_bind (wpAny_load ho ?_)
           rw [hc, hd]
           show wpAny M A (if (["enumerate", "zip", "dict_itemiterator", "dict_reverseitemiterator", "odict_iterator", "itertools.zip_longest", "itertools.pairwise"].contains n && vs[0]? == some (rawInt _)) = true then _ else _) Q E s
           rw [if_neg (by intro h; rw [hn, Bool.false_and] at h; cases h)]
           exact wpAny_pure hQ))
def Itl (K : PySem.W.Frag) (a : Addr) : It :=
 ⟨fun i H => ∃ xs x, SqL K H a xs ∧ xs[i]? = some x, fun i H x H' => H' = H ∧ ∀ xs, SqL K H a xs → xs[i]? = some x, fun i H => ∃ xs, SqL K H a xs ∧ xs.length ≤ i⟩
def Itt (K : PySem.W.Frag) (a : Addr) : It :=
 ⟨fun i H => ∃ xs x, SqT K H a xs ∧ xs[i]? = some x, fun i H x H' => H' = H ∧ ∀ xs, SqT K H a xs → xs[i]? = some x, fun i H => ∃ xs, SqT K H a xs ∧ xs.length ≤ i⟩
def Itr (lo : Int) (n : Nat) : It := ⟨fun i _ => i < n, fun i H x H' => H' = H ∧ x = .int (lo + i), fun i _ => n ≤ i⟩
theorem turn_list {P : Program} {w : World} {K : PySem.W.Frag} {tg : Expr} (a it : Addr) : Turn P w K tg (Itl K a) [it] it (fun i h => h.IsListIter it a i) where
 mem := by simp
 obj := fun i h st b hb => by
  have e : b = it := by simpa using hb
  subst e
  obtain ⟨o, e, c, d⟩ := st
  exact ⟨o, e, fun v z => by rw [d] at z; cases z⟩
 keep := fun i h h' st k => st.at fun o e => k it (by simp) o e
 item := by
  intro X hP hw hK hc i pins s σ H E I hf st hg
  subst hP hw hK
  obtain ⟨xs, x, hq, hx⟩ := hg
  obtain ⟨its, rv, p, hz⟩ := I.list hq
  obtain ⟨u, hu, ru⟩ := rv.get hx
  obtain ⟨f0, f1, f2, f3, f4, f5⟩ := hf it (by simp)
  refine wpAny_pyNext_list_item st p.isList (x := u) (by simpa using hu) fun h' st' sb => ?_
  have I1 : Inv X pins σ H { s with heap := h' } := I.turned (t' := s.toks) (fun b o hb e => (sb.2 b hb).trans e) f0 f1 f3 f4 f5
  obtain ⟨o, e, c, d⟩ := id st'
  exact ⟨u, rfl, go_of (s := { s with heap := h' }) e c d (by decide) ⟨x, H, I1, ru, ⟨rfl, fun ys hy => by rw [I.list_inj hy hq]; exact hx⟩, st', fun b hb => (hf b hb).1⟩⟩
 done := by
  intro X hP hw hK hc i pins s σ H E I hf st hg
  subst hP hw hK
  obtain ⟨xs, hq, hx⟩ := hg
  obtain ⟨its, rv, p, hz⟩ := I.list hq
  obtain ⟨f0, f1, f2, f3, f4, f5⟩ := hf it (by simp)
  have hl := rv.length
  exact wpAny_pyNext_list_end (I.ok.hd hc) st p.isList (by simp; omega) fun h' eb => ⟨rfl, I.turned (t' := s.toks) (fun b o hb e => eb b o hb e) f0 f1 f3 f4 f5⟩
 self := fun _ _ _ _ _ st h => wpAny_pyIter_listiter st h
theorem turn_tuple {P : Program} {w : World} {K : PySem.W.Frag} {tg : Expr} (a it : Addr) : Turn P w K tg (Itt K a) [it] it (fun i h => h.IsTupleIter it a i) where
 mem := by simp
 obj := fun i h st b hb => by
  have e : b = it := by simpa using hb
  subst e
  obtain ⟨o, e, c, d⟩ := st
  exact ⟨o, e, fun v z => by rw [d] at z; cases z⟩
 keep := fun i h h' st k => st.at fun o e => k it (by simp) o e
 item := by
  intro X hP hw hK hc i pins s σ H E I hf st hg
  subst hP hw hK
  obtain ⟨xs, x, hq, hx⟩ := hg
  obtain ⟨its, rv, p, hz⟩ := I.tuple hq
  obtain ⟨u, hu, ru⟩ := rv.get hx
  obtain ⟨f0, f1, f2, f3, f4, f5⟩ := hf it (by simp)
  refine wpAny_pyNext_tuple_item st (show s.heap.IsTuple a its.toArray from p) (x := u) (by simpa using hu) fun h' st' sb => ?_
  have I1 : Inv X pins σ H { s with heap := h' } := I.turned (t' := s.toks) (fun b o hb e => (sb.2 b hb).trans e) f0 f1 f3 f4 f5
  obtain ⟨o, e, c, d⟩ := id st'
  exact ⟨u, rfl, go_of (s := { s with heap := h' }) e c d (by decide) ⟨x, H, I1, ru, ⟨rfl, fun ys hy => by rw [I.tuple_inj hy hq]; exact hx⟩, st', fun b hb => (hf b hb).1⟩⟩
 done := by
  intro X hP hw hK hc i pins s σ H E I hf st hg
  subst hP hw hK
  obtain ⟨xs, hq, hx⟩ := hg
  obtain ⟨its, rv, p, hz⟩ := I.tuple hq
  obtain ⟨f0, f1, f2, f3, f4, f5⟩ := hf it (by simp)
  have hl := rv.length
  exact wpAny_pyNext_tuple_end (I.ok.hd hc) st (show s.heap.IsTuple a its.toArray from p) (by simp; omega) fun h' eb => ⟨rfl, I.turned (t' := s.toks) (fun b o hb e => eb b o hb e) f0 f1 f3 f4 f5⟩
 self := fun _ _ _ _ _ st h => wpAny_pyIter_tupleiter st h
theorem turn_range {P : Program} {w : World} {K : PySem.W.Frag} {tg : Expr} (it : Addr) (lo : Int) (n : Nat) : Turn P w K tg (Itr lo n) [it] it (fun i h => IsRangeIter h it (lo + (i : Nat) * 1) ((n : Int) - (i : Nat)) 1) where
 mem := by simp
 obj := fun i h st b hb => by
  have e : b = it := by simpa using hb
  subst e
  exact ⟨_, st, fun v z => by
   have z' : Data.fields _ = Data.cell v := z
   cases z'⟩
 keep := fun i h h' st k => k it (by simp) _ st
 item := by
  intro X hP hw hK hc i pins s σ H E I hf st hg
  subst hP hw hK
  obtain ⟨f0, f1, f2, f3, f4, f5⟩ := hf it (by simp)
  have W := Walks.range (prog := X.prog) (w := X.w) (I.ok.hd hc) it lo 1 n
  refine W.item i s _ _ hg st fun v h' tk hv st' kk => ?_
  obtain ⟨t, rfl⟩ := hv
  have I1 : Inv X pins σ H { s with heap := h', toks := tk } := I.turned (fun b o hb e => kk b o (by simpa using hb) e) f0 f1 f3 f4 f5
  refine ⟨_, rfl, go_of (s := { s with heap := h', toks := tk }) (n := "range_iterator") st' rfl rfl (by decide) ⟨.int (lo + i), H, I1, ⟨t, ?_⟩, ⟨rfl, rfl⟩, st', fun b hb => (hf b hb).1⟩⟩
  rw [Int.mul_one]
 done := by
  intro X hP hw hK hc i pins s σ H E I hf st hg
  subst hP hw hK
  obtain ⟨f0, f1, f2, f3, f4, f5⟩ := hf it (by simp)
  exact wpAny_pyNext_range_end (I.ok.hd hc) st (by have : n ≤ i := hg; omega) fun h' eb => ⟨rfl, I.turned (t' := s.toks) (fun b o hb e => eb b o hb e) f0 f1 f3 f4 f5⟩
 self := fun _ _ _ _ _ st h => wpAny_pyIter_rangeiter st h
section
variable {X : Cx} {tg : Expr}
def iList (K : PySem.W.Frag) (tl : TE) : TI := fun σ H R => tl σ H fun x H1 => ∃ a, x = .ref a ∧ (∃ xs, SqL K H1 a xs) ∧ R (Itl K a) H1
def iTup (K : PySem.W.Frag) (tl : TE) : TI := fun σ H R => tl σ H fun x H1 => ∃ a, x = .ref a ∧ (∃ xs, SqT K H1 a xs) ∧ R (Itt K a) H1
theorem pi_list {l : Expr} {tl : TE} (hl : PE X l tl) : PI X tg l (iList X.K tl) := by
 intro pins s σ H R I h
 refine thn (hl pins s σ H _ I h) fun v s1 ⟨x, H1, I1, r1, q1⟩ => ?_
 obtain ⟨a, e, ⟨xs, hq⟩, q⟩ := q1
 subst e
 cases r1
 obtain ⟨its, rv, p, hz⟩ := I1.list hq
 refine wpAny_pyIter_list p.isList ?_
 refine ⟨s1.heap.objs.size, [s1.heap.objs.size], _, _, H1, rfl, I1.kept (t' := s1.toks) fun b o e => Heap.get?_push_of_some _ e, turn_list a _, ⟨_, Heap.get?_push_size _ rfl, rfl, rfl⟩, fun b hb => ?_, q⟩
 have e : b = s1.heap.objs.size := by simpa using hb
 subst e
 exact I1.fpOk (Nat.le_refl _) (I1.hok.fresh (Nat.le_refl _))
theorem pi_tup {l : Expr} {tl : TE} (hl : PE X l tl) : PI X tg l (iTup X.K tl) := by
 intro pins s σ H R I h
 refine thn (hl pins s σ H _ I h) fun v s1 ⟨x, H1, I1, r1, q1⟩ => ?_
 obtain ⟨a, e, ⟨xs, hq⟩, q⟩ := q1
 subst e
 cases r1
 obtain ⟨its, rv, p, hz⟩ := I1.tuple hq
 refine wpAny_pyIter_tuple (show s1.heap.IsTuple a its.toArray from p) ?_
 refine ⟨s1.heap.objs.size, [s1.heap.objs.size], _, _, H1, rfl, I1.kept (t' := s1.toks) fun b o e => Heap.get?_push_of_some _ e, turn_tuple a _, ⟨_, Heap.get?_push_size _ rfl, rfl, rfl⟩, fun b hb => ?_, q⟩
 have e : b = s1.heap.objs.size := by simpa using hb
 subst e
 exact I1.fpOk (Nat.le_refl _) (I1.hok.fresh (Nat.le_refl _))
theorem range_it {pins : List (Addr × Obj)} {σ : St} {H : Hp} {s : Shared} {R : It → Hp → Prop} {E : Value → Shared → Prop} {lo hi : Int} {t u v : Tok} {tk : Nat} (I : Inv X pins σ H s) (h1 : -(2 ^ 62) ≤ lo) (h2 : lo < 2 ^ 62) (h3 : -(2 ^ 62) ≤ hi) (h4 : hi < 2 ^ 62)
  (q : R (Itr lo (hi - lo).toNat) H) : wpAny (model X.prog X.w) X.A (pyIter (.ref s.heap.objs.size)) (PIE X pins σ tg R) E { s with heap := s.heap.push { cls := .type "range", data := .fields #[.int lo t, .int hi u, .int 1 v] }, toks := tk } := by
 refine wpAny_pyIter_range (IsRange.new ..) (small_one h1 h2 h3 h4) ?_
 have I1 : Inv X pins σ H { s with heap := s.heap.push { cls := .type "range", data := .fields #[.int lo t, .int hi u, .int 1 v] }, toks := tk } := I.kept fun b o e => Heap.get?_push_of_some _ e
 refine ⟨(s.heap.push { cls := .type "range", data := .fields #[.int lo t, .int hi u, .int 1 v] }).objs.size, [(s.heap.push { cls := .type "range", data := .fields #[.int lo t, .int hi u, .int 1 v] }).objs.size], _, _, H, rfl,
  I1.kept (t' := tk) fun b o e => Heap.get?_push_of_some _ e, turn_range _ lo (hi - lo).toNat, ?_, fun b hb => ?_, q⟩
 ·have e1 : lo + ((0 : Nat) : Int) * 1 = lo := by simp
  have e2 : (((hi - lo).toNat : Nat) : Int) - ((0 : Nat) : Int) = Builtin.Range.rangeSize lo hi 1 := by rw [rangeSize_one]; split <;> omega
  show IsRangeIter _ _ (lo + ((0 : Nat) : Int) * 1) ((((hi - lo).toNat : Nat) : Int) - ((0 : Nat) : Int)) 1
  rw [e1, e2]
  exact Heap.get?_push_size _ rfl
 ·have e : b = (s.heap.push { cls := .type "range", data := .fields #[.int lo t, .int hi u, .int 1 v] }).objs.size := by simpa using hb
  subst e
  exact I1.fpOk (Nat.le_refl _) (I1.hok.fresh (Nat.le_refl _))
def iRng1 (ta : TA) : TI := fun σ H R => ta σ H fun vs H1 => ∃ j : Int, vs = [.int j] ∧ -(2 ^ 62) ≤ j ∧ j < 2 ^ 62 ∧ R (Itr 0 j.toNat) H1
def iRng2 (ta : TA) : TI := fun σ H R => ta σ H fun vs H1 => ∃ i j : Int, vs = [.int i, .int j] ∧ (-(2 ^ 62) ≤ i ∧ i < 2 ^ 62 ∧ -(2 ^ 62) ≤ j ∧ j < 2 ^ 62) ∧ R (Itr i (j - i).toNat) H1
theorem pi_range1 {a : Expr} {ta : TA} {p pos : Pos} (hg : Gl X "range") (hm : X.mg "range" = none) (ha : PA X [a] ta) (hs : starEach [a] X.env = [(false, eval a X.env)] := by rfl) : PI X tg (.Call (.Name "range" p) [a] [] pos) (iRng1 ta) := by
 intro pins s σ H R I h
 refine Call_ (ld_blt I hg hm boot_range (PyProof.Rows.callWith_type1 (thn (ha pos pins s σ H _ I h) fun us s1 ⟨vs, H1, I1, r1, q1⟩ => ?_) hs rfl))
 obtain ⟨j, e, q1, q2, q⟩ := q1
 subst e
 cases r1 with
 | cons r rr =>
  cases rr
  obtain ⟨t, rfl⟩ := r
  exact call_range_1 (range_it I1 (by omega) (by omega) q1 q2 (by simpa using q))
theorem pi_range2 {a b : Expr} {ta : TA} {p pos : Pos} (hg : Gl X "range") (hm : X.mg "range" = none) (ha : PA X [a, b] ta) (hs : starEach [a, b] X.env = [(false, eval a X.env), (false, eval b X.env)] := by rfl) (hs2 : starEach [b] X.env = [(false, eval b X.env)] := by rfl) :
  PI X tg (.Call (.Name "range" p) [a, b] [] pos) (iRng2 ta) := by
 intro pins s σ H R I h
 refine Call_ (ld_blt I hg hm boot_range (PyProof.Rows.callWith_type1 (thn (ha pos pins s σ H _ I h) fun us s1 ⟨vs, H1, I1, r1, q1⟩ => ?_) (by rw [hs, hs2]) (by rw [hs2]; rfl)))
 obtain ⟨i, j, e, ⟨q1, q2, q3, q4⟩, q⟩ := q1
 subst e
 cases r1 with
 | cons r rr =>
  cases rr with
  | cons r' rr =>
   cases rr
   obtain ⟨t, rfl⟩ := r
   obtain ⟨t', rfl⟩ := r'
   exact call_range_2 (range_it I1 q1 q2 q3 q4 q)
def tFor (wi : TI) (g : TG) (tb : TS) : TS := fun D σ H => wi σ H fun J H1 => ∃ W : Nat → Nat → St → Hp → Prop, (∃ m, W 0 m σ H1) ∧ ∀ i m σ H, W i m σ H →
 (J.stop i H ∧ D.nx σ H) ∨ (J.go i H ∧ ∃ N : St → Hp → Prop, (∀ σ' H', N σ' H' → ∃ m', m' < m ∧ W (i + 1) m' σ' H') ∧ ∀ x H', J.yld i H x H' → g x σ H' fun σ2 H2 => tb { D with nx := N, ct := N, bk := D.nx } σ2 H2)
def pinsAt (fp : List Addr) (h : Heap) : List (Addr × Obj) := fp.filterMap fun b => (h.get? b).map fun o => (b, o)
theorem mem_pinsAt {fp : List Addr} {h : Heap} {b : Addr} {o : Obj} (hb : b ∈ fp) (e : h.get? b = some o) : (b, o) ∈ pinsAt fp h := List.mem_filterMap.mpr ⟨b, hb, by rw [e]; rfl⟩
theorem of_pinsAt {fp : List Addr} {h : Heap} {p : Addr × Obj} (hp : p ∈ pinsAt fp h) : p.1 ∈ fp ∧ h.get? p.1 = some p.2 := by
 obtain ⟨b, hb, e⟩ := List.mem_filterMap.mp hp
 cases q : h.get? b with
 | none => rw [q] at e; cases e
 | some o =>
  rw [q] at e
  have e' : (b, o) = p := Option.some.inj e
  subst e'
  exact ⟨hb, q⟩
theorem Inv.pinned {pins : List (Addr × Obj)} {σ : St} {H : Hp} {s : Shared} {fp : List Addr} (I : Inv X pins σ H s) (hf : ∀ b ∈ fp, FpOk X pins H b) (ho : ∀ b ∈ fp, ∃ o, s.heap.get? b = some o ∧ ∀ v, o.data ≠ .cell v) : Inv X (pins ++ pinsAt fp s.heap) σ H s :=
 I.pins_of fun p hp => (List.mem_append.mp hp).elim (fun z => I.pin p (List.mem_append_right _ z)) fun z => by
  obtain ⟨hb, e⟩ := of_pinsAt z
  obtain ⟨f0, f1, f2, _⟩ := hf p.1 hb
  obtain ⟨o, e', d⟩ := ho p.1 hb
  rw [e] at e'; cases e'
  exact ⟨e, f0, f1, f2, d⟩
theorem Inv.unpinned {pins pl : List (Addr × Obj)} {σ : St} {H : Hp} {s : Shared} (I : Inv X (pins ++ pl) σ H s) : Inv X pins σ H s := I.pins_of fun p hp => I.pin p (List.mem_append_right _ (List.mem_append_left _ hp))
theorem ps_for {iter : Expr} {body : List Stmt} {wi : TI} {g : TG} {tb : TS} {pos : Pos} (hp : PassesOwn (model X.prog X.w) X.A X.env X.xe) (hc : X.calm = true) (hi : PI X tg iter wi) (hg : PG X tg g) (hb : PSs X body tb)
  (hs : ∀ x, foldedSetIterable iter X.env x = pure x := by intro _; rfl) : PS X (.For tg iter body [] pos) (tFor wi g tb) := by
 intro pins s σ H D I h
 refine wpAny_For (thn (hi pins s σ H _ I h) fun v s1 h1 => thn h1 fun itv s2 h2 => ?_) hs
 obtain ⟨it, fp, tn, J, H2, e, I2, T, st2, f2, W, ⟨m0, w0⟩, turn⟩ := h2
 subst e
 -- what stays true of the iterator's objects through the loop
 have stat : ∀ {H' : Hp}, (∀ b ∈ fp, H' b = none) → ∀ b ∈ fp, FpOk X pins H' b := fun hn b hb => ⟨hn b hb, (f2 b hb).2⟩
 refine codeAny_forLoop_any (fun n s' => ∃ i σ' H', Inv X pins σ' H' s' ∧ tn i s'.heap ∧ (∀ b ∈ fp, H' b = none) ∧ W i n σ' H') ?_ m0 ⟨0, σ, H2, I2, st2, fun b hb => (f2 b hb).1, w0⟩
 rintro n s3 ⟨i, σ3, H3, I3, st3, fr3, w3⟩
 rcases turn i n σ3 H3 w3 with ⟨stop, qn⟩ | ⟨go, N, hN, step⟩
 ·refine wpAny_passesOwn hp (thn (T.done X rfl rfl rfl hc i pins s3 σ3 H3 X.xe I3 (stat fr3) st3 stop) fun r s4 ⟨hr, I4⟩ => ?_)
  subst hr
  exact wpAny_execs_nil ⟨σ3, H3, I4, qn⟩
 ·refine wpAny_passesOwn hp (thn (T.item X rfl rfl rfl hc i pins s3 σ3 H3 X.xe I3 (stat fr3) st3 go) fun r s4 ⟨u, hr, h4⟩ => ?_)
  subst hr
  refine wpAny_passesOwn hp (thn h4 fun _ s5 ⟨x, H5, I5, r5, y5, st5, fr5⟩ => ?_)
  have I5' := I5.pinned (stat fr5) (T.obj _ _ st5)
  refine wpAny_passesOwn hp (thn (hg _ s5 σ3 H5 x u _ I5' r5 (step x H5 y5)) fun _ s6 ⟨σ6, H6, I6, q6⟩ => ?_)
  refine wpAny_passesOwn hp (thn (hb _ s6 σ6 H6 _ I6 q6) fun f s7 q7 => ?_)
  have again : ∀ {σ7 : St} {H7 : Hp}, Inv X (pins ++ pinsAt fp s5.heap) σ7 H7 s7 → N σ7 H7 → ∃ m, m < n ∧ ∃ i σ' H', Inv X pins σ' H' s7 ∧ tn i s7.heap ∧ (∀ b ∈ fp, H' b = none) ∧ W i m σ' H' := fun {σ7 H7} I7 n7 => by
   obtain ⟨m', hm, w7⟩ := hN σ7 H7 n7
   refine ⟨m', hm, i + 1, σ7, H7, I7.unpinned, T.keep _ _ _ st5 fun b hb o e => (I7.pin (b, o) (List.mem_append_right _ (List.mem_append_right _ (mem_pinsAt hb e)))).1, fun b hb => ?_, w7⟩
   obtain ⟨o, e, d⟩ := T.obj _ _ st5 b hb
   exact (I7.pin (b, o) (List.mem_append_right _ (List.mem_append_right _ (mem_pinsAt hb e)))).2.1
  cases f with
  | next => obtain ⟨σ7, H7, I7, n7⟩ := q7; exact again I7 n7
  | cont => obtain ⟨σ7, H7, I7, n7⟩ := q7; exact again I7 n7
  | brk => obtain ⟨σ7, H7, I7, q7⟩ := q7; exact ⟨σ7, H7, I7.unpinned, q7⟩
  | ret v => obtain ⟨x7, σ7, H7, I7, r7, q7⟩ := q7; exact ⟨x7, σ7, H7, I7.unpinned, r7, q7⟩
end
theorem for_list {K : PySem.W.Frag} {a : Addr} {xs : List V} {g : TG} {tb : TS} {D : Ends} {σ : St} {H : Hp} (Pv : Nat → St → Hp → Prop) (h0 : Pv 0 σ H) (hl : ∀ i σ H, i ≤ xs.length → Pv i σ H → SqL K H a xs)
  (hs : ∀ i x σ H, xs[i]? = some x → Pv i σ H → g x σ H fun σ2 H2 => tb { D with nx := Pv (i + 1), ct := Pv (i + 1), bk := D.nx } σ2 H2) (hd : ∀ σ H, Pv xs.length σ H → D.nx σ H) :
  ∃ W : Nat → Nat → St → Hp → Prop, (∃ m, W 0 m σ H) ∧ ∀ i m σ H, W i m σ H →
   ((Itl K a).stop i H ∧ D.nx σ H) ∨ ((Itl K a).go i H ∧ ∃ N : St → Hp → Prop, (∀ σ' H', N σ' H' → ∃ m', m' < m ∧ W (i + 1) m' σ' H') ∧ ∀ x H', (Itl K a).yld i H x H' → g x σ H' fun σ2 H2 => tb { D with nx := N, ct := N, bk := D.nx } σ2 H2) := by
 refine ⟨fun i m σ H => m = xs.length - i ∧ i ≤ xs.length ∧ Pv i σ H, ⟨xs.length, by simp, Nat.zero_le _, h0⟩, ?_⟩
 rintro i m σ H ⟨rfl, hi, p⟩
 have q := hl i σ H hi p
 by_cases hlt : i < xs.length
 ·refine .inr ⟨⟨xs, xs[i], q, by simp [hlt]⟩, Pv (i + 1), fun σ' H' p' => ⟨xs.length - (i + 1), by omega, rfl, hlt, p'⟩, fun x H' y => ?_⟩
  obtain ⟨e, y⟩ := y
  subst e
  exact hs i x σ _ (y xs q) p
 ·have e : i = xs.length := by omega
  subst e
  exact .inl ⟨⟨xs, q, Nat.le_refl _⟩, hd σ H p⟩
theorem for_tup {K : PySem.W.Frag} {a : Addr} {xs : List V} {g : TG} {tb : TS} {D : Ends} {σ : St} {H : Hp} (Pv : Nat → St → Hp → Prop) (h0 : Pv 0 σ H) (hl : ∀ i σ H, i ≤ xs.length → Pv i σ H → SqT K H a xs)
  (hs : ∀ i x σ H, xs[i]? = some x → Pv i σ H → g x σ H fun σ2 H2 => tb { D with nx := Pv (i + 1), ct := Pv (i + 1), bk := D.nx } σ2 H2) (hd : ∀ σ H, Pv xs.length σ H → D.nx σ H) :
  ∃ W : Nat → Nat → St → Hp → Prop, (∃ m, W 0 m σ H) ∧ ∀ i m σ H, W i m σ H →
   ((Itt K a).stop i H ∧ D.nx σ H) ∨ ((Itt K a).go i H ∧ ∃ N : St → Hp → Prop, (∀ σ' H', N σ' H' → ∃ m', m' < m ∧ W (i + 1) m' σ' H') ∧ ∀ x H', (Itt K a).yld i H x H' → g x σ H' fun σ2 H2 => tb { D with nx := N, ct := N, bk := D.nx } σ2 H2) := by
 refine ⟨fun i m σ H => m = xs.length - i ∧ i ≤ xs.length ∧ Pv i σ H, ⟨xs.length, by simp, Nat.zero_le _, h0⟩, ?_⟩
 rintro i m σ H ⟨rfl, hi, p⟩
 have q := hl i σ H hi p
 by_cases hlt : i < xs.length
 ·refine .inr ⟨⟨xs, xs[i], q, by simp [hlt]⟩, Pv (i + 1), fun σ' H' p' => ⟨xs.length - (i + 1), by omega, rfl, hlt, p'⟩, fun x H' y => ?_⟩
  obtain ⟨e, y⟩ := y
  subst e
  exact hs i x σ _ (y xs q) p
 ·have e : i = xs.length := by omega
  subst e
  exact .inl ⟨⟨xs, q, Nat.le_refl _⟩, hd σ H p⟩
theorem for_range {lo : Int} {n : Nat} {g : TG} {tb : TS} {D : Ends} {σ : St} {H : Hp} (Pv : Nat → St → Hp → Prop) (h0 : Pv 0 σ H)
  (hs : ∀ i σ H, i < n → Pv i σ H → g (.int (lo + i)) σ H fun σ2 H2 => tb { D with nx := Pv (i + 1), ct := Pv (i + 1), bk := D.nx } σ2 H2) (hd : ∀ σ H, Pv n σ H → D.nx σ H) :
  ∃ W : Nat → Nat → St → Hp → Prop, (∃ m, W 0 m σ H) ∧ ∀ i m σ H, W i m σ H →
   ((Itr lo n).stop i H ∧ D.nx σ H) ∨ ((Itr lo n).go i H ∧ ∃ N : St → Hp → Prop, (∀ σ' H', N σ' H' → ∃ m', m' < m ∧ W (i + 1) m' σ' H') ∧ ∀ x H', (Itr lo n).yld i H x H' → g x σ H' fun σ2 H2 => tb { D with nx := N, ct := N, bk := D.nx } σ2 H2) := by
 refine ⟨fun i m σ H => m = n - i ∧ i ≤ n ∧ Pv i σ H, ⟨n, by simp, Nat.zero_le _, h0⟩, ?_⟩
 rintro i m σ H ⟨rfl, hi, p⟩
 by_cases hlt : i < n
 ·refine .inr ⟨hlt, Pv (i + 1), fun σ' H' p' => ⟨n - (i + 1), by omega, rfl, hlt, p'⟩, fun x H' y => ?_⟩
  obtain ⟨e, y⟩ := y
  subst e y
  exact hs i σ _ hlt p
 ·have e : i = n := by omega
  subst e
  exact .inl ⟨Nat.le_refl _, hd σ H p⟩
abbrev R2 := V → V → Hp → VK → Prop
def OpR (X : Cx) (f : Value → Value → Sem Value) (r : R2) : Prop :=
 ∀ (pins : List (Addr × Obj)) (s : Shared) (σ : St) (H : Hp) (x y : V) (v u : Value) (Q : VK), Inv X pins σ H s → RelV x v → RelV y u → r x y H Q →
  wpAny (model X.prog X.w) X.A (f v u) (EP X pins σ Q) X.xe s
def UnR (X : Cx) (f : Value → Sem Value) (r : V → Hp → VK → Prop) : Prop :=
 ∀ (pins : List (Addr × Obj)) (s : Shared) (σ : St) (H : Hp) (x : V) (v : Value) (Q : VK), Inv X pins σ H s → RelV x v → r x H Q →
  wpAny (model X.prog X.w) X.A (f v) (EP X pins σ Q) X.xe s
def CallR (X : Cx) (f : Value) (r : List V → Hp → VK → Prop) : Prop :=
 ∀ (pins : List (Addr × Obj)) (s : Shared) (σ : St) (H : Hp) (xs : List V) (us : List Value) (Q : VK), Inv X pins σ H s → Vals xs us → r xs H Q →
  wpAny (model X.prog X.w) X.A (call f us) (EP X pins σ Q) X.xe s
def TruR (X : Cx) (r : V → Hp → (Bool → Hp → Prop) → Prop) : Prop :=
 ∀ (pins : List (Addr × Obj)) (s : Shared) (σ : St) (H : Hp) (x : V) (v : Value) (Q : Bool → Hp → Prop), Inv X pins σ H s → RelV x v → r x H Q →
  wpAny (model X.prog X.w) X.A (truthy v) (TP X pins σ Q) X.xe s
def tOp (r : R2) (ta tb : TE) : TE := fun σ H Q => ta σ H fun x H1 => tb σ H1 fun y H2 => r x y H2 Q
def tUn (r : V → Hp → VK → Prop) (ta : TE) : TE := fun σ H Q => ta σ H fun x H1 => r x H1 Q
def rI (C : Int → Int → Prop) (g : Int → Int → V) : R2 := fun x y H Q => ∃ i j, x = .int i ∧ y = .int j ∧ C i j ∧ Q (g i j) H
def rI0 (g : Int → Int → V) : R2 := fun x y H Q => ∃ i j, x = .int i ∧ y = .int j ∧ Q (g i j) H
def rU (g : Int → V) : V → Hp → VK → Prop := fun x H Q => ∃ i, x = .int i ∧ Q (g i) H
section
variable {X : Cx} {a b c : Expr} {ta tb tc : TE} {pos : Pos}
theorem binT (ha : PE X a ta) (hb : PE X b tb) {pins : List (Addr × Obj)} {s : Shared} {σ : St} {H : Hp} {R : V → V → Hp → Prop} (I : Inv X pins σ H s)
  (h : ta σ H fun x H1 => tb σ H1 fun y H2 => R x y H2) {Q : Value → Shared → Prop} {f : Value → Value → Sem Value}
  (hf : ∀ v u s2 x y H2, Inv X pins σ H2 s2 → RelV x v → RelV y u → R x y H2 → wpAny (model X.prog X.w) X.A (f v u) Q X.xe s2) :
  wpAny (model X.prog X.w) X.A (eval a X.env) (fun v s₁ => wpAny (model X.prog X.w) X.A (eval b X.env) (fun u s₂ => wpAny (model X.prog X.w) X.A (f v u) Q X.xe s₂) X.xe s₁) X.xe s := by
 refine thn (ha pins s σ H _ I h) fun v s1 ⟨x, H1, I1, r1, q1⟩ => ?_
 refine thn (hb pins s1 σ H1 _ I1 q1) fun u s2 ⟨y, H2, I2, r2, q2⟩ => ?_
 exact hf v u s2 x y H2 I2 r1 r2 q2
theorem pe_op {op : Operator} {r : R2} (ho : OpR X (binaryOp op) r) (ha : PE X a ta) (hb : PE X b tb) : PE X (.BinOp a op b pos) (tOp r ta tb) := by
 intro pins s σ H Q I h
 exact wpAny_BinOp (binT ha hb I h fun v u s2 x y H2 I2 rx ry q => ho pins s2 σ H2 x y v u Q I2 rx ry q)
theorem pe_un {op : UnaryOp} {r : V → Hp → VK → Prop} (ho : UnR X (unaryOp op) r) (ha : PE X a ta) : PE X (.UnaryOp op a pos) (tUn r ta) := by
 intro pins s σ H Q I h
 exact UnaryOp_ (thn (ha pins s σ H _ I h) fun v s1 ⟨x, H1, I1, r1, q1⟩ => ho pins s1 σ H1 x v Q I1 r1 q1)
theorem opI {f : Value → Value → Sem Value} {C : Int → Int → Prop} {g : Int → Int → Int}
  (rule : ∀ (i j : Int) (t u : Tok) (s : Shared) (Q : Value → Shared → Prop) (E : Value → Shared → Prop), C i j → Q (.int (g i j) s.toks) { s with toks := s.toks + 1 } → wpAny (model X.prog X.w) X.A (f (.int i t) (.int j u)) Q E s) :
  OpR X f (rI C fun i j => .int (g i j)) := by
 intro pins s σ H x y v u Q I rx ry h
 obtain ⟨i, j, rfl, rfl, hc, q⟩ := h
 obtain ⟨t, rfl⟩ := rx
 obtain ⟨t', rfl⟩ := ry
 exact rule i j t t' s _ _ hc ⟨.int (g i j), H, I.tok _, ⟨_, rfl⟩, q⟩
theorem opI0 {f : Value → Value → Sem Value} {g : Int → Int → Int}
  (rule : ∀ (i j : Int) (t u : Tok) (s : Shared) (Q : Value → Shared → Prop) (E : Value → Shared → Prop), Q (.int (g i j) s.toks) { s with toks := s.toks + 1 } → wpAny (model X.prog X.w) X.A (f (.int i t) (.int j u)) Q E s) :
  OpR X f (rI0 fun i j => .int (g i j)) := by
 intro pins s σ H x y v u Q I rx ry h
 obtain ⟨i, j, rfl, rfl, q⟩ := h
 obtain ⟨t, rfl⟩ := rx
 obtain ⟨t', rfl⟩ := ry
 exact rule i j t t' s _ _ ⟨.int (g i j), H, I.tok _, ⟨_, rfl⟩, q⟩
theorem opB0 {f : Value → Value → Sem Value} {g : Int → Int → Bool}
  (rule : ∀ (i j : Int) (t u : Tok) (s : Shared) (Q : Value → Shared → Prop) (E : Value → Shared → Prop), Q (.bool (g i j)) s → wpAny (model X.prog X.w) X.A (f (.int i t) (.int j u)) Q E s) :
  OpR X f (rI0 fun i j => .bl (g i j)) := by
 intro pins s σ H x y v u Q I rx ry h
 obtain ⟨i, j, rfl, rfl, q⟩ := h
 obtain ⟨t, rfl⟩ := rx
 obtain ⟨t', rfl⟩ := ry
 exact rule i j t t' s _ _ ⟨.bl (g i j), H, I, rfl, q⟩
def CDiv (i j : Int) : Prop := 0 < j ∧ j < 1073741824
def CPow (i j : Int) : Prop := 0 ≤ j ∧ j ≤ 1000000 ∧ i.natAbs < 2 ^ 64
def CMul (i j : Int) : Prop := (-(2 ^ 64) < i ∧ i < 2 ^ 64) ∨ (-(2 ^ 64) < j ∧ j < 2 ^ 64)
theorem CMul.ok {i j : Int} (h : CMul i j) : IntMulOk i j := by
 rcases h with ⟨h1, h2⟩ | ⟨h1, h2⟩
 ·exact .of_left (intBits_le_64 h1 h2)
 ·exact .of_right (intBits_le_64 h1 h2)
theorem two_pow_nn (k : Nat) : (0 : Int) ≤ 2 ^ k := by
 rw [two_pow_cast]
 exact Int.natCast_nonneg _
theorem op_add : OpR X (binaryOp .Add) (rI0 fun i j => .int (i + j)) := opI0 fun _ _ _ _ _ _ _ q => add_int q
theorem op_sub : OpR X (binaryOp .Sub) (rI0 fun i j => .int (i - j)) := opI0 fun _ _ _ _ _ _ _ q => sub_int q
theorem op_mul : OpR X (binaryOp .Mult) (rI CMul fun i j => .int (i * j)) := opI fun _ _ _ _ _ _ _ hc q => mul_int q hc.ok
theorem op_fdiv : OpR X (binaryOp .FloorDiv) (rI CDiv fun i j => .int (i / j)) := opI fun i j _ _ _ _ _ hc q => by
 have h1 : (0 : Int) < j := hc.1
 have h2 : j < 1073741824 := hc.2
 exact floordiv_int (by omega) (by rw [Int.fdiv_eq_ediv_of_nonneg i (by omega)]; exact q) (.inl (PyProof.noPylong_small (by omega)))
theorem op_mod : OpR X (binaryOp .Mod) (rI (fun _ j => 0 < j) fun i j => .int (i % j)) := opI fun i j _ _ _ _ _ hc q => by
 have h1 : (0 : Int) < j := hc
 exact mod_int' (by omega) (by rw [Int.fmod_eq_emod_of_nonneg i (by omega)]; exact q)
theorem op_pow : OpR X (binaryOp .Pow) (rI CPow fun i j => .int (i ^ j.toNat)) := opI fun _ _ _ _ _ _ _ hc q => pow_int_small hc.1 hc.2.1 hc.2.2 q
theorem op_shr : OpR X (binaryOp .RShift) (rI (fun _ j => 0 ≤ j) fun i j => .int (i / 2 ^ j.toNat)) := opI fun i j _ _ _ _ _ hc q =>
 rshift_int hc (by rw [Int.fdiv_eq_ediv_of_nonneg i (two_pow_nn _)]; exact q)
theorem op_xor : OpR X (binaryOp .BitXor) (rI0 fun i j => .int (Builtin.bitXor i j)) := opI0 fun _ _ _ _ _ _ _ q => xor_int q
theorem unI {f : Value → Sem Value} {g : Int → Int}
  (rule : ∀ (i : Int) (t : Tok) (s : Shared) (Q : Value → Shared → Prop) (E : Value → Shared → Prop), Q (.int (g i) s.toks) { s with toks := s.toks + 1 } → wpAny (model X.prog X.w) X.A (f (.int i t)) Q E s) :
  UnR X f (rU fun i => .int (g i)) := by
 intro pins s σ H x v Q I rx h
 obtain ⟨i, rfl, q⟩ := h
 obtain ⟨t, rfl⟩ := rx
 exact rule i t s _ _ ⟨.int (g i), H, I.tok _, ⟨_, rfl⟩, q⟩
theorem un_neg : UnR X (unaryOp .USub) (rU fun i => .int (-i)) := unI fun _ _ _ _ _ q => neg_int q
end
def scal : V → V → Bool
 | .non, .non => true | .non, .int _ => true | .int _, .non => true | .non, .bl _ => true | .bl _, .non => true | .non, .str _ => true | .str _, .non => true
 | .int _, .int _ => true | .bl _, .bl _ => true | .str _, .str _ => true | .byt _, .byt _ => true
 | .int _, .str _ => true | .str _, .int _ => true | .bl _, .str _ => true | .str _, .bl _ => true
 | _, _ => false
def rEq : R2 := fun x y H Q => scal x y = true ∧ Q (.bl (decide (x = y))) H
def rNe : R2 := fun x y H Q => scal x y = true ∧ Q (.bl (!decide (x = y))) H
theorem dec_int {i j : Int} : decide (V.int i = V.int j) = (i == j) := by
 rw [Bool.eq_iff_iff]
 simp
theorem dec_bl {i j : Bool} : decide (V.bl i = V.bl j) = (i == j) := by
 rw [Bool.eq_iff_iff]
 simp
theorem dec_str {i j : Str} : decide (V.str i = V.str j) = (i == j) := by
 rw [Bool.eq_iff_iff]
 simp
theorem dec_byt {i j : Array UInt8} : decide (V.byt i = V.byt j) = (i.toList == j.toList) := by
 rw [Bool.eq_iff_iff]
 cases i
 cases j
 simp
section
variable {X : Cx} {a b c : Expr} {ta tb tc : TE} {pos : Pos}
theorem fin_bl {pins : List (Addr × Obj)} {σ : St} {H : Hp} {s : Shared} {Q : VK} {k k' : Bool} (I : Inv X pins σ H s) (q : Q (.bl k) H) (e : k = k') : EP X pins σ Q (.bool k') s := by
 subst e
 exact ⟨.bl k, H, I, rfl, q⟩
theorem op_eq : OpR X (compareOp .Eq) rEq := by
 intro pins s σ H x y v u Q I rx ry h
 obtain ⟨hs, q⟩ := h
 cases x with
 | non =>
  cases rx
  cases y with
  | non => cases ry; exact PySem.EqNone.eq_none_none (fin_bl I q (by simp))
  | bl j => cases ry; exact PySem.EqNone.eq_none_bool (fin_bl I q (by simp))
  | int j => obtain ⟨t', rfl⟩ := ry; exact PySem.EqNone.eq_none_int (fin_bl I q (by simp))
  | str j => obtain ⟨t', rfl⟩ := ry; exact PySem.EqNone.eq_none_str (fin_bl I q (by simp))
  | _ => exact absurd (show false = true from hs) Bool.false_ne_true
 | bl i =>
  cases rx
  cases y with
  | non => cases ry; exact PySem.EqNone.eq_bool_none (fin_bl I q (by simp))
  | bl j => cases ry; exact eq_bool (fin_bl I q dec_bl)
  | str j => obtain ⟨t', rfl⟩ := ry; exact PySem.EqMixed.eq_bool_str (fin_bl I q (by simp))
  | _ => exact absurd (show false = true from hs) Bool.false_ne_true
 | int i =>
  obtain ⟨t, rfl⟩ := rx
  cases y with
  | non => cases ry; exact PySem.EqNone.eq_int_none (fin_bl I q (by simp))
  | int j => obtain ⟨t', rfl⟩ := ry; exact eq_int (fin_bl I q dec_int)
  | str j => obtain ⟨t', rfl⟩ := ry; exact PySem.EqMixed.eq_int_str (fin_bl I q (by simp))
  | _ => exact absurd (show false = true from hs) Bool.false_ne_true
 | str i =>
  obtain ⟨t, rfl⟩ := rx
  cases y with
  | non => cases ry; exact PySem.EqNone.eq_str_none (fin_bl I q (by simp))
  | bl j => cases ry; exact PySem.EqMixed.eq_str_bool (fin_bl I q (by simp))
  | int j => obtain ⟨t', rfl⟩ := ry; exact PySem.EqMixed.eq_str_int (fin_bl I q (by simp))
  | str j => obtain ⟨t', rfl⟩ := ry; exact eq_str (fin_bl I q dec_str)
  | _ => exact absurd (show false = true from hs) Bool.false_ne_true
 | byt i =>
  obtain ⟨t, rfl⟩ := rx
  cases y with
  | byt j => obtain ⟨t', rfl⟩ := ry; exact PySem.W.eq_bytes (fin_bl I q dec_byt)
  | _ => exact absurd (show false = true from hs) Bool.false_ne_true
 | _ => cases y <;> exact absurd (show false = true from hs) Bool.false_ne_true
theorem op_ne : OpR X (compareOp .NotEq) rNe := by
 intro pins s σ H x y v u Q I rx ry h
 obtain ⟨hs, q⟩ := h
 cases x with
 | non =>
  cases rx
  cases y with
  | non => cases ry; exact PySem.EqNone.ne_none_none (fin_bl I q (by simp))
  | bl j => cases ry; exact PySem.EqNone.ne_none_bool (fin_bl I q (by simp))
  | int j => obtain ⟨t', rfl⟩ := ry; exact PySem.EqNone.ne_none_int (fin_bl I q (by simp))
  | str j => obtain ⟨t', rfl⟩ := ry; exact PySem.EqNone.ne_none_str (fin_bl I q (by simp))
  | _ => exact absurd (show false = true from hs) Bool.false_ne_true
 | bl i =>
  cases rx
  cases y with
  | non => cases ry; exact PySem.EqNone.ne_bool_none (fin_bl I q (by simp))
  | bl j => cases ry; exact ne_bool (fin_bl I q (congrArg not dec_bl))
  | str j => obtain ⟨t', rfl⟩ := ry; exact PySem.EqMixed.ne_bool_str (fin_bl I q (by simp))
  | _ => exact absurd (show false = true from hs) Bool.false_ne_true
 | int i =>
  obtain ⟨t, rfl⟩ := rx
  cases y with
  | non => cases ry; exact PySem.EqNone.ne_int_none (fin_bl I q (by simp))
  | int j => obtain ⟨t', rfl⟩ := ry; exact ne_int (fin_bl I q (congrArg not dec_int))
  | str j => obtain ⟨t', rfl⟩ := ry; exact PySem.EqMixed.ne_int_str (fin_bl I q (by simp))
  | _ => exact absurd (show false = true from hs) Bool.false_ne_true
 | str i =>
  obtain ⟨t, rfl⟩ := rx
  cases y with
  | non => cases ry; exact PySem.EqNone.ne_str_none (fin_bl I q (by simp))
  | bl j => cases ry; exact PySem.EqMixed.ne_str_bool (fin_bl I q (by simp))
  | int j => obtain ⟨t', rfl⟩ := ry; exact PySem.EqMixed.ne_str_int (fin_bl I q (by simp))
  | str j => obtain ⟨t', rfl⟩ := ry; exact ne_str (fin_bl I q (congrArg not dec_str))
  | _ => exact absurd (show false = true from hs) Bool.false_ne_true
 | byt i =>
  obtain ⟨t, rfl⟩ := rx
  cases y with
  | byt j => obtain ⟨t', rfl⟩ := ry; exact PySem.W.ne_bytes (fin_bl I q (congrArg not dec_byt))
  | _ => exact absurd (show false = true from hs) Bool.false_ne_true
 | _ => cases y <;> exact absurd (show false = true from hs) Bool.false_ne_true
theorem op_lt : OpR X (compareOp .Lt) (rI0 fun i j => .bl (decide (i < j))) := opB0 fun _ _ _ _ _ _ _ q => lt_int q
theorem op_le : OpR X (compareOp .LtE) (rI0 fun i j => .bl (decide (i ≤ j))) := opB0 fun _ _ _ _ _ _ _ q => le_int q
theorem op_ge : OpR X (compareOp .GtE) (rI0 fun i j => .bl (decide (j ≤ i))) := opB0 fun _ _ _ _ _ _ _ q => ge_int q
theorem op_notN : OpR X (compareOp .IsNot) (fun x y H Q => y = .non ∧ Q (.bl (!decide (x = .non))) H) := by
 intro pins s σ H x y v u Q I rx ry h
 obtain ⟨rfl, q⟩ := h
 cases ry
 refine isnot_none_gen (fin_bl I q ?_)
 cases x <;> first
  | (cases rx; rfl)
  | (obtain ⟨t, rfl⟩ := rx; rfl)
theorem nomark (b : Expr) {op : CmpOp} (h : op ≠ .In := by decide) (h2 : op ≠ .NotIn := by decide) : behindInMarks op b = false := by
 have e1 : (op == CmpOp.In) = false := by cases op <;> first | rfl | exact absurd rfl h
 have e2 : (op == CmpOp.NotIn) = false := by cases op <;> first | rfl | exact absurd rfl h2
 cases b <;> simp [behindInMarks, e1, e2]
theorem pe_cmpR {op : CmpOp} {r : R2} (ho : OpR X (compareOp op) r) (ha : PE X a ta) (hb : PE X b tb) (hm : behindInMarks op b = false) : PE X (.Compare a [op] [b] pos) (tOp r ta tb) := by
 intro pins s σ H Q I h
 exact wpAny_Compare1 (binT ha hb I h fun v u s2 x y H2 I2 rx ry q => ho pins s2 σ H2 x y v u Q I2 rx ry q) hm
def tTest (t : TE) : TT := fun σ H Q => t σ H fun x H' => ∃ k, x = .bl k ∧ Q k H'
theorem pt_cmpR {op : CmpOp} {r : R2} (ho : OpR X (compareOp op) r) (ha : PE X a ta) (hb : PE X b tb) (hm : behindInMarks op b = false) : PT X (.Compare a [op] [b] pos) (tTest (tOp r ta tb)) := by
 intro pins s σ H Q I h
 refine wpAny_isTrue_Compare1 (thn (ha pins s σ H _ I h) fun v s1 ⟨x, H1, I1, r1, q1⟩ => thn (hb pins s1 σ H1 _ I1 q1) fun u s2 ⟨y, H2, I2, r2, q2⟩ =>
  thn (ho pins s2 σ H2 x y v u _ I2 r1 r2 q2) fun c s3 ⟨z, H3, I3, r3, k, e, q3⟩ => ?_) hm
 subst e
 cases r3
 exact wpAny_truthy_bool ⟨H3, I3, q3⟩
def tChain (r r' : R2) (ta tb tc : TE) : TE := fun σ H Q => ta σ H fun x H1 => tb σ H1 fun y H2 => r x y H2 fun z H3 => ∃ k, z = .bl k ∧
 (if k = true then tc σ H3 fun w' H4 => r' y w' H4 Q else Q (.bl false) H3)
theorem pe_chain {op op' : CmpOp} {r r' : R2} (ho : OpR X (compareOp op) r) (ho' : OpR X (compareOp op') r') (ha : PE X a ta) (hb : PE X b tb) (hc : PE X c tc)
  (hm : lastMarks [op, op'] [b, c] = false := by with_unfolding_all rfl) : PE X (.Compare a [op, op'] [b, c] pos) (tChain r r' ta tb tc) := by
 intro pins s σ H Q I h
 refine Compare_chain (thn (ha pins s σ H _ I h) fun v s1 ⟨x, H1, I1, r1, q1⟩ => chain_link (thn (hb pins s1 σ H1 _ I1 q1) fun u s2 ⟨y, H2, I2, r2, q2⟩ =>
  thn (ho pins s2 σ H2 x y v u _ I2 r1 r2 q2) fun d s3 ⟨z, H3, I3, r3, k, e, q3⟩ => ?_)) hm
 subst e
 cases r3
 refine wpAny_truthy_bool ?_
 cases k with
 | false => exact ite_ff ⟨.bl false, H3, I3, rfl, q3⟩
 | true => exact ite_tt (chain_last (thn (hc pins s3 σ H3 _ I3 q3) fun w' s4 ⟨z', H4, I4, r4, q4⟩ => ho' pins s4 σ H4 y z' u w' Q I4 r2 r4 q4))
def TruV (K : PySem.W.Frag) (x : V) (H : Hp) (k : Bool) : Prop :=
 match x with
 | .non => k = false
 | .bl b => k = b
 | .int i => k = (i != 0)
 | .str y => y.length ≤ sizeLine ∧ k = ((y.length : Int) != 0)
 | .byt y => y.size ≤ sizeLine ∧ k = ((y.size : Int) != 0)
 | .ref p => (∃ xs, SqL K H p xs ∧ k = !xs.isEmpty) ∨ (∃ xs, SqT K H p xs ∧ k = !xs.isEmpty) ∨ ∃ kvs, H p = some (.dK kvs) ∧ k = !kvs.isEmpty
 | _ => False
theorem isEmpty_kv {κ : Type} {kvs : List (κ × V)} {vs : List (κ × Value)} (r : KV kvs vs) : (!vs.isEmpty) = !kvs.isEmpty := by
 cases r <;> rfl
theorem isEmpty_of {xs : List V} {its : List Value} (r : Vals xs its) : (!its.toArray.isEmpty) = !xs.isEmpty := by
 cases r <;> simp
theorem line63 : (sizeLine : Nat) < 2 ^ 63 := by rw [sizeLine_eq]; decide
theorem tru_ok : TruR X (fun x H Q => ∃ k, TruV X.K x H k ∧ Q k H) := by
 intro pins s σ H x v Q I rx h
 obtain ⟨k, e, q⟩ := h
 have hl := line63
 have hs : sizeLine = 16777216 := sizeLine_eq
 cases x with
 | non =>
  cases rx
  have e' : k = false := e
  subst e'
  exact truthy_none ⟨H, I, q⟩
 | bl b =>
  cases rx
  have e' : k = b := e
  subst e'
  exact wpAny_truthy_bool ⟨H, I, q⟩
 | int i =>
  obtain ⟨t, rfl⟩ := rx
  have e' : k = (i != 0) := e
  subst e'
  exact PySem.P.truthy_int ⟨H, I, q⟩
 | str y =>
  obtain ⟨t, rfl⟩ := rx
  obtain ⟨hy, e'⟩ : y.length ≤ sizeLine ∧ k = ((y.length : Int) != 0) := e
  subst e'
  exact PySem.P.truthy_str (by omega) ⟨H, I.tok _, q⟩
 | byt y =>
  obtain ⟨t, rfl⟩ := rx
  obtain ⟨hy, e'⟩ : y.size ≤ sizeLine ∧ k = ((y.size : Int) != 0) := e
  subst e'
  exact PySem.W.truthy_bytes (by omega) ⟨H, I.tok _, q⟩
 | ref p =>
  cases rx
  have e' : (∃ xs, SqL X.K H p xs ∧ k = !xs.isEmpty) ∨ (∃ xs, SqT X.K H p xs ∧ k = !xs.isEmpty) ∨ ∃ kvs, H p = some (.dK kvs) ∧ k = !kvs.isEmpty := e
  rcases e' with ⟨xs, hx, e'⟩ | ⟨xs, hx, e'⟩ | ⟨kvs, hx, e'⟩
  ·subst e'
   obtain ⟨its, r, pl, hz⟩ := I.list hx
   have hlen := r.length
   exact wpAny_truthy_list pl.isList (by simp only [List.size_toArray]; omega) ⟨H, I.tok _, by rw [isEmpty_of r]; exact q⟩
  ·subst e'
   obtain ⟨its, r, pl, hz⟩ := I.tuple hx
   have hlen := r.length
   exact truthy_tuple pl (by simp only [List.size_toArray]; omega) ⟨H, I.tok _, by rw [isEmpty_of r]; exact q⟩
  ·subst e'
   obtain ⟨hz, hS, vs, r, m⟩ : kvs.length ≤ sizeLine ∧ (p == sysModules) = false ∧ ∃ vs, KV kvs vs ∧ s.heap.DictOf (mixKind X.prog X.w) p vs := I.hok p _ hx
   have hlen : kvs.length = vs.length := Paired.length r
   exact wpAny_truthy_dict hS m (by omega) ⟨H, I.tok _, by rw [isEmpty_kv r]; exact q⟩
 | _ => exact (show False from e).elim
theorem pt_truth (ha : PE X a ta) (he : ∀ whole, isTrue a X.env whole = (do let v ← whole; standAt a.pos; holding [v] (truthy v))) :
  PT X a (fun σ H Q => ta σ H fun x H' => ∃ k, TruV X.K x H' k ∧ Q k H') := by
 intro pins s σ H Q I h
 exact isTrue_plain (thn (ha pins s σ H _ I h) fun v s1 ⟨x, H1, I1, r1, q1⟩ => tru_ok pins s1 σ H1 x v Q I1 r1 q1) (he _)
theorem op_add_str : OpR X (binaryOp .Add) (fun x y H Q => ∃ i j, x = .str i ∧ y = .str j ∧ i.length + j.length ≤ sizeLine ∧ Q (.str (i ++ j)) H) := by
 intro pins s σ H x y v u Q I rx ry h
 obtain ⟨i, j, rfl, rfl, hz, q⟩ := h
 obtain ⟨t, rfl⟩ := rx
 obtain ⟨t', rfl⟩ := ry
 exact add_str (fun t' tk => ⟨.str (i ++ j), H, I.tok _, ⟨_, rfl⟩, q⟩) hz
theorem vals1 {x : V} {us : List Value} (r : Vals [x] us) : ∃ u, us = [u] ∧ RelV x u := by
 cases r with
 | cons r1 r2 => cases r2; exact ⟨_, rfl, r1⟩
theorem vals2 {x y : V} {us : List Value} (r : Vals [x, y] us) : ∃ u w', us = [u, w'] ∧ RelV x u ∧ RelV y w' := by
 cases r with
 | cons r1 r2 =>
  cases r2 with
  | cons r3 r4 => cases r4; exact ⟨_, _, rfl, r1, r3⟩
theorem call_max2 (hc : X.calm = true) : CallR X (.builtin "max") (fun xs H Q => ∃ i j, xs = [.int i, .int j] ∧ Q (.int (if j > i then j else i)) H) := by
 intro pins s σ H xs us Q I r h
 obtain ⟨i, j, rfl, q⟩ := h
 obtain ⟨u, w', rfl, ⟨t, rfl⟩, ⟨t', rfl⟩⟩ := vals2 r
 refine max_two_ints (I.ok.hd hc) fun h' tk k => ⟨_, H, I.kept k, ?_, q⟩
 by_cases hj : j > i
 ·rw [if_pos hj, if_pos hj]; exact ⟨_, rfl⟩
 ·rw [if_neg hj, if_neg hj]; exact ⟨_, rfl⟩
theorem call_min2 (hc : X.calm = true) : CallR X (.builtin "min") (fun xs H Q => ∃ i j, xs = [.int i, .int j] ∧ Q (.int (if j < i then j else i)) H) := by
 intro pins s σ H xs us Q I r h
 obtain ⟨i, j, rfl, q⟩ := h
 obtain ⟨u, w', rfl, ⟨t, rfl⟩, ⟨t', rfl⟩⟩ := vals2 r
 refine min_two_ints (I.ok.hd hc) fun h' tk k => ⟨_, H, I.kept k, ?_, q⟩
 by_cases hj : j < i
 ·rw [if_pos hj, if_pos hj]; exact ⟨_, rfl⟩
 ·rw [if_neg hj, if_neg hj]; exact ⟨_, rfl⟩
theorem call_int1 : CallR X (.type "int") (fun xs H Q => (∃ i, xs = [.int i] ∧ Q (.int i) H) ∨ ∃ k, xs = [.bl k] ∧ Q (.int (if k then 1 else 0)) H) := by
 intro pins s σ H xs us Q I r h
 rcases h with ⟨i, rfl, q⟩ | ⟨k, rfl, q⟩
 ·obtain ⟨u, rfl, t, rfl⟩ := vals1 r
  exact call_int_int ⟨.int i, H, I, ⟨_, rfl⟩, q⟩
 ·obtain ⟨u, rfl, r1⟩ := vals1 r
  cases r1
  exact call_int_bool ⟨.int (if k then 1 else 0), H, I.tok _, ⟨_, rfl⟩, q⟩
end
structure ObjM (h : Heap) (x dx C : Addr) (mA : Str → Option Value) : Prop where
 obj : h.get? x = some (PySem.W.instObj C dx)
 ns : h.Ns1 dx mA
 ne : dx ≠ x
theorem lookIn_ns {h : Heap} {dx : Addr} {mA : Str → Option Value} (n : h.Ns1 dx mA) : ∃ od, h.get? dx = some od ∧ ∀ name, PySem.W.lookIn name od = some (mA name) := by
 obtain ⟨o, es, ep, ho, hd, hk, _, hm⟩ := n
 refine ⟨o, ho, fun name => ?_⟩
 have e := hm name
 unfold nsFind findBy at e
 rw [← Array.find?_toList] at e
 unfold PySem.W.lookIn
 rw [hd]
 dsimp only
 split
 ·rename_i y q
  rw [q] at e
  exact congrArg some e
 ·rename_i q
  rw [q] at e
  have a : es.toList.any (·.refKey) = false := by
   rw [List.any_eq_false]
   intro y hy
   obtain ⟨z, t, hkey⟩ := hk y (Array.mem_toList_iff.mp hy)
   simp [DictEntry.refKey, hkey]
  have a' : ¬ es.toList.any (·.refKey) = true := by rw [a]; exact Bool.false_ne_true
  rw [if_neg a']
  exact congrArg some e
theorem ObjM.look {h : Heap} {x dx C : Addr} {mA : Str → Option Value} (I : ObjM h x dx C mA) : ∃ od, PySem.W.InstAt h x (PySem.W.instObj C dx) C (some od) ∧ ∀ name, PySem.W.lookIn name od = some (mA name) :=
 let ⟨od, ho, hl⟩ := lookIn_ns I.ns
 ⟨od, ⟨I.obj, rfl, rfl, ho⟩, hl⟩
section
variable {prog : Program} {w : World} {A : Around} {E : Value → Shared → Prop} {s : Shared} {K : PySem.W.Frag} {x dx C f : Addr} {mA : Str → Option Value} {name : Str} {v : Value}
theorem get_map {expr : Bool} {Q : Value → Shared → Prop} (X : K.In s.heap) (I : ObjM s.heap x dx C mA) (hg : PySem.W.plainGet K C name = true) (hh : PySem.W.hasDictIn K C = true)
  (ha : PySem.W.findIn K (.ref C) name = some none) (hv : mA name = some v) (hv' : PySem.W.handedIn v = true) (h : Q v { s with toks := s.toks + 1 }) :
  wpAny (model prog w) A (getAttr (.ref x) name expr) Q E s := by
 obtain ⟨od, J, hl⟩ := I.look
 exact PySem.W.get_value X J (PySem.W.plainGet_of hg).1 (PySem.W.findObj_own hh ha rfl (by rw [hl, hv])) hv' h
theorem get_meth {pl : Sem Bool} {Q : Value × List Value → Shared → Prop} (X : K.In s.heap) (I : ObjM s.heap x dx C mA) (hg : PySem.W.plainGet K C name = true)
  (hf : PySem.W.findIn K (.ref C) name = some (some (.ref f))) (ht : PySem.W.isFn K (.ref f) = true) (hv : mA name = none) (h : Q (.ref f, [.ref x]) s) :
  wpAny (model prog w) A (getMethod (.ref x) name pl) Q E s := by
 obtain ⟨od, J, hl⟩ := I.look
 exact PySem.W.method_fn X J (PySem.W.plainGet_of hg).1 (PySem.W.plainGet_of hg).2 hf (beq_iff_eq.mp ht) (by show (PySem.W.lookIn name od).map (·.isSome) = some false; rw [hl, hv]; rfl) h
theorem set_map {ns : List Str} {Q : Unit → Shared → Prop} (X : K.In s.heap) (I : ObjM s.heap x dx C mA)
  (hs : PySem.W.findIn K (.ref C) "__setattr__" = some (some (.builtin "object.__setattr__"))) (hp : PySem.W.plainOver K C = true) (ht : PySem.W.takerIn K C name = some none) (hh : PySem.W.hasDictIn K C = true)
  (hw : PySem.Within mA ns) (hsz : ns.length ≤ sizeLine)
  (h : ∀ h', ObjM h' x dx C (fun y => if y = name then some v else mA y) → Heap.SameBut dx s.heap h' → Q () { s with heap := h', toks := s.toks + 2 }) :
  wpAny (model prog w) A (setAttr (.ref x) name v) Q E s := by
 obtain ⟨od, J, hl⟩ := I.look
 refine PySem.W.set_plain X J hs (PySem.W.osa_open (s := { s with toks := s.toks + 1 }) (r := none) X J hp ht fun b => ?_)
 obtain ⟨cd, hc, hd'⟩ := PySem.W.any_some hh
 have hx : s.heap.get? x = some ⟨.ref C, some dx, .plain, #[]⟩ := I.obj
 refine wpAny_bind (wpAny_pure (wpAny_bind (wpAny_bind (wpAny_loadPart hx (wpAny_bind (PySem.W.Looks.here (s := { s with toks := s.toks + 1 }) (PySem.W.looks_clsIn X hc) ?_))))))
 rw [hd']
 refine wpAny_pure (a := some dx) (wpAny_bind (wpAny_pure (wpAny_bind ?_)))
 refine wpAny_nsSet1 (s := { s with toks := s.toks + 1 }) I.ns fun h' hn2 hs2 => ?_
 obtain ⟨oD, esD, epD, hoD, hdD, hcD⟩ := hn2.count (PySem.Within.cons name v hw)
 refine wpAny_bind (wpAny_lookBehind hoD (by rw [hdD]; exact pastItsLine_dict (Nat.le_trans hcD (by rw [List.length_cons]; omega))) ?_)
 exact wpAny_pure (h _ ⟨(hs2.2 _ (Ne.symm I.ne)).trans I.obj, hn2, I.ne⟩ hs2)
theorem make_map {R : Result → Shared → Prop} {vs : List Value} {kw : List (Str × Value)} (X : K.In s.heap) (hm : PySem.W.makesIn K C = true)
  (hi : PySem.W.findIn K (.ref C) "__init__" = some (some (.ref f))) (hf : PySem.W.typeIn K (.ref f) = some (.type "function"))
  (h : codeAny (model prog w) (A.under (.builtin "type.__call__" ⟨.ref C :: vs, kw⟩)) (.call (.ref f) ⟨.ref (s.heap.objs.size + 1) :: vs, kw⟩) (PySem.W.InitBack (s.heap.objs.size + 1) R)
   { s with heap := (s.heap.push PySem.W.emptyDict).push (PySem.W.instObj C s.heap.objs.size) }) :
  codeAny (model prog w) A (.call (.ref C) ⟨vs, kw⟩) R s := by
 obtain ⟨hh, g, d, t, os⟩ := s
 exact PySem.W.make_core (PySem.W.makes_of X hm) (PySem.W.looks_findIn X hi) (fun self => PySem.W.bind_fn X self hf) (.inl rfl) h
end
def putF (f : Str) (v : V) : List (Str × V) → List (Str × V)
 | [] => [(f, v)]
 | (g, x) :: r => if g = f then (g, v) :: r else (g, x) :: putF f v r
theorem lookup_putF (f g : Str) (v : V) : ∀ fs : List (Str × V), (putF f v fs).lookup g = if g = f then some v else fs.lookup g
 | [] => by
  show List.lookup g [(f, v)] = _
  by_cases h : g = f
  ·have hb : (g == f) = true := beq_iff_eq.mpr h
   simp only [List.lookup, hb, if_pos h]
  ·have hb : (g == f) = false := beq_eq_false_iff_ne.mpr h
   simp only [List.lookup, hb, if_neg h]
 | (k, x) :: r => by
  have ih := lookup_putF f g v r
  rw [show putF f v ((k, x) :: r) = (if k = f then (k, v) :: r else (k, x) :: putF f v r) from rfl]
  by_cases hk : k = f
  ·rw [if_pos hk]
   by_cases h : g = k
   ·have hb : (g == k) = true := beq_iff_eq.mpr h
    simp only [List.lookup, hb, if_pos (h.trans hk)]
   ·have hb : (g == k) = false := beq_eq_false_iff_ne.mpr h
    simp only [List.lookup, hb, if_neg (fun e : g = f => h (e.trans hk.symm))]
  ·rw [if_neg hk]
   by_cases h : g = k
   ·have hb : (g == k) = true := beq_iff_eq.mpr h
    simp only [List.lookup, hb, if_neg (fun e : g = f => hk (h.symm.trans e))]
   ·have hb : (g == k) = false := beq_eq_false_iff_ne.mpr h
    simp only [List.lookup, hb]
    exact ih
theorem keys_putF (f : Str) (v : V) : ∀ fs : List (Str × V), f ∈ (putF f v fs).map (·.1) ∧ ∀ g, g ∈ fs.map (·.1) → g ∈ (putF f v fs).map (·.1)
 | [] => ⟨by simp [putF], fun g h => by simp at h⟩
 | (k, x) :: r => by
  obtain ⟨i1, i2⟩ := keys_putF f v r
  rw [show putF f v ((k, x) :: r) = (if k = f then (k, v) :: r else (k, x) :: putF f v r) from rfl]
  by_cases hk : k = f
  ·rw [if_pos hk]
   subst hk
   exact ⟨by simp, fun g h => by simpa using h⟩
  ·rw [if_neg hk]
   refine ⟨?_, fun g h => ?_⟩
   ·rw [List.map_cons]
    exact List.mem_cons_of_mem _ i1
   ·rw [List.map_cons] at h ⊢
    rcases List.mem_cons.mp h with e | e
    ·exact List.mem_cons.mpr (.inl e)
    ·exact List.mem_cons_of_mem _ (i2 g e)
theorem length_putF (f : Str) (v : V) : ∀ fs : List (Str × V), (putF f v fs).length ≤ fs.length + 1
 | [] => by simp [putF]
 | (k, x) :: r => by
  have ih := length_putF f v r
  rw [show putF f v ((k, x) :: r) = (if k = f then (k, v) :: r else (k, x) :: putF f v r) from rfl]
  by_cases hk : k = f
  ·rw [if_pos hk, List.length_cons, List.length_cons]; omega
  ·rw [if_neg hk, List.length_cons, List.length_cons]; omega
theorem RelO.some_of {v : V} {o : Option Value} (r : RelO (some v) o) : ∃ u, o = some u ∧ RelV v u := by
 cases o with
 | none => exact (show False from r).elim
 | some u => exact ⟨u, rfl, r⟩
theorem RelO.none_of {o : Option Value} (r : RelO none o) : o = none := by
 cases o with
 | none => rfl
 | some u => exact (show False from r).elim
theorem handed_of {v : V} {u : Value} (r : RelV v u) : PySem.W.handedIn u = true := by
 cases v with
 | non => cases (show u = Value.none from r); rfl
 | bl b => cases (show u = Value.bool b from r); rfl
 | int i => obtain ⟨t, e⟩ := (show ∃ t, u = Value.int i t from r); cases e; rfl
 | str x => obtain ⟨t, e⟩ := (show ∃ t, u = Value.str x t from r); cases e; rfl
 | byt b => obtain ⟨t, e⟩ := (show ∃ t, u = Value.bytes b t from r); cases e; rfl
 | flt b => obtain ⟨t, e⟩ := (show ∃ t, u = Value.float b t from r); cases e; rfl
 | ref a => cases (show u = Value.ref a from r); rfl
 | ty n => cases (show u = Value.type n from r); rfl
section
variable {P : Program} {w : World} {H H' : Hp} {h h' : Heap} {a C dx : Addr} {fs fs' : List (Str × V)}
theorem ins_get (hok : HOk P w H h) (e : H a = some (.ins C dx fs)) : ∃ mA, ObjM h a dx C mA ∧ (∀ f, RelO (fs.lookup f) (mA f)) ∧ PySem.Within mA (fs.map (·.1)) ∧ fs.length ≤ 1000 ∧ H dx = some (.own a) := by
 obtain ⟨d, z, ne, ob, mA, n, r, q⟩ := (show ObjOk P w H h a (.ins C dx fs) from hok a _ e)
 exact ⟨mA, ⟨ob, n, ne⟩, r, q, z, d⟩
end
structure Cls (K : PySem.W.Frag) (C : Addr) : Prop where
 pg : PySem.W.plainGet K C Str.empty = true
 hd : PySem.W.hasDictIn K C = true
 po : PySem.W.plainOver K C = true
 sa : PySem.W.findIn K (.ref C) "__setattr__" = some (some (.builtin "object.__setattr__"))
theorem Cls.get {K : PySem.W.Frag} {C : Addr} (c : Cls K C) (f : Str) : PySem.W.plainGet K C f = true := c.pg
def NoAttr (K : PySem.W.Frag) (C : Addr) (f : Str) : Prop := PySem.W.findIn K (.ref C) f = some none
theorem NoAttr.taker {K : PySem.W.Frag} {C : Addr} {f : Str} (n : NoAttr K C f) : PySem.W.takerIn K C f = some none := by
 unfold PySem.W.takerIn
 rw [show PySem.W.findIn K (.ref C) f = some none from n]
 rfl
structure Con (K : PySem.W.Frag) (C : Addr) (f : Str) (v : V) (u : Value) : Prop where
 at_ : PySem.W.findIn K (.ref C) f = some (some u)
 rel : RelV v u
 get : PySem.W.specialIn K u "__get__" = some none
 cp : PySem.W.copiedNames.contains f = false
structure Meth (K : PySem.W.Frag) (C : Addr) (m : Str) (f : Addr) : Prop where
 at_ : PySem.W.findIn K (.ref C) m = some (some (.ref f))
 fn : PySem.W.isFn K (.ref f) = true
 kp : PySem.W.keepIn K (.ref f) = true
section
variable {X : Cx} {pins : List (Addr × Obj)} {σ : St} {H : Hp} {s : Shared} {a C dx : Addr} {fs : List (Str × V)} {f : Str} {v : V} {A : Around} {E : Value → Shared → Prop}
theorem getattr_ok {b : Bool} {Q : Value → Shared → Prop} (I : Inv X pins σ H s) (e : H a = some (.ins C dx fs)) (c : Cls X.K C) (n : NoAttr X.K C f) (l : fs.lookup f = some v)
  (h : ∀ u s', Inv X pins σ H s' → RelV v u → Q u s') : wpAny (model X.prog X.w) A (getAttr (.ref a) f b) Q E s := by
 obtain ⟨mA, O, r, _, _, _⟩ := ins_get I.hok e
 obtain ⟨u, hu, ru⟩ := RelO.some_of (v := v) (o := mA f) (by rw [← l]; exact r f)
 exact get_map I.kIn O (c.get f) c.hd n hu (handed_of ru) (h u _ (I.tok _) ru)
theorem getmeth_ok {m : Str} {g : Addr} {pl : Sem Bool} {Q : Value × List Value → Shared → Prop} (I : Inv X pins σ H s) (e : H a = some (.ins C dx fs)) (c : Cls X.K C) (k : Meth X.K C m g) (l : fs.lookup m = none)
  (h : Q (.ref g, [.ref a]) s) : wpAny (model X.prog X.w) A (getMethod (.ref a) m pl) Q E s := by
 obtain ⟨mA, O, r, _, _, _⟩ := ins_get I.hok e
 have hn : mA m = none := RelO.none_of (by rw [← l]; exact r m)
 exact get_meth I.kIn O (c.get m) k.at_ k.fn hn h
theorem setattr_ok {y : V} {u : Value} {Q : Unit → Shared → Prop} (I : Inv X pins σ H s) (e : H a = some (.ins C dx fs)) (c : Cls X.K C) (n : NoAttr X.K C f) (hl : fs.length < 1000) (ry : RelV y u)
  (h : ∀ s', Inv X pins σ (upd H a (.ins C dx (putF f y fs))) s' → Q () s') : wpAny (model X.prog X.w) A (setAttr (.ref a) f u) Q E s := by
 obtain ⟨mA, O, r, wi, _, ho⟩ := ins_get I.hok e
 have hz : (fs.map (·.1)).length ≤ sizeLine := by rw [List.length_map, sizeLine_eq]; omega
 refine set_map I.kIn O c.sa c.po n.taker c.hd wi hz fun h' O' sb => h _ ?_
 have hd : ∃ o, h'.get? dx = some o := let ⟨o, _, _, e', _⟩ := O'.ns; ⟨o, e'⟩
 refine I.write (x := a) (e := dx) (by rw [e]; exact True.intro) (.inr ho) (fun b q hb z => (sb.2 b hb).trans z) hd ?_
 refine ⟨by rw [upd_ne O.ne]; exact ho, ?_, O.ne, O'.obj, _, O'.ns, fun g => ?_, fun g hg => ?_⟩
 ·have := length_putF f y fs; omega
 ·show RelO ((putF f y fs).lookup g) (if g = f then some u else mA g)
  rw [lookup_putF]
  by_cases q : g = f
  ·rw [if_pos q, if_pos q]; exact ry
  ·rw [if_neg q, if_neg q]; exact r g
 ·by_cases q : g = f
  ·rw [q]; exact (keys_putF f y fs).1
  ·refine (keys_putF f y fs).2 g (wi g fun z => hg ?_)
   show (if g = f then some u else mA g) = none
   rw [if_neg q]; exact z
theorem Inv.made (I : Inv X pins σ H s) : Inv X pins σ (upd (upd H s.heap.objs.size (.own (s.heap.objs.size + 1))) (s.heap.objs.size + 1) (.ins C s.heap.objs.size []))
  { s with heap := (s.heap.push PySem.W.emptyDict).push (PySem.W.instObj C s.heap.objs.size) } := by
 have e1 : (s.heap.push PySem.W.emptyDict).get? s.heap.objs.size = some PySem.W.emptyDict := Heap.get?_push_size s.heap rfl
 have e2 : ((s.heap.push PySem.W.emptyDict).push (PySem.W.instObj C s.heap.objs.size)).get? (s.heap.objs.size + 1) = some (PySem.W.instObj C s.heap.objs.size) := by
  have := Heap.get?_push_size (s.heap.push PySem.W.emptyDict) (o := PySem.W.instObj C s.heap.objs.size) rfl
  rwa [Heap.size_push] at this
 have e3 : (s.heap.push PySem.W.emptyDict).Ns s.heap.objs.size (fun _ => none) := ⟨PySem.W.emptyDict, #[], _, e1, rfl, (fun e he => absurd he (by simp)), fun _ => rfl⟩
 have I1 := I.laid (a := s.heap.objs.size) (o := .own (s.heap.objs.size + 1)) (h' := s.heap.push PySem.W.emptyDict) (t' := s.toks) (fun b u q => Heap.get?_push_of_some _ q) (Nat.le_refl _) ⟨_, e1⟩
 refine I1.laid (a := s.heap.objs.size + 1) (o := .ins C s.heap.objs.size []) (t' := s.toks) (fun b u q => Heap.get?_push_of_some _ q) (Nat.le_of_eq (Heap.size_push _ _)) ?_
 have ne : s.heap.objs.size ≠ s.heap.objs.size + 1 := Nat.ne_of_lt (Nat.lt_succ_self _)
 refine ⟨by rw [upd_ne ne, upd_same], Nat.zero_le _, ne, e2, fun _ => none, (Heap.Ns1.of_empty e3).at fun o q => Heap.get?_push_of_some _ q, fun _ => True.intro, fun y hy => absurd rfl hy⟩
theorem attr_of {prog : Program} {w : World} {env : Env} {e : Expr} {f : Str} {pos : Pos} {s : Shared} {Q : Value → Shared → Prop} (hb : attributeBase e f env (eval e env) = eval e env)
  (h : wpAny (model prog w) A (eval e env) (fun o s₁ => wpAny (model prog w) A (getAttr o f true) Q E s₁) E s) : wpAny (model prog w) A (eval (.Attribute e f pos) env) Q E s :=
 Attribute_any_ h (by rw [arm_eval_Attribute, hb])
end
def tFld (K : PySem.W.Frag) (ta : TE) (f : Str) : TE := fun σ H Q => ta σ H fun x H1 => ∃ a C dx fs v, x = .ref a ∧ H1 a = some (.ins C dx fs) ∧ Cls K C ∧ NoAttr K C f ∧ fs.lookup f = some v ∧ Q v H1
def sFld (K : PySem.W.Frag) (ta tv : TE) (f : Str) : TS := fun D σ H => tv σ H fun y H1 => ta σ H1 fun x H2 => ∃ a C dx fs, x = .ref a ∧ H2 a = some (.ins C dx fs) ∧ Cls K C ∧ NoAttr K C f ∧ fs.length < 1000 ∧
 D.nx σ (upd H2 a (.ins C dx (putF f y fs)))
section
variable {X : Cx} {o e value : Expr} {f : Str} {pos pos' tpos : Pos} {ta tv : TE}
theorem pe_fld (he : PE X e ta) (hb : attributeBase e f X.env (eval e X.env) = eval e X.env) : PE X (.Attribute e f pos) (tFld X.K ta f) := by
 intro pins s σ H Q I h
 refine attr_of hb (thn (he pins s σ H _ I h) fun u s1 ⟨x, H1, I1, rx, a, C, dx, fs, v, ex, ea, c, n, l, q⟩ => ?_)
 subst ex
 obtain rfl : u = Value.ref a := rx
 exact getattr_ok I1 ea c n l fun u' s2 I2 ru => ⟨v, H1, I2, ru, q⟩
theorem ps_fld (ha : PE X o ta) (hv : PE X value tv) (hs : swapsWith value (some (.Attribute o f pos')) pos.line X.env = pure false) : PS X (.Assign [.Attribute o f pos'] value pos) (sFld X.K ta tv f) := by
 intro pins s σ H D I h
 refine plainObj_wpAny_Assign_Attribute (thn (hv pins s σ H _ I h) fun u s1 ⟨y, H1, I1, ry, q⟩ => thn (ha pins s1 σ H1 _ I1 q) fun ov s2 ⟨x, H2, I2, rx, a, C, dx, fs, ex, ea, c, n, l, q2⟩ => ?_) hs
 subst ex
 obtain rfl : ov = Value.ref a := rx
 exact setattr_ok I2 ea c n l ry fun s3 I3 => ⟨σ, _, I3, q2⟩
theorem methcall_of {pl : Sem Bool} {m : Str} {apos : Pos} {args : List Expr} {pins : List (Addr × Obj)} {s : Shared} {σ : St} {H : Hp} {Q : Value → Shared → Prop} {te : TE} (he : PE X e te) (I : Inv X pins σ H s)
  (h : te σ H fun x H1 => ∃ a C dx fs g, x = .ref a ∧ H1 a = some (.ins C dx fs) ∧ Cls X.K C ∧ Meth X.K C m g ∧ fs.lookup m = none ∧
   ∀ s1, Inv X pins σ H1 s1 → wpAny (model X.prog X.w) X.A (callWith pos (.ref g) [.ref a] (backTo pos (starEach args X.env)) (backToKw pos (keywordEach [] X.env))) Q X.xe s1)
  (ht : eval (.Call (.Attribute e m apos) args [] pos) X.env = (do
   let ov ← eval e X.env
   standAt apos.atName
   let (f, first) ← holding [ov] (getMethod ov m pl)
   callWith pos f first (backTo pos (starEach args X.env)) (backToKw pos (keywordEach [] X.env)))) :
  wpAny (model X.prog X.w) X.A (eval (.Call (.Attribute e m apos) args [] pos) X.env) Q X.xe s := by
 refine PySem.W.methodCall_KW (pl := pl) (thn (he pins s σ H _ I h) fun u s1 ⟨x, H1, I1, rx, a, C, dx, fs, g, ex, ea, c, k, l, q⟩ => ?_) ht
 subst ex
 obtain rfl : u = Value.ref a := rx
 exact getmeth_ok I1 ea c k l (q s1 I1)
end
section
variable {X : Cx} {pins : List (Addr × Obj)} {σ : St} {H : Hp} {s : Shared} {A : Around} {E : Value → Shared → Prop} {Q : Value → Shared → Prop} {c : Value} {b : Bool}
inductive TyOf (K : PySem.W.Frag) (H : Hp) : V → Value → Prop where
 | non : TyOf K H .non (.type "NoneType")
 | bl (x : Bool) : TyOf K H (.bl x) (.type "bool")
 | int (i : Int) : TyOf K H (.int i) (.type "int")
 | str (x : Str) : TyOf K H (.str x) (.type "str")
 | flt (x : UInt64) : TyOf K H (.flt x) (.type "float")
 | lst {a : Addr} {xs : List V} (e : H a = some (.lst xs)) : TyOf K H (.ref a) (.type "list")
 | frz {a : Addr} {o : Obj} {xs : List V} (e : H a = some (.frz o (.lst xs))) : TyOf K H (.ref a) (.type "list")
 | tup {a : Addr} {xs : List V} (e : H a = some (.tup xs)) : TyOf K H (.ref a) (.type "tuple")
 | dK {a : Addr} {kvs : List (Key × V)} (e : H a = some (.dK kvs)) : TyOf K H (.ref a) (.type "dict")
 | dT {a : Addr} {kvs : List (List Key × V)} (e : H a = some (.dT kvs)) : TyOf K H (.ref a) (.type "dict")
 | ins {a C dx : Addr} {fs : List (Str × V)} (e : H a = some (.ins C dx fs)) (cl : Cls K C) (ha : PySem.W.findIn K (.ref C) "__class__" = some (some (.builtin "object.__class__")))
   (hn : PySem.W.specialIn K (.builtin "object.__class__") "__get__" = some (some (.builtin "getset_descriptor.__get__"))) (htk : PySem.W.takesIn K (.builtin "object.__class__") = some true)
   (hm : PySem.W.mroIn K C (.type "object") = some true) : TyOf K H (.ref a) (.ref C)
theorem isinst_ok {x : V} {u t : Value} (I : Inv X pins σ H s) (rx : RelV x u) (ty : TyOf X.K H x t) (e : PySem.W.kitOne X.K t c = some b) (h : ∀ tk, Q (.bool b) { s with toks := tk }) :
  wpAny (model X.prog X.w) A (call (.builtin "isinstance") [u, c]) Q E s := by
 cases ty with
 | non => cases (show u = Value.none from rx); exact PySem.W.kia_one PySem.W.kitx_none I.kIn True.intro e (fun z => nomatch z) h
 | bl y => cases (show u = Value.bool y from rx); exact PySem.W.kia_one PySem.W.kitx_bool I.kIn True.intro e (fun z => nomatch z) h
 | int i => obtain ⟨t, q⟩ := (show ∃ t, u = Value.int i t from rx); cases q; exact PySem.W.kia_one PySem.W.kitx_int I.kIn True.intro e (fun z => nomatch z) h
 | str y => obtain ⟨t, q⟩ := (show ∃ t, u = Value.str y t from rx); cases q; exact PySem.W.kia_one PySem.W.kitx_str I.kIn True.intro e (fun z => nomatch z) h
 | flt y => obtain ⟨t, q⟩ := (show ∃ t, u = Value.float y t from rx); cases q; exact PySem.W.kia_one PySem.W.kitx_float I.kIn True.intro e (fun z => nomatch z) h
 | @lst a xs ea =>
  cases (show u = Value.ref a from rx)
  obtain ⟨_, _, n, _, h1⟩ := (show ObjOk X.prog X.w H s.heap a (.lst xs) from I.hok a _ ea)
  exact PySem.W.kia_one PySem.W.kitx_list I.kIn ⟨_, h1, rfl⟩ e (fun z => nomatch z) h
 | @frz a ob xs ea =>
  cases (show u = Value.ref a from rx)
  obtain ⟨_, _, _, n, _, h1⟩ := (show ObjOk X.prog X.w H s.heap a (.frz ob (.lst xs)) from I.hok a _ ea)
  exact PySem.W.kia_one PySem.W.kitx_list I.kIn ⟨_, h1, rfl⟩ e (fun z => nomatch z) h
 | @tup a xs ea =>
  cases (show u = Value.ref a from rx)
  obtain ⟨_, _, _, p⟩ := (show ObjOk X.prog X.w H s.heap a (.tup xs) from I.hok a _ ea)
  obtain ⟨o, h1, h2, _⟩ := p
  exact PySem.W.kia_one PySem.W.kitx_tuple I.kIn ⟨o, h1, h2⟩ e (fun z => nomatch z) h
 | @dK a kvs ea =>
  cases (show u = Value.ref a from rx)
  obtain ⟨_, _, vs, _, p⟩ := (show ObjOk X.prog X.w H s.heap a (.dK kvs) from I.hok a _ ea)
  obtain ⟨o, es, ep, h1, h2, _⟩ := p
  exact PySem.W.kia_one PySem.W.kitx_dict I.kIn ⟨o, h1, h2.1⟩ e (fun z => nomatch z) h
 | @dT a kvs ea =>
  cases (show u = Value.ref a from rx)
  obtain ⟨_, _, xs, _, o, es, ep, h1, h2, _⟩ := (show ObjOk X.prog X.w H s.heap a (.dT kvs) from I.hok a _ ea)
  exact PySem.W.kia_one PySem.W.kitx_dict I.kIn ⟨o, h1, h2.1⟩ e (fun z => nomatch z) h
 | @ins a C dx fs ea cl ha hn htk hm =>
  cases (show u = Value.ref a from rx)
  obtain ⟨mA, O, _⟩ := ins_get I.hok ea
  obtain ⟨od, J, _⟩ := O.look
  exact PySem.W.kia_one (PySem.W.kitx_own (cl.get _) cl.hd ha hn htk hm) I.kIn J e (fun z => nomatch z) h
end
structure Room (k : Nat) (A : Around) : Prop where
 hd : A.handled = none
 dp : A.depth + 3 * k + 5 < recursionLimit
 un : A.units + 16 * k + 200 < cLine
theorem Room.mono {j k : Nat} {A : Around} (r : Room k A) (h : j ≤ k) : Room j A := ⟨r.hd, by have := r.dp; omega, by have := r.un; omega⟩
theorem Room.deeper {k : Nat} {A : Around} (r : Room (k + 1) A) (env : Env) : Room k (A.deeper env) :=
 ⟨r.hd, by have := r.dp; show A.depth + 1 + 3 * k + 5 < _; omega, by have := r.un; show A.units + 3 + 16 * k + 200 < _; omega⟩
theorem Room.in1 {k : Nat} {A : Around} (r : Room (k + 1) A) : Room k A.in1 :=
 ⟨r.hd, by have := r.dp; show A.depth + 3 * k + 5 < _; omega, by have := r.un; show A.units + 1 + 16 * k + 200 < _; omega⟩
theorem make_depth {A : Around} {C : Addr} {us : List Value} {kw : List (Str × Value)} : (A.under (.builtin "type.__call__" ⟨.ref C :: us, kw⟩)).depth = A.depth + 1 := by
 first | rfl | simp [Around.under, Code.weight, Code.isCreation, Code.isGuard, Code.isCaller, Code.frames, Code.isFrame, guardIds]
theorem make_units {A : Around} {C : Addr} {us : List Value} {kw : List (Str × Value)} : (A.under (.builtin "type.__call__" ⟨.ref C :: us, kw⟩)).units = A.units + 1 := by
 first | rfl | simp [Around.under, Code.cUnits, Code.frames, Code.isFrame]
theorem Room.make {k : Nat} {A : Around} (r : Room (k + 1) A) (C : Addr) (us : List Value) (kw : List (Str × Value)) : Room k (A.under (.builtin "type.__call__" ⟨.ref C :: us, kw⟩)) :=
 ⟨r.hd, by have := r.dp; rw [make_depth]; omega, by have := r.un; rw [make_units]; omega⟩
theorem Room.depth {k : Nat} {A : Around} (r : Room k A) : A.depth < recursionLimit := by have := r.dp; omega
theorem Room.units {k : Nat} {A : Around} (r : Room k A) : A.units + 64 < cLine := by have := r.un; omega
def tNil : TA := fun _ H Q => Q [] H
def tCons (ta : TE) (tr : TA) : TA := fun σ H Q => ta σ H fun x H1 => tr σ H1 fun xs H2 => Q (x :: xs) H2
section
variable {X : Cx} {e : Expr} {es : List Expr} {te : TE} {t : TA} {pos : Pos}
theorem pa_nil : PA X [] tNil := fun _ _ _ _ H Q I h => Calls.spliced_nil ⟨[], H, I, .nil, h⟩
theorem pa_cons (ha : PE X e te) (hr : PA X es t) (hs : starEach (e :: es) X.env = (false, eval e X.env) :: starEach es X.env := by rfl) : PA X (e :: es) (tCons te t) := by
 intro pos pins s σ H Q I h
 rw [hs]
 show wpAny _ _ (spliced ((false, eval e X.env) :: backTo pos (starEach es X.env))) _ _ s
 refine Calls.spliced_cons (thn (ha pins s σ H _ I h) fun u s1 ⟨x, H1, I1, r1, q1⟩ => ?_)
 exact thn (hr pos pins s1 σ H1 _ I1 q1) fun us s2 ⟨xs, H2, I2, r2, q2⟩ => ⟨x :: xs, H2, I2, .cons r1 r2, q2⟩
def tTup (t : TA) : TE := fun σ H Q => t σ H fun xs H1 => xs.length ≤ sizeLine ∧ ∀ p, H1 p = none → Q (.ref p) (upd H1 p (.tup xs))
def tLst (t : TA) : TE := fun σ H Q => t σ H fun xs H1 => xs.length ≤ sizeLine ∧ ∀ p, H1 p = none → Q (.ref p) (upd H1 p (.lst xs))
theorem pe_tup {x1} (h : PA X es t) : PE X (.Tuple es x1 pos) (tTup t) := by
 intro pins s σ H Q I hq
 refine wpAny_Tuple_spliced (thn (h pos pins s σ H _ I hq) fun us s1 ⟨xs, H1, I1, r, z, q⟩ => ⟨by rw [← r.length]; exact z, ?_⟩)
 have hf : H1 s1.heap.objs.size = none := I1.hok.fresh (Nat.le_refl _)
 refine ⟨.ref s1.heap.objs.size, upd H1 s1.heap.objs.size (.tup xs), I1.laid (t' := s1.toks) (fun b u e => Heap.get?_push_of_some _ e) (Nat.le_refl _) ?_, rfl, q _ hf⟩
 exact ⟨z, us, r, ⟨_, Heap.get?_push_size _ rfl, rfl, _, rfl⟩⟩
theorem pe_lst (h : PA X es t) : PE X (.List es pos) (tLst t) := by
 intro pins s σ H Q I hq
 refine wpAny_List_spliced (thn (h pos pins s σ H _ I hq) fun us s1 ⟨xs, H1, I1, r, z, q⟩ => ⟨by rw [← r.length]; exact z, ?_⟩)
 have hf : H1 s1.heap.objs.size = none := I1.hok.fresh (Nat.le_refl _)
 refine ⟨.ref s1.heap.objs.size, upd H1 s1.heap.objs.size (.lst xs), I1.laid (t' := s1.toks) (fun b u e => Heap.get?_push_of_some _ e) (Nat.le_refl _) ?_, rfl, q _ hf⟩
 exact ⟨z, us, 0, r, Heap.get?_push_size _ rfl⟩
end
abbrev Sp := List V → Hp → VK → XK → Prop
abbrev CXT := List Env → Hp → Shared → XK → Value → Shared → Prop
structure Env0 (P : Program) (w : World) (K : PySem.W.Frag) (mg : Str → Option Value) (base : Heap) (A : Around) (outer : List Env) (s : Shared) (H : Hp) : Prop where
 frames : A.frames = some outer
 mod : Mod K mg base
 bs : ∀ b o, base.get? b = some o → s.heap.get? b = some o ∧ H b = none
 bsz : base.objs.size ≤ s.heap.objs.size
 funs : s.heap.FunFrames base outer
 frf : ∀ b ∈ frs outer, H b = none
 hok : HOk P w H s.heap
 bare : AllBare s.gens
def CE (outer : List Env) (P : Program) (w : World) (H : Hp) (s : Shared) (Q : VK) (u : Value) (s' : Shared) : Prop :=
 ∃ v H', s'.os = s.os ∧ AllBare s'.gens ∧ Un (frs outer) [] H H' s.heap s'.heap ∧ HOk P w H' s'.heap ∧ RelV v u ∧ Q v H'
def CR (CX : CXT) (outer : List Env) (P : Program) (w : World) (H : Hp) (s : Shared) (Q : VK) (E : XK) (r : Result) (s' : Shared) : Prop :=
 match r with
 | .ok (.ret u) => CE outer P w H s Q u s'
 | .ok _ => False
 | .error e => CX outer H s E e s'
structure FnOk (P : Program) (w : World) (K : PySem.W.Frag) (mg : Str → Option Value) (base : Heap) (CX : CXT) (k : Nat) (f : Addr) (fd : FuncData) (ps : List Str) (sp : Sp) : Prop where
 len : ∀ vs H Q E, sp vs H Q E → vs.length = ps.length
 run : ∀ (A : Around) (outer : List Env) (s : Shared) (H : Hp) (args : Args) (us : List Value) (vs : List V) (Q : VK) (E : XK), Room k A → Env0 P w K mg base A outer s H → BindsTo s fd args (ps.zip us) → Vals vs us → sp vs H Q E →
  codeAny (model P w) A (.call (.ref f) args) (CR CX outer P w H s Q E) s
theorem Env0.make {P : Program} {w : World} {K : PySem.W.Frag} {mg : Str → Option Value} {base : Heap} {A : Around} {outer : List Env} {s : Shared} {H : Hp} (e : Env0 P w K mg base A outer s H) (C : Addr) (us : List Value) (kw : List (Str × Value)) :
  Env0 P w K mg base (A.under (.builtin "type.__call__" ⟨.ref C :: us, kw⟩)) outer s H := ⟨by first | exact e.frames | (simpa [Around.under, Code.envs, Code.isFrame, pushEnvs] using e.frames), e.mod, e.bs, e.bsz, e.funs, e.frf, e.hok, e.bare⟩
theorem Env0.in1 {P : Program} {w : World} {K : PySem.W.Frag} {mg : Str → Option Value} {base : Heap} {A : Around} {outer : List Env} {s : Shared} {H : Hp} (e : Env0 P w K mg base A outer s H) :
  Env0 P w K mg base A.in1 outer s H := ⟨e.frames, e.mod, e.bs, e.bsz, e.funs, e.frf, e.hok, e.bare⟩
section
variable {X : Cx} {pins : List (Addr × Obj)} {σ : St} {H : Hp} {s s' : Shared}
theorem Inv.env0 (I : Inv X pins σ H s) : Env0 X.prog X.w X.K X.mg X.base X.A X.stack s H :=
 ⟨I.ok.frames, I.ok.mod, I.bs, Nat.le_trans I.ok.bsz I.sz, I.stack, I.stkFree, I.hok, I.bare⟩
theorem Inv.after {Q : VK} {u : Value} (I : Inv X pins σ H s) (h : CE X.stack X.prog X.w H s Q u s') : EP X pins σ Q u s' := by
 obtain ⟨v, H', os, bare, un, hok, r, q⟩ := h
 obtain ⟨hh, g, d, t, os'⟩ := s'
 obtain rfl : os' = s.os := os
 exact ⟨v, H', I.call (h' := hh) (g' := g) (d' := d) (t' := t) (ch := []) un hok bare (fun b z => absurd z (by simp)), r, q⟩
end
def tCall (sp : Sp) (dvs : List V) (E : XK) (t : TA) : TE := fun σ H Q => t σ H fun vs H1 => sp (vs ++ dvs) H1 Q E
def tMeth (C : Addr) (m : Str) (sp : Sp) (dvs : List V) (E : XK) (ta : TE) (t : TA) : TE := fun σ H Q => ta σ H fun x H1 => ∃ a dx fs, x = .ref a ∧ H1 a = some (.ins C dx fs) ∧ fs.lookup m = none ∧
 t σ H1 fun vs H2 => sp (x :: (vs ++ dvs)) H2 Q E
def tMake (C : Addr) (sp : Sp) (dvs : List V) (E : XK) (t : TA) : TE := fun σ H Q => t σ H fun vs H1 => ∀ x dx, H1 x = none → H1 dx = none → dx ≠ x →
 sp (.ref x :: (vs ++ dvs)) (upd (upd H1 dx (.own x)) x (.ins C dx [])) (fun v H2 => v = .non ∧ Q (.ref x) H2) E
def Binds (K : PySem.W.Frag) (fd : FuncData) (ps : List Str) (ds : List Value) : Prop :=
 ∀ (s : Shared) (us : List Value), K.In s.heap → (us ++ ds).length = ps.length → BindsTo s fd ⟨us, []⟩ (ps.zip (us ++ ds))
theorem Binds.all {K : PySem.W.Frag} {fd : FuncData} {ps : List Str} (h : ∀ us : List Value, us.length = ps.length → bindArgs fd ⟨us, []⟩ = pure (ps.zip us)) : Binds K fd ps [] := fun s us _ hl => by
 rw [List.append_nil] at hl ⊢
 exact .of_eq (h us hl)
def Passes (CX : CXT) (X : Cx) (E : XK) : Prop := ∀ (pins : List (Addr × Obj)) (σ : St) (H : Hp) (s : Shared) (e : Value) (s' : Shared), Inv X pins σ H s → CX X.stack H s E e s' → X.xe e s'
section
variable {X : Cx} {CX : CXT} {k : Nat} {f C : Addr} {fd : FuncData} {ps : List Str} {sp : Sp} {dvs : List V} {ds : List Value} {E : XK} {x m : Str} {p pos apos : Pos} {e o : Expr} {es : List Expr} {ta : TE} {t : TA}
theorem run_fn {pins : List (Addr × Obj)} {σ : St} {H : Hp} {s : Shared} {Q : VK} {us : List Value} {vs : List V} (F : FnOk X.prog X.w X.K X.mg X.base CX k f fd ps sp) (hr : Room k X.A) (hb : Binds X.K fd ps ds) (hd : Vals dvs ds) (hx : Passes CX X E)
  (I : Inv X pins σ H s) (r : Vals vs us) (h : sp (vs ++ dvs) H Q E) : wpAny (model X.prog X.w) X.A (call (.ref f) us) (EP X pins σ Q) X.xe s := by
 have r2 : Vals (vs ++ dvs) (us ++ ds) := r.append hd
 have hl : (us ++ ds).length = ps.length := by rw [← r2.length]; exact F.len _ _ _ _ h
 refine wpAny_call (codeAny_mono (F.run X.A X.stack s H ⟨us, []⟩ (us ++ ds) (vs ++ dvs) Q E hr I.env0 (hb s us I.kIn hl) r2 h) fun r s' hq => ?_)
 cases r with
 | error e => exact hx pins σ H s e s' I hq
 | ok fl =>
  cases fl with
  | ret u => exact I.after hq
  | next => exact False.elim hq
  | brk => exact False.elim hq
  | cont => exact False.elim hq
theorem pe_call (F : FnOk X.prog X.w X.K X.mg X.base CX k f fd ps sp) (hr : Room k X.A) (hg : Gl X x) (hm : X.mg x = some (.ref f)) (hk : PySem.W.keepIn X.K (.ref f) = true) (hb : Binds X.K fd ps ds) (hd : Vals dvs ds) (hx : Passes CX X E)
  (ha : PA X (e :: es) t) (hdb : (x == ("__debug__" : Str)) = false := by decide) (he : starEach (e :: es) X.env = (false, eval e X.env) :: starEach es X.env := by rfl) (hpl : (backTo pos (starEach es X.env)).any (·.1) = false := by rfl) :
  PE X (.Call (.Name x p) (e :: es) [] pos) (tCall sp dvs E t) := by
 intro pins s σ H Q I h
 refine wpAny_Call_Name_kw (ld_glob I hg hm ?_ hdb)
 refine PySem.W.callWith_K (h₀ := X.base) I.ok.mod.kin hk (thn (ha pos pins s σ H _ I h) fun us s1 ⟨vs, H1, I1, r, q⟩ => ⟨I1.kIn, ?_⟩) he hpl
 exact run_fn F hr hb hd hx I1 r q
theorem pe_meth {pl : Sem Bool} (he : PE X o ta) (c : Cls X.K C) (hm : Meth X.K C m f) (F : FnOk X.prog X.w X.K X.mg X.base CX k f fd ps sp) (hr : Room k X.A) (hb : Binds X.K fd ps ds) (hd : Vals dvs ds) (hx : Passes CX X E) (ha : PA X (e :: es) t)
  (hst : starEach (e :: es) X.env = (false, eval e X.env) :: starEach es X.env := by rfl) (hpl : (backTo pos (starEach es X.env)).any (·.1) = false := by rfl)
  (ht : eval (.Call (.Attribute o m apos) (e :: es) [] pos) X.env = (do
   let ov ← eval o X.env
   standAt apos.atName
   let (f, first) ← holding [ov] (getMethod ov m pl)
   callWith pos f first (backTo pos (starEach (e :: es) X.env)) (backToKw pos (keywordEach [] X.env))) := by rfl) :
  PE X (.Call (.Attribute o m apos) (e :: es) [] pos) (tMeth C m sp dvs E ta t) := by
 intro pins s σ H Q I h
 refine PySem.W.methodCall_KW (pl := pl) (thn (he pins s σ H _ I h) fun u s1 ⟨x, H1, I1, rx, a, dx, fs, ex, ea, l, q⟩ => ?_) ht
 subst ex
 obtain rfl : u = Value.ref a := rx
 refine getmeth_ok I1 ea c hm l ?_
 refine PySem.W.callWith_K (first := [.ref a]) (h₀ := X.base) I.ok.mod.kin hm.kp (thn (ha pos pins s1 σ H1 _ I1 q) fun us s2 ⟨vs, H2, I2, r, q2⟩ => ⟨I2.kIn, ?_⟩) hst hpl
 exact run_fn (us := .ref a :: us) (vs := .ref a :: vs) F hr hb hd hx I2 (.cons rfl r) q2
theorem pe_meth0 {pl : Sem Bool} (he : PE X o ta) (c : Cls X.K C) (hm : Meth X.K C m f) (F : FnOk X.prog X.w X.K X.mg X.base CX k f fd ps sp) (hr : Room k X.A) (hb : Binds X.K fd ps ds) (hd : Vals dvs ds) (hx : Passes CX X E)
  (ht : eval (.Call (.Attribute o m apos) [] [] pos) X.env = (do
   let ov ← eval o X.env
   standAt apos.atName
   let (f, first) ← holding [ov] (getMethod ov m pl)
   callWith pos f first (backTo pos (starEach [] X.env)) (backToKw pos (keywordEach [] X.env))) := by rfl) :
  PE X (.Call (.Attribute o m apos) [] [] pos) (tMeth C m sp dvs E ta tNil) := by
 intro pins s σ H Q I h
 refine PySem.W.methodCall_KW (pl := pl) (thn (he pins s σ H _ I h) fun u s1 ⟨x, H1, I1, rx, a, dx, fs, ex, ea, l, q⟩ => ?_) ht
 subst ex
 obtain rfl : u = Value.ref a := rx
 refine getmeth_ok I1 ea c hm l ?_
 exact PySem.W.callWith_K0 (first := [.ref a]) I1.kIn hm.kp (run_fn (us := [.ref a]) (vs := [.ref a]) F hr hb hd hx I1 (.cons rfl .nil) q)
structure Mk (K : PySem.W.Frag) (C f : Addr) : Prop where
 makes : PySem.W.makesIn K C = true
 init : PySem.W.findIn K (.ref C) "__init__" = some (some (.ref f))
 fn : PySem.W.isFn K (.ref f) = true
 kp : PySem.W.keepIn K (.ref C) = true
theorem run_make {pins : List (Addr × Obj)} {σ : St} {H : Hp} {s : Shared} {Q : VK} {us : List Value} {vs : List V} (M : Mk X.K C f) (F : FnOk X.prog X.w X.K X.mg X.base CX k f fd ps sp) (hr : Room (k + 1) X.A) (hb : Binds X.K fd ps ds) (hd : Vals dvs ds)
  (hx : Passes CX X E) (I : Inv X pins σ H s) (r : Vals vs us)
  (h : ∀ x dx, H x = none → H dx = none → dx ≠ x → sp (.ref x :: (vs ++ dvs)) (upd (upd H dx (.own x)) x (.ins C dx [])) (fun v H2 => v = .non ∧ Q (.ref x) H2) E) :
  wpAny (model X.prog X.w) X.A (call (.ref C) us) (EP X pins σ Q) X.xe s := by
 have hq := h (s.heap.objs.size + 1) s.heap.objs.size (I.hok.fresh (Nat.le_succ _)) (I.hok.fresh (Nat.le_refl _)) (Nat.ne_of_lt (Nat.lt_succ_self _))
 have I2 := Inv.made (C := C) I
 have r2 : Vals (V.ref (s.heap.objs.size + 1) :: (vs ++ dvs)) (Value.ref (s.heap.objs.size + 1) :: (us ++ ds)) := .cons rfl (r.append hd)
 have hl : (Value.ref (s.heap.objs.size + 1) :: us ++ ds).length = ps.length := by
  have e := r2.length
  rw [F.len _ _ _ _ hq] at e
  exact e.symm
 refine wpAny_call (make_map (f := f) I.kIn M.makes M.init (beq_iff_eq.mp M.fn) (codeAny_mono (F.run _ X.stack _ _ ⟨Value.ref (s.heap.objs.size + 1) :: us, []⟩ (Value.ref (s.heap.objs.size + 1) :: (us ++ ds)) _ _ E (hr.make C us [])
  (I2.env0.make C us []) (hb _ (Value.ref (s.heap.objs.size + 1) :: us) I2.kIn hl) r2 hq) fun r s' hq' => ?_))
 cases r with
 | error e => exact hx pins σ _ _ e s' I2 hq'
 | ok fl =>
  cases fl with
  | ret u =>
   obtain ⟨v, H', I3, rv, ev, q3⟩ := I2.after hq'
   subst ev
   exact ⟨rv, ⟨V.ref (s.heap.objs.size + 1), H', I3, rfl, q3⟩⟩
  | next => exact False.elim hq'
  | brk => exact False.elim hq'
  | cont => exact False.elim hq'
theorem pe_make (M : Mk X.K C f) (F : FnOk X.prog X.w X.K X.mg X.base CX k f fd ps sp) (hr : Room (k + 1) X.A) (hg : Gl X x) (hm : X.mg x = some (.ref C)) (hb : Binds X.K fd ps ds) (hd : Vals dvs ds) (hx : Passes CX X E)
  (ha : PA X (e :: es) t) (hdb : (x == ("__debug__" : Str)) = false := by decide) (he : starEach (e :: es) X.env = (false, eval e X.env) :: starEach es X.env := by rfl) (hpl : (backTo pos (starEach es X.env)).any (·.1) = false := by rfl) :
  PE X (.Call (.Name x p) (e :: es) [] pos) (tMake C sp dvs E t) := by
 intro pins s σ H Q I h
 refine wpAny_Call_Name_kw (ld_glob I hg hm ?_ hdb)
 refine PySem.W.callWith_K (h₀ := X.base) I.ok.mod.kin M.kp (thn (ha pos pins s σ H _ I h) fun us s1 ⟨vs, H1, I1, r, q⟩ => ⟨I1.kIn, ?_⟩) he hpl
 exact run_make M F hr hb hd hx I1 r q
end
def PK (X : Cx) (kws : List Keyword) (t : TA) : Prop :=
 ∀ (pos : Pos) (pins : List (Addr × Obj)) (s : Shared) (σ : St) (H : Hp) (Q : List V → Hp → Prop), Inv X pins σ H s → t σ H Q → wpAny (model X.prog X.w) X.A (evalAll ((backToKw pos (keywordEach kws X.env)).map (·.2))) (AP X pins σ Q) X.xe s
section
variable {X : Cx} {CX : CXT} {k : Nat} {f C : Addr} {fd : FuncData} {ps ks : List Str} {sp : Sp} {E : XK} {x m : Str} {p pos apos kpos : Pos} {e o : Expr} {es : List Expr} {kws : List Keyword} {te ta : TE} {t tk : TA} {nm : Option Str}
structure KBinds (K : PySem.W.Frag) (fd : FuncData) (ps ks : List Str) (g : List Value → List Value → List Value) (gV : List V → List V → List V) : Prop where
 to : ∀ (s : Shared) (us ws : List Value), K.In s.heap → (g us ws).length = ps.length → BindsTo s fd ⟨us, ks.zip ws⟩ (ps.zip (g us ws))
 rel : ∀ {vs : List V} {us : List Value} {zs : List V} {ws : List Value}, Vals vs us → Vals zs ws → Vals (gV vs zs) (g us ws)
variable {g : List Value → List Value → List Value} {gV : List V → List V → List V}
end
structure FnScope (N P : List Str) (sc : Scope) : Prop where
 kind : sc.kind = .function
 co : sc.isCoroutine = false
 gen : sc.isGenerator = false
 nd : N.Nodup
 pre : N.take P.length = P
 par : ∀ x ∈ P, sc.names.lookup x = some .local ∨ sc.names.lookup x = some .cell
 nofree : ∀ y ∈ sc.names, y.2 ≠ .free
theorem bindL_out {kindOf : Str → Option NameKind} {x : Str} : ∀ {binds : List (Str × Value)} {m : Str → Option Value}, (∀ v, (x, v) ∉ binds) → bindL kindOf binds m x = m x
 | [], _, _ => rfl
 | (n, v) :: r, m, h => by
  unfold bindL
  rw [bindL_out fun w hw => h w (List.mem_cons_of_mem _ hw)]
  split
  ·have : x ≠ n := by rintro rfl; exact h v List.mem_cons_self
   simp [this]
  ·rfl
theorem bindC_out {kindOf : Str → Option NameKind} {x : Str} : ∀ {binds : List (Str × Value)} {m : Str → Option Value}, (∀ v, (x, v) ∉ binds) → bindC kindOf binds m x = m x
 | [], _, _ => rfl
 | (n, v) :: r, m, h => by
  unfold bindC
  rw [bindC_out fun w hw => h w (List.mem_cons_of_mem _ hw)]
  split
  ·rfl
  ·have : x ≠ n := by rintro rfl; exact h v List.mem_cons_self
   simp [this]
theorem bindL_get {kindOf : Str → Option NameKind} {x : Str} {v : Value} : ∀ {P : List Str} {vs : List Value} {i : Nat} {m : Str → Option Value}, P.Nodup → P[i]? = some x → vs[i]? = some v → kindOf x = some .local →
  bindL kindOf (P.zip vs) m x = some v
 | [], _, _, _, _, h, _, _ => by simp at h
 | _ :: _, [], _, _, _, _, h, _ => by simp at h
 | p :: P, w :: vs, 0, m, nd, h1, h2, hk => by
  simp at h1 h2; subst h1; subst h2
  show bindL kindOf ((p, w) :: P.zip vs) m p = _
  unfold bindL
  rw [bindL_out fun v hv => (List.nodup_cons.mp nd).1 (List.of_mem_zip hv).1, if_pos hk]
  simp
 | p :: P, w :: vs, i + 1, m, nd, h1, h2, hk => by
  show bindL kindOf ((p, w) :: P.zip vs) m x = _
  unfold bindL
  exact bindL_get (i := i) (List.nodup_cons.mp nd).2 (by simpa using h1) (by simpa using h2) hk
theorem bindC_get {kindOf : Str → Option NameKind} {x : Str} {v : Value} : ∀ {P : List Str} {vs : List Value} {i : Nat} {m : Str → Option Value}, P.Nodup → P[i]? = some x → vs[i]? = some v → kindOf x ≠ some .local →
  bindC kindOf (P.zip vs) m x = some v
 | [], _, _, _, _, h, _, _ => by simp at h
 | _ :: _, [], _, _, _, _, h, _ => by simp at h
 | p :: P, w :: vs, 0, m, nd, h1, h2, hk => by
  simp at h1 h2; subst h1; subst h2
  show bindC kindOf ((p, w) :: P.zip vs) m p = _
  unfold bindC
  rw [bindC_out fun v hv => (List.nodup_cons.mp nd).1 (List.of_mem_zip hv).1, if_neg hk]
  simp
 | p :: P, w :: vs, i + 1, m, nd, h1, h2, hk => by
  show bindC kindOf ((p, w) :: P.zip vs) m x = _
  unfold bindC
  exact bindC_get (i := i) (List.nodup_cons.mp nd).2 (by simpa using h1) (by simpa using h2) hk
def start (N : List Str) (vs : List V) : St := vs.map some ++ List.replicate (N.length - vs.length) none
def cxOf (CX : CXT) (P : Program) (w : World) (K : PySem.W.Frag) (mg : Str → Option Value) (base : Heap) (N : List Str) (qual : Str) (scope : Scope) (f : Addr) (cd : Value) (A : Around) (outer : List Env) (s : Shared) (H : Hp) (E : XK) : Cx where
 prog := P
 w := w
 K := K
 mg := mg
 base := base
 A := A.deeper (envOfC qual scope s.heap.objs.size f cd)
 N := N
 s₀ := s
 H₀ := H
 env := envOfC qual scope s.heap.objs.size f cd
 outer := outer
 stack := envOfC qual scope s.heap.objs.size f cd :: outer
 ex := []
 calm := true
 fn := fun _ => true
 pn := []
 xe := fun e s' => wpAny (model P w) (A.deeper (envOfC qual scope s.heap.objs.size f cd)) (leaving (envOfC qual scope s.heap.objs.size f cd) e) (fun _ s'' => CX outer H s E e s'') (fun e' s'' => CX outer H s E e' s'') s'
theorem cell_has {sc : Scope} {n : Nat} {x : Str} (h : sc.names.lookup x = some .cell) : ∃ c, (cellsFrom n sc.names []).lookup x = some c := by
 have q := PySem.W.cellsFrom_some sc.names n [] (.inl h)
 exact Option.isSome_iff_exists.mp q
theorem inv_start {CX : CXT} {P : Program} {w : World} {K : PySem.W.Frag} {mg : Str → Option Value} {base : Heap} {N ps : List Str} {qual : Str} {scope : Scope} {f : Addr} {cd : Value} {A : Around} {outer : List Env} {s s1 : Shared} {H : Hp} {E : XK} {us : List Value} {vs : List V}
  (S : FnScope N ps scope) (hd : A.handled = none) (e0 : Env0 P w K mg base A outer s H) (hl : vs.length = ps.length) (r : Vals vs us)
  (x : InCallC s s.heap.objs.size (bindL (envOfC qual scope s.heap.objs.size f cd).kindOf (ps.zip us) fun _ => none) (cellsFrom (s.heap.objs.size + 1) scope.names []) (bindC (envOfC qual scope s.heap.objs.size f cd).kindOf (ps.zip us) fun _ => none) s1) :
  Inv (cxOf CX P w K mg base N qual scope f cd A outer s H E) [] (start N vs) H s1 := by
 have hpl : ps.length ≤ N.length := by have := congrArg List.length S.pre; rw [List.length_take] at this; omega
 obtain ⟨h1, tk, rfl, hk⟩ := x.done
 have noA : ∀ b : Addr, b ∉ (cxOf CX P w K mg base N qual scope f cd A outer s H E).ex := fun b z => absurd (show b ∈ ([] : List Addr) from z) (by simp)
 refine ⟨⟨e0.mod, S.kind, rfl, rfl, Nat.le_refl _, fun y z c h1 h2 => ?_, fun y hy => ?_, fun y c _ h => ?_, fun _ => hd, Around.frames_deeper e0.frames, .inr ⟨rfl, rfl⟩, fun b z => absurd z (noA b), e0.bs, e0.bsz, fun b _ _ => noA b, fun b z => absurd z (noA b), e0.funs, e0.frf⟩,
  rfl, e0.bare, Un.kept hk, ⟨_, x.toInCall.ns, fun i y v h1 h2 h3 => ?_⟩, fun y c h => ⟨_, x.cell y c h⟩, e0.hok.fresh (Nat.le_refl _), fun y c h => ?_, fun p hp => absurd (show p ∈ ([] : List (Addr × Obj)) from hp) (by simp), e0.hok.kept hk, ?_⟩
 ·exact name_of_addr x.apart (PySem.mem_of_lookup h1) (PySem.mem_of_lookup h2)
 ·have hy : scope.names.lookup y = some .cell ∨ scope.names.lookup y = some .free := hy
  rcases hy with hy | hy
  ·exact cell_has hy
  ·exact absurd rfl (S.nofree _ (PySem.mem_of_lookup hy))
 ·exact Nat.le_of_lt (x.above y c (PySem.mem_of_lookup h))
 ·have hi : i < vs.length := by
   unfold start at h2
   by_cases hi : i < vs.length
   ·exact hi
   ·rw [List.getElem?_append_right (by simpa using hi)] at h2
    rw [List.getElem?_replicate] at h2
    split at h2 <;> cases h2
  have ha : vs[i]? = some v := by
   unfold start at h2
   rw [List.getElem?_append_left (by simpa using hi), List.getElem?_map] at h2
   cases e : vs[i]? with
   | none => rw [e] at h2; cases h2
   | some a => rw [e] at h2; cases h2; rfl
  obtain ⟨u, hu, rv⟩ := r.get ha
  have hp : ps[i]? = some y := by
   rw [← S.pre, List.getElem?_take_of_lt (by omega)]; exact h1
  have ndP : ps.Nodup := by rw [← S.pre]; exact S.nd.sublist (List.take_sublist _ _)
  refine ⟨u, rv, ?_⟩
  rcases S.par y (List.mem_of_getElem? hp) with k | k
  ·exact .inl ⟨k, bindL_get ndP hp hu k⟩
  ·obtain ⟨c, e⟩ := cell_has (n := s.heap.objs.size + 1) k
   refine .inr ⟨.inl k, c, e, ?_⟩
   have q := x.cell y c e
   rw [bindC_get ndP hp hu (by show scope.names.lookup y ≠ _; rw [k]; decide)] at q
   exact q
 ·exact e0.hok.fresh (Nat.le_of_lt (x.above y c (PySem.mem_of_lookup h)))
 ·unfold start
  show _ = N.length
  rw [List.length_append, List.length_map, List.length_replicate]
  omega
theorem fn_of {CX : CXT} {P : Program} {w : World} {K : PySem.W.Frag} {mg : Str → Option Value} {base : Heap} {k : Nat} {f : Addr} {name qual : Str} {params : Arguments} {body : List Stmt} {scope : Scope} {dV kV doc pm cdv ct oc : Value} {an od : Option Addr}
  {osl : Array (Option Value)} {N ps : List Str} {sp : Sp} (lk : K.lookup f = some ⟨oc, od, .func (PySem.W.fnOf name qual params body scope dV kV doc pm an cdv ct), osl⟩) (hcd : PySem.W.codeIn K cdv qual = true) (S : FnScope N ps scope)
  (len : ∀ vs H Q E, sp vs H Q E → vs.length = ps.length)
  (hbody : ∀ (A : Around) (outer : List Env) (s : Shared) (H : Hp) (vs : List V) (Q : VK) (E : XK), Room k (A.deeper (envOfC qual scope s.heap.objs.size f cdv)) → sp vs H Q E →
   ∃ t, PSs (cxOf CX P w K mg base N qual scope f cdv A outer s H E) body t ∧ t { nx := fun _ H' => Q .non H', rt := Q } (start N vs) H) :
  FnOk P w K mg base CX (k + 1) f (PySem.W.fnOf name qual params body scope dV kV doc pm an cdv ct) ps sp := by
 refine ⟨len, fun A outer s H args us vs Q E hr e0 hb r hsp => ?_⟩
 have hl := len _ _ _ _ hsp
 have KX : K.In s.heap := e0.mod.kin.keeps fun b o e => (e0.bs b o e).1
 have lim : s.heap.NoLimit := e0.mod.nolimit.keeps fun b o e => (e0.bs b o e).1
 have hkind : ∀ y ∈ ps.zip us, scope.names.lookup y.1 = some .local ∨ (scope.names.lookup y.1 = some .cell ∧ ((cellsFrom (s.heap.objs.size + 1) scope.names []).lookup y.1).isSome = true) := fun ⟨n, v⟩ hy => by
  rcases S.par n (List.of_mem_zip hy).1 with q | q
  ·exact .inl q
  ·exact .inr ⟨q, PySem.W.cellsFrom_some _ _ _ (.inl q)⟩
 refine codeAny_call_function hr.depth (KX _ _ lk) rfl S.co S.gen rfl (PySem.W.codeRec_of KX hcd) (hb _ _ _ _ ?_)
 refine wpAny_newFunctionEnv_cells S.kind hkind fun env he s1 x => ?_
 subst he
 refine ⟨lim.keeps x.toInCall.keep, codeAny_func ?_⟩
 obtain ⟨t, ht, hq⟩ := hbody A outer s H vs Q E (hr.deeper _) hsp
 have I : Inv (cxOf CX P w K mg base N qual scope f cdv A outer s H E) [] (start N vs) H s1 := inv_start S hr.hd e0 hl r x
 refine wpAny_mono (ht [] s1 (start N vs) H _ I hq) (fun fl s' hs => ?_) fun e s' hs => hs
 have fin : ∀ {σ' : St} {H' : Hp} {v : V} {u : Value}, Inv (cxOf CX P w K mg base N qual scope f cdv A outer s H E) [] σ' H' s' → RelV v u → Q v H' → CE outer P w H s Q u s' :=
  fun {σ' H' v u} J rv q => ⟨v, H', J.os, J.bare, J.base, J.hok, rv, q⟩
 cases fl with
 | ret u =>
  obtain ⟨v, σ', H', J, rv, q⟩ := hs
  exact fin J rv q
 | next =>
  obtain ⟨σ', H', J, q⟩ := hs
  exact fin (v := V.non) (u := Value.none) J rfl q
 | brk =>
  obtain ⟨_, _, _, q⟩ := hs
  exact False.elim q
 | cont =>
  obtain ⟨_, _, _, q⟩ := hs
  exact False.elim q
section
variable {X : Cx} {x : Str} {p pos : Pos} {e : Expr} {es : List Expr} {t : TA} {id T : String} {r : List V → Hp → VK → Prop}
def tCB (r : List V → Hp → VK → Prop) (t : TA) : TE := fun σ H Q => t σ H fun vs H1 => r vs H1 Q
theorem pe_callB (hc : CallR X (.builtin id) r) (hg : Gl X x) (hm : X.mg x = none) (hv : bootBuiltins x = some (.builtin id)) (ha : PA X (e :: es) t) (hn : x ≠ "__name__" := by decide) (hdb : (x == ("__debug__" : Str)) = false := by decide)
  (he : starEach (e :: es) X.env = (false, eval e X.env) :: starEach es X.env := by rfl) (hpl : (backTo pos (starEach es X.env)).any (·.1) = false := by rfl) : PE X (.Call (.Name x p) (e :: es) [] pos) (tCB r t) := by
 intro pins s σ H Q I h
 refine wpAny_Call_Name_kw (ld_blt I hg hm hv ?_ hn hdb)
 exact PyProof.Rows.callWith_builtin1 (thn (ha pos pins s σ H _ I h) fun us s1 ⟨vs, H1, I1, r1, q1⟩ => hc pins s1 σ H1 vs us Q I1 r1 q1) he hpl
theorem pe_callTy (hc : CallR X (.type T) r) (hg : Gl X x) (hm : X.mg x = none) (hv : bootBuiltins x = some (.type T)) (ha : PA X (e :: es) t) (hn : x ≠ "__name__" := by decide) (hdb : (x == ("__debug__" : Str)) = false := by decide)
  (he : starEach (e :: es) X.env = (false, eval e X.env) :: starEach es X.env := by rfl) (hpl : (backTo pos (starEach es X.env)).any (·.1) = false := by rfl) : PE X (.Call (.Name x p) (e :: es) [] pos) (tCB r t) := by
 intro pins s σ H Q I h
 refine wpAny_Call_Name_kw (ld_blt I hg hm hv ?_ hn hdb)
 exact PyProof.Rows.callWith_type1 (thn (ha pos pins s σ H _ I h) fun us s1 ⟨vs, H1, I1, r1, q1⟩ => hc pins s1 σ H1 vs us Q I1 r1 q1) he hpl
end
end L2
namespace HT
open PySem PyProof.Rows
section
open PySem.SeqAt
open PySem.AutoSeq1 (wpAny_loadPart')
open PySem.MeetsSeq PySem.MeetsSeq2 PySem.MeetsSeq3
end
section
variable {prog : Program} {w : World} {A : Around} {E : Value → Shared → Prop} {s : Shared}
def sIx (n d : Nat) : Option Int → Nat
 | none => d
 | some v => if v < 0 then (v + (n : Int)).toNat else min v.toNat n
theorem sIx_nat (n d k : Nat) : sIx n d (some (k : Int)) = min k n := by
 show (if (k : Int) < 0 then ((k : Int) + (n : Int)).toNat else min (k : Int).toNat n) = min k n
 rw [if_neg (by omega), Int.toNat_natCast]
end
end HT
namespace L2
open PySem PySem.Spec PyProof.Rows
abbrev TO := St → Hp → (Option Int → Hp → Prop) → Prop
def PO (X : Cx) (e : Option Expr) (t : TO) : Prop :=
 ∀ (pins : List (Addr × Obj)) (s : Shared) (σ : St) (H : Hp) (Q : Option Int → Hp → Prop), Inv X pins σ H s → t σ H Q →
  wpAny (model X.prog X.w) X.A (evalPart e X.env) (fun u s' => ∃ o H', Inv X pins σ H' s' ∧ IsPart u o ∧ Q o H') X.xe s
def tNoPart : TO := fun _ H Q => Q none H
def tPart (t : TE) : TO := fun σ H Q => t σ H fun x H1 => ∃ i, x = .int i ∧ Q (some i) H1
section
variable {X : Cx} {e : Expr} {te : TE} {lo hi : Option Expr} {tl th : TO} {pos p2 : Pos}
theorem po_none : PO X none tNoPart := by
 intro pins s σ H Q I h
 rw [evalPart_none]
 exact wpAny_pure ⟨none, H, I, .none, h⟩
theorem po_some (h : PE X e te) : PO X (some e) (tPart te) := by
 intro pins s σ H Q I hw
 rw [evalPart_some]
 refine thn (h pins s σ H _ I hw) fun u s1 ⟨x, H1, I1, r1, q1⟩ => ?_
 obtain ⟨i, rfl, q⟩ := q1
 obtain ⟨t, rfl⟩ := r1
 exact ⟨some i, H1, I1, .int i t, q⟩
def SlR (X : Cx) (r : V → Option Int → Option Int → Hp → VK → Prop) : Prop :=
 ∀ (pins : List (Addr × Obj)) (s : Shared) (σ : St) (H : Hp) (x : V) (v vl vu : Value) (lo hi : Option Int) (sl : Addr) (Q : VK), Inv X pins σ H s → RelV x v → s.heap.IsSliceOf sl vl vu .none → IsPart vl lo → IsPart vu hi → r x lo hi H Q →
  ∃ T id, typeLookup (.type T) "__getitem__" = pure (some (.builtin id)) ∧ s.TypeIs v T ∧ wpAny (model X.prog X.w) X.A (getItem v (.ref sl)) (EP X pins σ Q) X.xe s
def tSl (r : V → Option Int → Option Int → Hp → VK → Prop) (te : TE) (tl th : TO) : TE := fun σ H Q => te σ H fun x H1 => tl σ H1 fun l H2 => th σ H2 fun u H3 => r x l u H3 Q
theorem pe_slice {r : V → Option Int → Option Int → Hp → VK → Prop} (hr : SlR X r) (he : PE X e te) (hl : PO X lo tl) (hu : PO X hi th) : PE X (.Subscript e (.Slice lo hi none p2) pos) (tSl r te tl th) := by
 intro pins s σ H Q I h
 refine Subscript_ (thn (he pins s σ H _ I h) fun v s1 ⟨x, H1, I1, r1, q1⟩ => ?_)
 refine wpAny_Slice (thn (hl pins s1 σ H1 _ I1 q1) fun vl s2 ⟨l, H2, I2, pl, q2⟩ => thn (hu pins s2 σ H2 _ I2 q2) fun vu s3 ⟨u, H3, I3, pu, q3⟩ => ?_)
 rw [evalPart_none]
 refine wpAny_pure ?_
 have I4 : Inv X pins σ H3 { s3 with heap := s3.heap.push { cls := .type "slice", data := .fields #[vl, vu, .none] } } := I3.kept (t' := s3.toks) fun b ob q => Heap.get?_push_of_some _ q
 obtain ⟨T, id, hT, ht, hg⟩ := hr pins { s3 with heap := s3.heap.push { cls := .type "slice", data := .fields #[vl, vu, .none] } } σ H3 x v vl vu l u s3.heap.objs.size Q I4 r1 (Heap.IsSliceOf.new ..) pl pu q3
 show wpAny (model X.prog X.w) X.A (subscriptTail e (.Slice lo hi none p2) v (.ref s3.heap.objs.size)) (EP X pins σ Q) X.xe { s3 with heap := s3.heap.push { cls := .type "slice", data := .fields #[vl, vu, .none] } }
 exact tail_any (ops := [.ref s3.heap.objs.size, v]) ht hT hg (by with_unfolding_all rfl)
def cutV (xs : List V) (lo hi : Option Int) : List V := (xs.drop (HT.sIx xs.length 0 lo)).take (HT.sIx xs.length xs.length hi - HT.sIx xs.length 0 lo)
theorem cutV_length (xs : List V) (lo hi : Option Int) : (cutV xs lo hi).length ≤ xs.length := by
 unfold cutV
 rw [List.length_take, List.length_drop]
 omega
end
def ixN (n : Nat) (i : Int) : Option Nat := if 0 ≤ i then (if i < n then some i.toNat else none) else if -(n : Int) ≤ i then some (i + n).toNat else none
def atI {α : Type} (xs : List α) (i : Int) : Option α := (ixN xs.length i).bind fun j => xs[j]?
theorem ixN_seq {n : Nat} {i : Int} {j : Nat} (h : ixN n i = some j) : seqIndex? i n = some j ∧ j < n ∧ -(n : Int) ≤ i ∧ i < n := by
 unfold ixN at h
 by_cases h0 : 0 ≤ i
 ·rw [if_pos h0] at h
  by_cases h1 : i < n
  ·rw [if_pos h1] at h
   have e : i.toNat = j := Option.some.inj h
   exact ⟨by rw [seqIndex_of h0 h1, e], by omega, by omega, h1⟩
  ·rw [if_neg h1] at h; cases h
 ·rw [if_neg h0] at h
  by_cases h1 : -(n : Int) ≤ i
  ·rw [if_pos h1] at h
   have e : (i + n).toNat = j := Option.some.inj h
   exact ⟨by rw [seqIndex_neg (by omega) h1, e], by omega, h1, by omega⟩
  ·rw [if_neg h1] at h; cases h
theorem atI_get {α : Type} {xs : List α} {i : Int} {v : α} (h : atI xs i = some v) : ∃ j, seqIndex? i xs.length = some j ∧ xs[j]? = some v ∧ j < xs.length ∧ -(xs.length : Int) ≤ i ∧ i < xs.length := by
 unfold atI at h
 cases e : ixN xs.length i with
 | none => rw [e] at h; cases h
 | some j =>
  rw [e] at h
  obtain ⟨h1, h2, h3, h4⟩ := ixN_seq e
  exact ⟨j, h1, h, h2, h3, h4⟩
theorem atI_nat {α : Type} {xs : List α} {j : Nat} {v : α} (h : xs[j]? = some v) : atI xs (j : Int) = some v := by
 have hj : j < xs.length := (List.getElem?_eq_some_iff.mp h).1
 have e : ixN xs.length (j : Int) = some j := by
  unfold ixN
  rw [if_pos (by omega), if_pos (by omega)]; simp
 unfold atI; rw [e]; exact h
def PlainIx (b : Expr) : Prop := ∀ o i, subscripted b false o i = operate [o, i] (getItem o i)
def IxR (X : Cx) (r : R2) : Prop :=
 ∀ (value slice : Expr) (pins : List (Addr × Obj)) (s : Shared) (σ : St) (H : Hp) (x y : V) (v u : Value) (Q : VK), Inv X pins σ H s → RelV x v → RelV y u → r x y H Q →
  subscripted slice false v u = operate [v, u] (getItem v u) → wpAny (model X.prog X.w) X.A (subscriptTail value slice v u) (EP X pins σ Q) X.xe s
def MtR (X : Cx) (id : String) (r : V → List V → Hp → VK → Prop) : Prop :=
 ∀ (pins : List (Addr × Obj)) (s : Shared) (σ : St) (H : Hp) (x : V) (xs : List V) (v : Value) (us : List Value) (Q : VK), Inv X pins σ H s → RelV x v → Vals xs us → r x xs H Q →
  wpAny (model X.prog X.w) X.A (call (.builtin id) (v :: us)) (EP X pins σ Q) X.xe s
section
variable {X : Cx} {a b : Expr} {ta tb : TE} {pos : Pos}
theorem IxR.or {r r' : R2} (h : IxR X r) (h' : IxR X r') : IxR X (fun x y H Q => r x y H Q ∨ r' x y H Q) := by
 intro value slice pins s σ H x y v u Q I rx ry q hs
 rcases q with q | q
 ·exact h value slice pins s σ H x y v u Q I rx ry q hs
 ·exact h' value slice pins s σ H x y v u Q I rx ry q hs
theorem pe_ix {r : R2} (hr : IxR X r) (ha : PE X a ta) (hb : PE X b tb) (hs : PlainIx b) : PE X (.Subscript a b pos) (tOp r ta tb) := by
 intro pins s σ H Q I h
 exact Subscript_ (binT ha hb I h fun v u s2 x y H2 I2 rx ry q => hr a b pins s2 σ H2 x y v u Q I2 rx ry q (hs _ _))
def rIxL (K : PySem.W.Frag) : R2 := fun x y H Q => ∃ p xs i v, x = .ref p ∧ y = .int i ∧ SqL K H p xs ∧ atI xs i = some v ∧ Q v H
def rIxT (K : PySem.W.Frag) : R2 := fun x y H Q => ∃ p xs i v, x = .ref p ∧ y = .int i ∧ SqT K H p xs ∧ atI xs i = some v ∧ Q v H
def rIxS : R2 := fun x y H Q => ∃ z i c, x = .str z ∧ y = .int i ∧ z.length ≤ sizeLine ∧ atI z.cps.toList i = some c ∧ Q (.str ⟨#[c]⟩) H
theorem ix_list : IxR X (rIxL X.K) := by
 intro value slice pins s σ H x y v u Q I rx ry h hs
 obtain ⟨p, xs, i, z, rfl, rfl, hq, he, q⟩ := h
 cases rx
 obtain ⟨t, rfl⟩ := ry
 obtain ⟨its, r, pl, hz⟩ := I.list hq
 obtain ⟨j, h1, h2, h3, h4, h5⟩ := atI_get he
 obtain ⟨w, ew, rw'⟩ := r.get h2
 have hl := r.length
 have hn := line63
 have fin : EP X pins σ Q w s := ⟨z, H, I, rw', q⟩
 by_cases h0 : 0 ≤ i
 ·have hj : i.toNat = j := by
   rw [seqIndex_of h0 h5] at h1
   exact Option.some.inj h1
  exact item_listR pl.isList h0 (by omega) (by rw [hj]; simpa using ew) fin hs
 ·have hj : (i + (its.toArray.size : Int)).toNat = j := by
   rw [seqIndex_neg (by omega) h4] at h1
   rw [List.size_toArray, ← hl]
   exact Option.some.inj h1
  exact subscriptTail_builtinR (x := w) pl.isList.typeIs slot_list_getitem.lookup
   (wpAny_getItem_list_neg (Q := fun r s' => r = w ∧ EP X pins σ Q r s') pl.isList (by omega) (by rw [List.size_toArray] <;> omega) (by omega) (by rw [hj]; simpa using ew) ⟨rfl, fin⟩) hs
theorem ix_tup : IxR X (rIxT X.K) := by
 intro value slice pins s σ H x y v u Q I rx ry h hs
 obtain ⟨p, xs, i, z, rfl, rfl, hq, he, q⟩ := h
 cases rx
 obtain ⟨t, rfl⟩ := ry
 obtain ⟨its, r, pl, hz⟩ := I.tuple hq
 obtain ⟨j, h1, h2, h3, h4, h5⟩ := atI_get he
 obtain ⟨w, ew, rw'⟩ := r.get h2
 have hl := r.length
 have hn := line63
 have fin : EP X pins σ Q w s := ⟨z, H, I, rw', q⟩
 exact subscriptTail_builtinR (x := w) pl.typeIs slot_tuple_getitem.lookup
  (getItem_tuple (j := j) (Q := fun r s' => r = w ∧ EP X pins σ Q r s') pl (by omega) (by omega) (by rw [List.size_toArray, ← hl]; exact h1) (by simpa using ew) ⟨rfl, fin⟩) hs
theorem ix_str : IxR X rIxS := by
 intro value slice pins s σ H x y v u Q I rx ry h hs
 obtain ⟨z, i, c, rfl, rfl, hz, he, q⟩ := h
 obtain ⟨t, rfl⟩ := rx
 obtain ⟨t', rfl⟩ := ry
 obtain ⟨j, h1, h2, h3, h4, h5⟩ := atI_get he
 have hl : z.cps.toList.length = z.length := by simp [Str.length]
 rw [hl] at h1 h4 h5
 have hn := line63
 exact tail_any (typeIs_str s z t) slot_str_getitem.lookup (getItem_str (c := c) (by
  have e1 : decide (i < -(2 ^ 63 : Int)) = false := decide_eq_false (by omega)
  have e2 : decide (i ≥ 2 ^ 63) = false := decide_eq_false (by omega)
  rw [e1, e2, Bool.or_false]) (by rw [h1]; simpa using h2) ⟨.str ⟨#[c]⟩, H, I.tok _, ⟨_, rfl⟩, q⟩) hs
def rIx (K : PySem.W.Frag) : R2 := fun x y H Q => rIxL K x y H Q ∨ rIxT K x y H Q ∨ rIxS x y H Q
theorem ix_seq : IxR X (rIx X.K) := ix_list.or (ix_tup.or ix_str)
theorem mapSeq_set (its : List Value) (n j : Nat) (u : Value) : Obj.mapSeq (·.setIfInBounds j u) { cls := .type "list", data := .seq its.toArray n } = { cls := .type "list", data := .seq (its.set j u).toArray n } := by
 simp [Obj.mapSeq]
theorem Inv.lst {pins : List (Addr × Obj)} {σ : St} {H : Hp} {s : Shared} {p : Addr} {xs : List V} (I : Inv X pins σ H s) (h : H p = some (.lst xs)) :
  ∃ (its : List Value) (n : Nat), Vals xs its ∧ s.heap.get? p = some { cls := .type "list", data := .seq its.toArray n } ∧ xs.length ≤ sizeLine := by
 obtain ⟨z, its, n, r, e⟩ := I.hok p _ h
 exact ⟨its, n, r, e, z⟩
theorem Inv.lstUpd {pins : List (Addr × Obj)} {σ : St} {H : Hp} {s : Shared} {p : Addr} {xs ys : List V} {its its' : List Value} {n n' : Nat} {f : Obj → Obj} (I : Inv X pins σ H s) (h : H p = some (.lst xs))
  (ho : s.heap.get? p = some { cls := .type "list", data := .seq its.toArray n }) (hf : f { cls := .type "list", data := .seq its.toArray n } = { cls := .type "list", data := .seq its'.toArray n' }) (r : Vals ys its') (hz : ys.length ≤ sizeLine) (t : Nat) :
  Inv X pins σ (upd H p (.lst ys)) { s with heap := s.heap.update p f, toks := t } := by
 have e : (s.heap.update p f).get? p = some { cls := .type "list", data := .seq its'.toArray n' } := by
  rw [Heap.get?_update_self f ho (by rw [hf] <;> rfl), hf]
 refine I.write (x := p) (e := p) (by rw [h]; trivial) (.inl rfl) (fun b u hb q => (Heap.get?_update_other _ _ (Ne.symm hb)).trans q) ⟨_, e⟩ ?_
 exact ⟨hz, its', n', r, e⟩
def rSetL : V → V → V → Hp → (Hp → Prop) → Prop := fun o i v H Q => ∃ p xs k j, o = .ref p ∧ i = .int k ∧ H p = some (.lst xs) ∧ ixN xs.length k = some j ∧ Q (upd H p (.lst (xs.set j v)))
theorem set_list : PSet X rSetL := by
 intro pins s σ H o i v ov iv u Q I ro ri rv h
 obtain ⟨p, xs, k, j, rfl, rfl, hp, hj, q⟩ := h
 cases ro
 obtain ⟨t, rfl⟩ := ri
 obtain ⟨its, n, r, ho, hz⟩ := I.lst hp
 obtain ⟨h1, h2, h3, h4⟩ := ixN_seq hj
 have hl := r.length
 have hn := line63
 have I' : Inv X pins σ (upd H p (.lst (xs.set j v))) { s with heap := s.heap.update p (Obj.mapSeq (·.setIfInBounds j u)) } :=
  I.lstUpd hp ho (mapSeq_set its n j u) (r.set rv j) (by rw [List.length_set]; exact hz) s.toks
 by_cases h0 : 0 ≤ k
 ·have hk : k.toNat = j := by
   rw [seqIndex_of h0 h4] at h1
   exact Option.some.inj h1
  exact PySem.W.ki_setAt ho h0 (by omega) (by rw [List.size_toArray, ← hl]; exact h4) (by rw [hk]; exact ⟨_, I', q⟩)
 ·have hk : (k + (its.toArray.size : Int)).toNat = j := by
   rw [seqIndex_neg (by omega) h3] at h1
   rw [List.size_toArray, ← hl]
   exact Option.some.inj h1
  exact PySem.W.ki_setBack ho (by omega) (by rw [List.size_toArray, ← hl]; exact h3) (by omega) (by rw [hk]; exact ⟨_, I', q⟩)
theorem slice_bounds (lo hi : Option Int) (n : Nat) : (sliceBounds lo hi none n).1 = ((HT.sIx n 0 lo : Nat) : Int) ∧ (sliceBounds lo hi none n).2.1 = ((HT.sIx n n hi : Nat) : Int) ∧ (sliceBounds lo hi none n).2.2 = 1 := by
 refine ⟨?_, ?_, rfl⟩
 ·cases lo with
  | none => simp [sliceBounds, HT.sIx]
  | some i =>
   simp only [sliceBounds, HT.sIx, Option.getD_none, show (1 : Int) > 0 by decide, if_true]
   by_cases h : i < 0
   ·simp only [h, if_true] <;> omega
   ·simp only [h, if_false] <;> omega
 ·cases hi with
  | none => simp [sliceBounds, HT.sIx]
  | some i =>
   simp only [sliceBounds, HT.sIx, Option.getD_none, show (1 : Int) > 0 by decide, if_true]
   by_cases h : i < 0
   ·simp only [h, if_true] <;> omega
   ·simp only [h, if_false] <;> omega
theorem slicePick_cut (its : List Value) (lo hi : Option Int) : slicePick its.toArray lo hi none = ((its.drop (HT.sIx its.length 0 lo)).take (HT.sIx its.length its.length hi - HT.sIx its.length 0 lo)).toArray := by
 obtain ⟨h1, h2, h3⟩ := slice_bounds lo hi its.toArray.size
 unfold slicePick
 rw [h1, h2, h3]
 simp only [sliceRange_one, pick_run, List.size_toArray] <;> rfl
def rSlL (K : PySem.W.Frag) : V → Option Int → Option Int → Hp → VK → Prop := fun x lo hi H Q => ∃ a xs, x = .ref a ∧ SqL K H a xs ∧ ∀ p, H p = none → Q (.ref p) (upd H p (.lst (cutV xs lo hi)))
theorem sl_list : SlR X (rSlL X.K) := by
 intro pins s σ H x v vl vu lo hi sl Q I rx hs pl pu h
 obtain ⟨a, xs, rfl, hx, q⟩ := h
 cases rx
 obtain ⟨its, r, ht, hz⟩ := I.list hx
 have hlen := r.length
 refine ⟨"list", _, slot_list_getitem.lookup, ht.isList.typeIs, ?_⟩
 refine wpAny_getItem_list_slice ht.isList hs pl pu .none (by simp) ?_ (by rw [List.size_toArray] <;> omega)
 rw [slicePick_cut, ← hlen]
 refine ⟨.ref s.heap.objs.size, _, I.laid (t' := s.toks) (o := .lst (cutV xs lo hi)) (fun b ob q => Heap.get?_push_of_some _ q) (Nat.le_refl _) ?_, rfl, q _ (I.hok.fresh (Nat.le_refl _))⟩
 exact ⟨Nat.le_trans (cutV_length xs lo hi) hz, _, 0, (r.drop (HT.sIx xs.length 0 lo)).take (HT.sIx xs.length xs.length hi - HT.sIx xs.length 0 lo), Heap.get?_push_size _ rfl⟩
def flatV : V → Bool
 | .non => true
 | .bl _ => true
 | .int _ => true
 | .str _ => true
 | _ => false
def eqV : V → V → Bool
 | .non, .non => true
 | .bl a, .bl b => a == b
 | .bl a, .int b => (if a then 1 else 0) == b
 | .int a, .bl b => a == (if b then 1 else 0)
 | .int a, .int b => a == b
 | .str a, .str b => a == b
 | _, _ => false
theorem eqAt_V {A : Around} {s : Shared} {y x : V} {u v : Value} (ry : RelV y u) (rx : RelV x v) (fy : flatV y = true) (fx : flatV x = true) : SeqAt.EqAt A s u v (eqV y x) := by
 cases y with
 | non =>
  cases ry
  cases x with
  | non => cases rx; exact SeqAt.EqAt.same _
  | bl b => cases rx; exact SeqAt.EqAt.none_bool b
  | int b => obtain ⟨t, rfl⟩ := rx; exact SeqAt.EqAt.none_int b t
  | str b => obtain ⟨t, rfl⟩ := rx; exact SeqAt.EqAt.none_str b t
  | _ => exact absurd (show false = true from fx) Bool.false_ne_true
 | bl a =>
  cases ry
  cases x with
  | non => cases rx; exact SeqAt.EqAt.bool_none a
  | bl b => cases rx; exact SeqAt.EqAt.bool_bool a b
  | int b => obtain ⟨t, rfl⟩ := rx; exact SeqAt.EqAt.bool_int a b t
  | str b => obtain ⟨t, rfl⟩ := rx; exact SeqAt.EqAt.bool_str a b t
  | _ => exact absurd (show false = true from fx) Bool.false_ne_true
 | int a =>
  obtain ⟨t', rfl⟩ := ry
  cases x with
  | non => cases rx; exact SeqAt.EqAt.int_none a t'
  | bl b => cases rx; exact SeqAt.EqAt.int_bool a t' b
  | int b => obtain ⟨t, rfl⟩ := rx; exact SeqAt.EqAt.int_int a t' b t
  | str b => obtain ⟨t, rfl⟩ := rx; exact SeqAt.EqAt.int_str a t' b t
  | _ => exact absurd (show false = true from fx) Bool.false_ne_true
 | str a =>
  obtain ⟨t', rfl⟩ := ry
  cases x with
  | non => cases rx; exact SeqAt.EqAt.str_none a t'
  | bl b => cases rx; exact SeqAt.EqAt.str_bool a t' b
  | int b => obtain ⟨t, rfl⟩ := rx; exact SeqAt.EqAt.str_int a t' b t
  | str b => obtain ⟨t, rfl⟩ := rx; exact SeqAt.EqAt.str_str a t' b t
  | _ => exact absurd (show false = true from fx) Bool.false_ne_true
 | _ => exact absurd (show false = true from fy) Bool.false_ne_true
def inV (x : V) (xs : List V) : Bool := xs.any fun y => eqV y x
theorem call_len_seq : CallR X (.builtin "len") (fun xs H Q => ∃ p ys, xs = [.ref p] ∧ (SqL X.K H p ys ∨ SqT X.K H p ys) ∧ Q (.int ys.length) H) := by
 intro pins s σ H xs us Q I r h
 obtain ⟨p, ys, rfl, hq, q⟩ := h
 obtain ⟨u, rfl, rx⟩ := vals1 r
 cases rx
 have hn := line63
 rcases hq with hq | hq
 ·obtain ⟨its, r', pl, hz⟩ := I.list hq
  have hlen := r'.length
  exact Calls.call_len_list pl.isList (by simp only [List.size_toArray] <;> omega) ⟨.int ys.length, H, I.tok _, ⟨s.toks + 1, by rw [List.size_toArray, hlen]⟩, q⟩
 ·obtain ⟨its, r', pl, hz⟩ := I.tuple hq
  have hlen := r'.length
  exact len_tuple pl (by simp only [List.size_toArray] <;> omega) ⟨.int ys.length, H, I.tok _, ⟨s.toks + 1, by rw [List.size_toArray, hlen]⟩, q⟩
theorem call_len_str : CallR X (.builtin "len") (fun xs H Q => ∃ z, xs = [.str z] ∧ z.length ≤ sizeLine ∧ Q (.int z.length) H) := by
 intro pins s σ H xs us Q I r h
 obtain ⟨z, rfl, hz, q⟩ := h
 obtain ⟨u, rfl, t, rfl⟩ := vals1 r
 have hn := line63
 exact len_str (by omega) ⟨.int z.length, H, I.tok _, ⟨_, rfl⟩, q⟩
theorem call_list_of : CallR X (.type "list") (fun xs H Q => ∃ p ys, xs = [.ref p] ∧ (SqL X.K H p ys ∨ SqT X.K H p ys) ∧ ∀ l, H l = none → Q (.ref l) (upd H l (.lst ys))) := by
 intro pins s σ H xs us Q I r h
 obtain ⟨p, ys, rfl, hq, q⟩ := h
 obtain ⟨u, rfl, rx⟩ := vals1 r
 cases rx
 have fin : ∀ (its : List Value), Vals ys its → ys.length ≤ sizeLine → ∀ (h' : Heap) (c' : Nat), (∀ b o', s.heap.get? b = some o' → h'.get? b = some o') →
   h'.get? s.heap.objs.size = some { cls := .type "list", dict := none, data := .seq its.toArray c', slots := #[] } → EP X pins σ Q (.ref s.heap.objs.size) { s with heap := h' } := fun its r' hz h' c' kp e =>
  ⟨.ref s.heap.objs.size, _, I.laid (t' := s.toks) kp (Nat.le_refl _) (show ObjOk X.prog X.w _ h' _ (.lst ys) from ⟨hz, its, c', r', e⟩), rfl, q _ (I.hok.fresh (Nat.le_refl _))⟩
 rcases hq with hq | hq
 ·obtain ⟨its, r', pl, hz⟩ := I.list hq
  have hlen := r'.length
  obtain ⟨o, ho, hc, n, hd⟩ := pl.isList
  exact call_list_seq p (.inl rfl) ho hc hd (fun h' c' kp e => fin its r' hz h' c' kp e) (by simp only [List.size_toArray] <;> omega)
 ·obtain ⟨its, r', pl, hz⟩ := I.tuple hq
  have hlen := r'.length
  obtain ⟨o, ho, hc, n, hd⟩ := pl
  exact call_list_seq p (.inr rfl) ho hc hd (fun h' c' kp e => fin its r' hz h' c' kp e) (by simp only [List.size_toArray] <;> omega)
theorem call_tuple_of : CallR X (.type "tuple") (fun xs H Q => ∃ p ys, xs = [.ref p] ∧ ((SqL X.K H p ys ∧ ∀ l, H l = none → Q (.ref l) (upd H l (.tup ys))) ∨ (SqT X.K H p ys ∧ Q (.ref p) H))) := by
 intro pins s σ H xs us Q I r h
 obtain ⟨p, ys, rfl, h⟩ := h
 obtain ⟨u, rfl, rx⟩ := vals1 r
 cases rx
 rcases h with ⟨hq, q⟩ | ⟨hq, q⟩
 ·obtain ⟨its, r', pl, hz⟩ := I.list hq
  have hlen := r'.length
  refine call_tuple_list pl.isList (fun h' kp => ?_) (by simp only [List.size_toArray] <;> omega)
  have I1 : Inv X pins σ H { s with heap := h' } := I.kept (t' := s.toks) kp
  have I2 : Inv X pins σ (upd H h'.objs.size (.tup ys)) { s with heap := h'.push { cls := .type "tuple", data := .seq its.toArray } } :=
   I1.laid (t' := s.toks) (fun b o e => Heap.get?_push_of_some _ e) (Nat.le_refl _) (show ObjOk X.prog X.w _ _ _ (.tup ys) from ⟨hz, its, r', IsTup.new _ _⟩)
  exact ⟨.ref h'.objs.size, _, I2, rfl, q _ (I1.hok.fresh (Nat.le_refl _))⟩
 ·obtain ⟨its, r', pl, hz⟩ := I.tuple hq
  exact call_tuple_same pl ⟨.ref p, H, I, rfl, q⟩
def tyV (K : PySem.W.Frag) (T : String) (x : V) (H : Hp) : Prop := match x with
 | .str _ => T = "str"
 | .int _ => T = "int"
 | .ref p => (T = "list" ∧ ∃ xs, SqL K H p xs) ∨ (T = "tuple" ∧ ∃ o, K.lookup p = some o ∧ o.cls = .type "tuple" ∧ o.dict = none) ∨
   (T = "dict" ∧ ((∃ kvs, H p = some (.dK kvs)) ∨ ∃ kvs, H p = some (.dT kvs))) ∨ (T = "set" ∧ ∃ S n, H p = some (.set S n))
 | _ => False
theorem tyV_is {pins : List (Addr × Obj)} {σ : St} {H : Hp} {s : Shared} {T : String} {x : V} {v : Value} (I : Inv X pins σ H s) (r : RelV x v) (ty : tyV X.K T x H) :
  s.TypeIs v T ∧ ∀ a, v = .ref a → ∃ ob, s.heap.get? a = some ob ∧ ob.dict = none := by
 cases x with
 | str z =>
  obtain ⟨t, rfl⟩ := r
  cases (show T = "str" from ty)
  exact ⟨typeIs_str s z t, fun _ e => nomatch e⟩
 | int i =>
  obtain ⟨t, rfl⟩ := r
  cases (show T = "int" from ty)
  exact ⟨typeIs_int s i t, fun _ e => nomatch e⟩
 | ref p =>
  cases r
  rcases ty with ⟨rfl, xs, hq⟩ | ⟨rfl, o, hk, hc, hd⟩ | ⟨rfl, hk⟩ | ⟨rfl, S, n, hk⟩
  ·obtain ⟨its, _, pl, _⟩ := I.list hq
   refine ⟨pl.isList.typeIs, fun a e => ?_⟩
   cases e
   obtain ⟨o, n, e, c, hd, _⟩ := pl
   exact ⟨o, e, hd⟩
  ·refine ⟨⟨o, I.kIn p o hk, hc⟩, fun a e => ?_⟩
   cases e
   exact ⟨o, I.kIn _ o hk, hd⟩
  ·have z : ∃ o, s.heap.get? p = some o ∧ o.ExactDict := by
    rcases hk with ⟨kvs, hk⟩ | ⟨kvs, hk⟩
    ·obtain ⟨_, _, _, _, o, _, _, e, ex, _⟩ := I.hok p _ hk
     exact ⟨o, e, ex⟩
    ·obtain ⟨_, _, _, _, o, _, _, e, ex, _⟩ := I.hok p _ hk
     exact ⟨o, e, ex⟩
   obtain ⟨o, e, ex⟩ := z
   refine ⟨⟨o, e, ex.1⟩, fun a e2 => ?_⟩
   cases e2
   exact ⟨o, e, ex.2.1⟩
  ·obtain ⟨o, _, _, _, e, ex, _⟩ := I.hok p _ hk
   refine ⟨⟨o, e, ex.1⟩, fun a e2 => ?_⟩
   cases e2
   exact ⟨o, e, ex.2.1⟩
 | _ => exact False.elim ty
def tBM (K : PySem.W.Frag) (T : String) (r : V → List V → Hp → VK → Prop) (to : TE) (t : TA) : TE := fun σ H Q => to σ H fun x H1 => tyV K T x H1 ∧ t σ H1 fun xs H2 => r x xs H2 Q
variable {o e : Expr} {es : List Expr} {to : TE} {t : TA} {name : Str} {apos cpos : Pos} {T id : String} {r : V → List V → Hp → VK → Prop}
theorem pe_bm (pa : PlainAttrs T) (slot : Slot T name id) (hty : typeOf (.builtin id) = pure (.type "method_descriptor")) (hm : MtR X id r) (ho : PE X o to) (ha : PA X (e :: es) t)
  (hbase : attributeBase o name X.env (eval o X.env) = eval o X.env := by rfl)
  (hfew : ((backTo cpos (starEach (e :: es) X.env)).all (fun x => !x.1) && (backToKw cpos (keywordEach [] X.env)).all (fun x => x.1.isSome)
   && decide ((e :: es).length + ([] : List Keyword).length + (if ([] : List Keyword).isEmpty then 0 else 1) < 30)) = true := by rfl)
  (hline : (apos.endLine == cpos.line) = true := by rfl) (hs : starEach (e :: es) X.env = (false, eval e X.env) :: starEach es X.env := by rfl) (hplain : (backTo cpos (starEach es X.env)).any (·.1) = false := by rfl) :
  PE X (.Call (.Attribute o name apos) (e :: es) [] cpos) (tBM X.K T r to t) := by
 intro pins s σ H Q I h
 refine wpAny_Call_method_late hbase hfew hline rfl (thn (ho pins s σ H _ I h) fun v s1 ⟨x, H1, I1, r1, ty, q1⟩ => ?_)
 obtain ⟨h1, h2⟩ := tyV_is I1 r1 ty
 refine ⟨T, id, pa, slot, hty, h1, h2, ?_⟩
 have hA := ha cpos pins s1 σ H1 _ I1 q1
 rw [hs] at hA ⊢
 refine Calls.callWith_builtin (by show (false || (backTo cpos (starEach es X.env)).any (·.1)) = false; rw [hplain] <;> rfl) (Calls.evalArgs_plain ?_)
 exact thn hA fun us s2 ⟨vs, H2, I2, r2, q2⟩ => hm pins s2 σ H2 x vs v us Q I2 r1 r2 q2
/- xs.append(e), list.index on a module's tuple .. are MtR facts of 06m -/
end
def MtM (X : Cx) (id : String) (r : V → List V → Hp → VK → Prop) : Prop :=
 ∀ (pins : List (Addr × Obj)) (s : Shared) (σ : St) (H : Hp) (x : V) (xs : List V) (v : Value) (us : List Value) (Q : VK), Inv X pins σ H s → RelV x v → Vals xs us → r x xs H Q →
  wpAny (model X.prog X.w) X.A (call (.builtin id) (v :: us)) (EP X pins σ Q) X.xe s
theorem Vals.one : ∀ {x : V} {us : List Value}, Vals [x] us → ∃ u, us = [u] ∧ RelV x u
 | _, _, .cons r .nil => ⟨_, rfl, r⟩
theorem Vals.two : ∀ {x y : V} {us : List Value}, Vals [x, y] us → ∃ u v, us = [u, v] ∧ RelV x u ∧ RelV y v
 | _, _, _, .cons r (.cons q .nil) => ⟨_, _, rfl, r, q⟩
theorem Vals.zero : ∀ {us : List Value}, Vals [] us → us = []
 | _, .nil => rfl
theorem Vals.rep {xs : List V} {us : List Value} (h : Vals xs us) : ∀ k : Nat, Vals (List.replicate k xs).flatten (List.replicate k us).flatten
 | 0 => .nil
 | k + 1 => by
  rw [List.replicate_succ, List.replicate_succ, List.flatten_cons, List.flatten_cons]
  exact Vals.append h (Vals.rep h k)
theorem foldl_rep (its : List Value) : ∀ (k : Nat) (acc : List Value),
  List.foldl (fun x1 x2 => x1 ++ x2) acc.toArray (List.replicate k its.toArray) = (acc ++ (List.replicate k its).flatten).toArray
 | 0, acc => by simp
 | k + 1, acc => by
  have e : acc.toArray ++ its.toArray = (acc ++ its).toArray := by simp
  have e2 : (acc ++ its) ++ (List.replicate k its).flatten = acc ++ (List.replicate (k + 1) its).flatten := by
   rw [List.replicate_succ, List.flatten_cons, List.append_assoc]
  rw [← e2, ← foldl_rep its k (acc ++ its), ← e, List.replicate_succ, List.foldl_cons]
section
variable {X : Cx} {pins : List (Addr × Obj)} {σ : St} {H : Hp} {s : Shared} {l b : Addr} {xs ys zs : List V}
theorem Inv.lset {its its' : List Value} {n : Nat} {f : Array Value → Array Value} {t' : Nat} (I : Inv X pins σ H s) (hH : H l = some (.lst xs))
  (e : s.heap.get? l = some { cls := .type "list", data := .seq its.toArray n }) (hf : f its.toArray = its'.toArray) (hv : Vals ys its') (hz : ys.length ≤ sizeLine) :
  Inv X pins σ (upd H l (.lst ys)) { s with heap := s.heap.update l (Obj.mapSeq f), toks := t' } := by
 have q := PySem.IsL.update e f
 rw [hf] at q
 refine I.write (x := l) (e := l) (by rw [hH]; exact trivial) (.inl rfl) (fun b' u hb hu => (Heap.get?_update_other s.heap (Obj.mapSeq f) (Ne.symm hb)).trans hu) ⟨_, q⟩ ?_
 exact ⟨hz, its', _, hv, q⟩
theorem Inv.lnew {its : List Value} {t' : Nat} (I : Inv X pins σ H s) (hv : Vals ys its) (hz : ys.length ≤ sizeLine) :
  Inv X pins σ (upd H s.heap.objs.size (.lst ys)) { s with heap := s.heap.push { cls := .type "list", data := .seq its.toArray }, toks := t' } :=
 I.laid (fun _ _ q => Heap.get?_push_of_some _ q) (Nat.le_refl _) ⟨hz, its, 0, hv, Heap.get?_push_size _ rfl⟩
theorem Inv.fresh (I : Inv X pins σ H s) : H s.heap.objs.size = none := I.hok.fresh (Nat.le_refl _)
theorem Inv.lstM (I : Inv X pins σ H s) (hH : H l = some (.lst xs)) : xs.length ≤ sizeLine ∧ ∃ (its : List Value) (n : Nat), Vals xs its ∧ xs.length = its.length ∧ s.heap.get? l = some { cls := .type "list", data := .seq its.toArray n } := by
 obtain ⟨z, its, n, r, e⟩ := I.hok l _ hH
 exact ⟨z, its, n, r, r.length, e⟩
theorem notLongL {n : Nat} (h : n ≤ sizeLine) : Builtin.List.listTooLong n = false := by
 unfold Builtin.List.listTooLong
 exact decide_eq_false (by omega)
end
section
variable {X : Cx}
def rAppend : V → List V → Hp → VK → Prop := fun x vs H Q => ∃ l xs y, x = .ref l ∧ vs = [y] ∧ H l = some (.lst xs) ∧ xs.length < sizeLine ∧ Q .non (upd H l (.lst (xs ++ [y])))
theorem mt_append : MtM X "list.append" rAppend := by
 intro pins s σ H x vs v us Q I rx rv h
 obtain ⟨l, xs, y, rfl, rfl, hH, hz, q⟩ := h
 cases rx
 obtain ⟨u, rfl, ru⟩ := rv.one
 obtain ⟨z, its, n, r, hl, e⟩ := I.lstM hH
 refine call_meets F.slot_list_append ⟨_, e, rfl⟩ F.entry_list_append (F.args_list_append_2 _ _) (PySem.list_append l its.toArray n u (by rw [List.size_toArray]; omega)) ⟨e, ?_⟩
 refine ⟨.non, _, I.lset (its' := its ++ [u]) hH e (by simp) (r.append (.cons ru .nil)) ?_, rfl, q⟩
 rw [List.length_append, List.length_singleton]
 omega
def rExtend : V → List V → Hp → VK → Prop := fun x vs H Q => ∃ l b xs zs, x = .ref l ∧ vs = [.ref b] ∧ H l = some (.lst xs) ∧ H b = some (.lst zs) ∧ xs.length + zs.length ≤ sizeLine ∧ Q .non (upd H l (.lst (xs ++ zs)))
theorem mt_extend : MtM X "list.extend" rExtend := by
 intro pins s σ H x vs v us Q I rx rv h
 obtain ⟨l, b, xs, zs, rfl, rfl, hH, hB, hz, q⟩ := h
 cases rx
 obtain ⟨u, rfl, ru⟩ := rv.one
 cases ru
 obtain ⟨z, its, n, r, hl, e⟩ := I.lstM hH
 obtain ⟨z2, its2, n2, r2, hl2, e2⟩ := I.lstM hB
 have hsz : its.toArray.size + its2.toArray.size ≤ sizeLine := by rw [List.size_toArray, List.size_toArray]; omega
 have hlong : ¬ (!its.toArray.isEmpty && Builtin.List.listTooLong (its.toArray.size + its2.toArray.size)) = true := by
  rw [notLongL hsz, Bool.and_false]
  exact Bool.false_ne_true
 refine call_meets F.slot_list_extend ⟨_, e, rfl⟩ F.entry_list_extend (F.args_list_extend_2 _ _)
  (AutoSeq1.list_extend_list_list_0 l its.toArray n b its2.toArray n2 hlong (by rw [List.size_toArray]; omega) (by omega)) ⟨e, e2, ?_⟩
 refine ⟨.non, _, I.lset (its' := its ++ its2) hH e (by simp) (r.append r2) ?_, rfl, q⟩
 rw [List.length_append]
 omega
def rCat : R2 := fun x y H Q => ∃ l b xs zs, x = .ref l ∧ y = .ref b ∧ H l = some (.lst xs) ∧ H b = some (.lst zs) ∧ xs.length + zs.length ≤ sizeLine ∧ ∀ p, H p = none → Q (.ref p) (upd H p (.lst (xs ++ zs)))
theorem op_cat : OpR X (binaryOp .Add) rCat := by
 intro pins s σ H x y v u Q I rx ry h
 obtain ⟨l, b, xs, zs, rfl, rfl, hH, hB, hz, q⟩ := h
 cases rx
 cases ry
 obtain ⟨z, its, n, r, hl, e⟩ := I.lstM hH
 obtain ⟨z2, its2, n2, r2, hl2, e2⟩ := I.lstM hB
 refine PySem.P.add_list e e2 ?_ (by rw [List.size_toArray, List.size_toArray]; omega)
 have ea : its.toArray ++ its2.toArray = (its ++ its2).toArray := by simp
 rw [ea]
 exact ⟨.ref _, _, I.lnew (t' := s.toks) (r.append r2) (by rw [List.length_append]; omega), rfl, q _ I.fresh⟩
def rRep : R2 := fun x y H Q => ∃ l k xs, x = .ref l ∧ y = .int k ∧ H l = some (.lst xs) ∧ -(2 ^ 63) ≤ k ∧ k < 2 ^ 63 ∧ xs.length * k.toNat ≤ sizeLine ∧
 ∀ p, H p = none → Q (.ref p) (upd H p (.lst (List.replicate k.toNat xs).flatten))
theorem len_rep {α : Type} (xs : List α) (k : Nat) : (List.replicate k xs).flatten.length = k * xs.length := by
 induction k with
 | zero => simp
 | succ k ih => rw [List.replicate_succ, List.flatten_cons, List.length_append, ih, Nat.succ_mul, Nat.add_comm]
theorem op_rep : OpR X (binaryOp .Mult) rRep := by
 intro pins s σ H x y v u Q I rx ry h
 obtain ⟨l, k, xs, rfl, rfl, hH, h1, h2, hz, q⟩ := h
 cases rx
 obtain ⟨t, rfl⟩ := ry
 obtain ⟨z, its, n, r, hl, e⟩ := I.lstM hH
 have hlen : its.toArray.size * k.toNat ≤ sizeLine := by rw [List.size_toArray, ← hl]; exact hz
 have hcap : ¬ its.toArray.size * k.toNat > (2 ^ 63 - 1) / 8 := by
  have : (sizeLine : Nat) ≤ (2 ^ 63 - 1) / 8 := by decide
  omega
 have hfit : ¬ (!Builtin.List.listFitsIndex k) = true := by
  rw [fitsIndex_both h1 h2]
  exact Bool.false_ne_true
 have hlong : ¬ Builtin.List.listTooLong (its.toArray.size * k.toNat) = true := by
  rw [notLongL hlen]
  exact Bool.false_ne_true
 have hnew : List.foldl (fun x1 x2 => x1 ++ x2) #[] (List.replicate (if its.toArray.isEmpty = true then 0 else k.toNat) its.toArray) = (List.replicate k.toNat its).flatten.toArray := by
  have f0 : ∀ m : Nat, List.foldl (fun x1 x2 => x1 ++ x2) #[] (List.replicate m its.toArray) = (List.replicate m its).flatten.toArray := fun m => by
   have := foldl_rep its m []
   rw [List.nil_append] at this
   exact this
  rw [f0]
  cases its with
  | nil => simp
  | cons a r' => rw [if_neg (by simp)]
 refine wpAny_binaryOp_repeat_ref (T := "list") (U := "int") (by decide) ⟨_, e, rfl⟩ (fun s' => typeIs_int s' k t) noFill_list_mul F.fills_int_mul F.slot_int_rmul repeat_list F.slot_int_index.lookup
  (call_meets F.slot_int_rmul (typeIs_int s k t) F.entry_int_rmul (F.args_int_rmul_2 _ _) (int___rmul___int_list k t l its.toArray n)
   ⟨e, rfl, ⟨_, e, rfl⟩, call_meets F.slot_list_mul ⟨_, e, rfl⟩ F.entry_list_mul (F.args_list_mul_2 _ _) (AutoListH.list___mul___list_int_3 l its.toArray n k t hfit hcap hlong) ⟨e, ?_⟩⟩)
 rw [hnew]
 exact ⟨.ref _, _, I.lnew (t' := s.toks) (r.rep k.toNat) (by rw [len_rep, Nat.mul_comm]; exact hz), rfl, q _ I.fresh⟩
end
section
variable {prog : Program} {w : World} {A : Around} {E : Value → Shared → Prop} {s : Shared}
end
section
variable {X : Cx}
end
section
variable {κ : Type} [DecidableEq κ]
def valV (kvs : List (κ × V)) (k : κ) : Option V := (kvs.find? fun kv => decide (kv.1 = k)).map (·.2)
def putK (kvs : List (κ × V)) (k : κ) (v : V) : List (κ × V) :=
 if (kvs.any fun kv => decide (kv.1 = k)) = true then kvs.map (fun kv => if kv.1 = k then (kv.1, v) else kv) else kvs ++ [(k, v)]
theorem valV_pos {p : κ × V} {r : List (κ × V)} {k : κ} (e : p.1 = k) : valV (p :: r) k = some p.2 := by simp [valV, List.find?_cons, e]
theorem valV_neg {p : κ × V} {r : List (κ × V)} {k : κ} (e : ¬ p.1 = k) : valV (p :: r) k = valV r k := by simp [valV, List.find?_cons, e]
theorem valV_any (k : κ) : ∀ kvs : List (κ × V), (kvs.any fun kv => decide (kv.1 = k)) = (valV kvs k).isSome
 | [] => rfl
 | p :: r => by
  rw [List.any_cons]
  by_cases e : p.1 = k
  ·simp only [valV_pos e, decide_eq_true e, Bool.true_or, Option.isSome_some]
  ·rw [valV_neg e, decide_eq_false e, Bool.false_or]; exact valV_any k r
theorem valV_map (k j : κ) (y : V) : ∀ kvs : List (κ × V), valV (kvs.map fun kv => if kv.1 = k then (kv.1, y) else kv) j = (valV kvs j).map fun x => if j = k then y else x
 | [] => rfl
 | p :: r => by
  have ih := valV_map k j y r
  rw [List.map_cons]
  by_cases h : p.1 = k
  ·rw [if_pos h]
   by_cases e : p.1 = j
   ·rw [valV_pos (p := (p.1, y)) e, valV_pos e, Option.map_some, if_pos (e.symm.trans h)]
   ·rw [valV_neg (p := (p.1, y)) e, valV_neg e, ih]
  ·rw [if_neg h]
   by_cases e : p.1 = j
   ·rw [valV_pos (p := p) e, valV_pos e, Option.map_some, if_neg (fun z => h (e.trans z))]
   ·rw [valV_neg (p := p) e, valV_neg e, ih]
theorem valV_snoc (k j : κ) (y : V) : ∀ kvs : List (κ × V), valV kvs k = none → valV (kvs ++ [(k, y)]) j = if j = k then some y else valV kvs j
 | [], _ => by
  by_cases e : k = j
  ·rw [if_pos e.symm]; exact valV_pos (p := (k, y)) e
  ·rw [if_neg (fun z => e z.symm)]; exact valV_neg (p := (k, y)) e
 | p :: r, hn => by
  rw [List.cons_append]
  have hk : ¬ p.1 = k := fun z => by rw [valV_pos z] at hn; cases hn
  rw [valV_neg hk] at hn
  have ih := valV_snoc k j y r hn
  by_cases e : p.1 = j
  ·rw [valV_pos e, valV_pos e, if_neg (fun z => hk (e.trans z))]
  ·rw [valV_neg e, valV_neg e, ih]
theorem valV_put (kvs : List (κ × V)) (k j : κ) (y : V) : valV (putK kvs k y) j = if j = k then some y else valV kvs j := by
 unfold putK
 by_cases a : (kvs.any fun kv => decide (kv.1 = k)) = true
 ·rw [if_pos a, valV_map]
  rw [valV_any] at a
  by_cases e : j = k
  ·obtain ⟨x, hx⟩ := Option.isSome_iff_exists.mp a
   rw [if_pos e, e, hx, Option.map_some, if_pos rfl]
  ·rw [if_neg e]
   cases valV kvs j with
   | none => rfl
   | some x => rw [Option.map_some, if_neg e]
 ·rw [if_neg a]
  refine valV_snoc k j y kvs ?_
  rw [valV_any] at a
  cases q : valV kvs k with
  | none => rfl
  | some x => rw [q] at a; exact (a rfl).elim
theorem length_putK (kvs : List (κ × V)) (k : κ) (v : V) : (putK kvs k v).length ≤ kvs.length + 1 := by
 unfold putK
 split
 ·rw [List.length_map]; omega
 ·rw [List.length_append, List.length_cons, List.length_nil]; omega
theorem RelO.isSome_eq {o : Option V} {u : Option Value} (r : RelO o u) : o.isSome = u.isSome := by
 cases o with
 | none => cases u with
  | none => rfl
  | some _ => exact (show False from r).elim
 | some _ => cases u with
  | none => exact (show False from r).elim
  | some _ => rfl
theorem RelO.getD {o : Option V} {u : Option Value} {d : V} {d' : Value} (r : RelO o u) (rd : RelV d d') : RelV (o.getD d) (u.getD d') := by
 cases o with
 | none => cases u with
  | none => exact rd
  | some _ => exact (show False from r).elim
 | some _ => cases u with
  | none => exact (show False from r).elim
  | some _ => exact r
theorem KV.val {kvs : List (κ × V)} {vs : List (κ × Value)} (r : KV kvs vs) (k : κ) : RelO (valV kvs k) (valueAt vs k) := by
 unfold KV at r
 induction r with
 | nil => exact True.intro
 | @cons p q ps qs h t ih =>
  obtain ⟨h1, h2⟩ := h
  by_cases e : p.1 = k
  ·have e' : q.1 = k := h1.symm.trans e
   have b : valueAt (q :: qs) k = some q.2 := by simp [valueAt, List.find?_cons, e']
   rw [valV_pos e, b]; exact h2
  ·have e' : ¬ q.1 = k := fun z => e (h1.trans z)
   have b : valueAt (q :: qs) k = valueAt qs k := by simp [valueAt, List.find?_cons, e']
   rw [valV_neg e, b]; exact ih
theorem KV.any {kvs : List (κ × V)} {vs : List (κ × Value)} (r : KV kvs vs) (k : κ) : (kvs.any fun kv => decide (kv.1 = k)) = vs.any fun kv => decide (kv.1 = k) := by
 unfold KV at r
 induction r with
 | nil => rfl
 | cons h t ih => rw [List.any_cons, List.any_cons, ih, h.1]
theorem KV.repl {kvs : List (κ × V)} {vs : List (κ × Value)} (r : KV kvs vs) (k : κ) {y : V} {u : Value} (ry : RelV y u) :
  KV (kvs.map fun kv => if kv.1 = k then (kv.1, y) else kv) (vs.map fun kv => if kv.1 = k then (kv.1, u) else kv) := by
 unfold KV at r ⊢
 induction r with
 | nil => exact .nil
 | @cons p q ps qs h t ih =>
  rw [List.map_cons, List.map_cons]
  refine .cons ?_ ih
  obtain ⟨h1, h2⟩ := h
  by_cases e : p.1 = k
  ·rw [if_pos e, if_pos (h1.symm.trans e)]; exact ⟨h1, ry⟩
  ·rw [if_neg e, if_neg (fun z => e (h1.trans z))]; exact ⟨h1, h2⟩
theorem KV.put {kvs : List (κ × V)} {vs : List (κ × Value)} (r : KV kvs vs) (k : κ) {y : V} {u : Value} (ry : RelV y u) : KV (putK kvs k y) (stored vs k u) := by
 unfold putK stored
 rw [r.any k]
 by_cases e : (vs.any fun kv => decide (kv.1 = k)) = true
 ·rw [if_pos e, if_pos e]; exact r.repl k ry
 ·rw [if_neg e, if_neg e]; exact Paired.snoc r ⟨rfl, ry⟩
theorem KV.keys {kvs : List (κ × V)} {vs : List (κ × Value)} (r : KV kvs vs) : kvs.map (·.1) = vs.map (·.1) := by
 unfold KV at r
 induction r with
 | nil => rfl
 | cons h t ih => rw [List.map_cons, List.map_cons, ih, h.1]
theorem KV.length {kvs : List (κ × V)} {vs : List (κ × Value)} (r : KV kvs vs) : kvs.length = vs.length := Paired.length r
end
theorem kV_is {P : Program} {w : World} {k : Key} {u : Value} (r : RelV (kV k) u) : (mixKind P w).is k u = true := by
 cases k with
 | inl i => obtain ⟨t, e⟩ := (show ∃ t, u = Value.int i t from r); subst e; exact mixKind_int P w i t
 | inr x => obtain ⟨t, e⟩ := (show ∃ t, u = Value.str x t from r); subst e; exact mixKind_str P w x t
theorem items_are {P : Program} {w : World} : ∀ {ks : List Key} {us : List Value}, Vals (ks.map kV) us → ItemsAre (mixKind P w) ks us
 | [], _, r => by rw [List.map_nil] at r; cases r; exact .nil
 | k :: ks, _, r => by
  rw [List.map_cons] at r
  cases r with
  | cons h t => exact .cons (kV_is h) (items_are t)
abbrev KT (H : Hp) : List (List Key × V) → List (List Key × Addr × Value) → Prop := Paired fun p q => p.1 = q.1 ∧ H q.2.1 = some (.tup (p.1.map kV)) ∧ RelV p.2 q.2.2
theorem KT.val {H : Hp} {kvs : List (List Key × V)} {xs : List (List Key × Addr × Value)} (r : KT H kvs xs) (k : List Key) : RelO (valV kvs k) ((atKey xs k).map (·.2)) := by
 induction r with
 | nil => exact True.intro
 | @cons p q ps qs h t ih =>
  obtain ⟨h1, _, h2⟩ := h
  by_cases e : p.1 = k
  ·have e' : q.1 = k := h1.symm.trans e
   have b : atKey (q :: qs) k = some q.2 := by simp [atKey, List.find?_cons, e']
   rw [valV_pos e, b]; exact h2
  ·have e' : ¬ q.1 = k := fun z => e (h1.trans z)
   have b : atKey (q :: qs) k = atKey qs k := by simp [atKey, List.find?_cons, e']
   rw [valV_neg e, b]; exact ih
theorem KT.repl {H : Hp} {kvs : List (List Key × V)} {xs : List (List Key × Addr × Value)} (r : KT H kvs xs) (k : List Key) {y : V} {u : Value} (ry : RelV y u) :
  KT H (kvs.map fun kv => if kv.1 = k then (kv.1, y) else kv) (xs.map (putAt k u)) := by
 induction r with
 | nil => exact .nil
 | @cons p q ps qs h t ih =>
  rw [List.map_cons, List.map_cons]
  refine .cons ?_ ih
  obtain ⟨h1, h2, h3⟩ := h
  unfold putAt
  by_cases e : p.1 = k
  ·rw [if_pos e, if_pos (h1.symm.trans e)]; exact ⟨h1, h2, ry⟩
  ·rw [if_neg e, if_neg (fun z => e (h1.trans z))]; exact ⟨h1, h2, h3⟩
theorem KT.put {H : Hp} {kvs : List (List Key × V)} {xs : List (List Key × Addr × Value)} (r : KT H kvs xs) (k : List Key) {b : Addr} {y : V} {u : Value} (hb : H b = some (.tup (k.map kV))) (ry : RelV y u) :
  KT H (putK kvs k y) (storedH xs k b u) := by
 have e : (kvs.any fun kv => decide (kv.1 = k)) = (atKey xs k).isSome := by
  rw [valV_any, (r.val k).isSome_eq, Option.isSome_map]
 unfold putK storedH
 rw [e]
 by_cases q : (atKey xs k).isSome = true
 ·rw [if_pos q, if_pos q]; exact r.repl k ry
 ·rw [if_neg q, if_neg q]; exact Paired.snoc r ⟨rfl, hb, ry⟩
theorem KT.keeps {H H' : Hp} {kvs : List (List Key × V)} {xs : List (List Key × Addr × Value)} (r : KT H kvs xs) (ht : ∀ b ys, H b = some (.tup ys) → H' b = some (.tup ys)) : KT H' kvs xs :=
 Paired.mapP r fun _ _ z => ⟨z.1, ht _ _ z.2.1, z.2.2⟩
section
variable {P : Program} {w : World} {H : Hp} {h : Heap} {a : Addr}
theorem rd_of {u : HO} (ok : HOk P w H h) (e : Rd H a u) : ObjOk P w H h a u := e.ok ok
theorem dk_rd {kvs : List (Key × V)} (ok : HOk P w H h) (e : Rd H a (.dK kvs)) : kvs.length ≤ sizeLine ∧ (a == sysModules) = false ∧ ∃ vs, KV kvs vs ∧ h.DictOf (mixKind P w) a vs :=
 show ObjOk P w H h a (.dK kvs) from rd_of ok e
theorem dk_of {kvs : List (Key × V)} (ok : HOk P w H h) (e : H a = some (.dK kvs)) : kvs.length ≤ sizeLine ∧ (a == sysModules) = false ∧ ∃ vs, KV kvs vs ∧ h.DictOf (mixKind P w) a vs := dk_rd ok (.inl e)
theorem key_of {ks : List Key} (ok : HOk P w H h) (e : H a = some (.tup (ks.map kV))) : (tupleKind (mixKind P w)).is h ks a := by
 obtain ⟨_, its, r, o, h1, h2, n, h3⟩ := (show ObjOk P w H h a (.tup (ks.map kV)) from ok a _ e)
 exact ⟨o, its.toArray, n, h1, h2, h3, by simpa using items_are r⟩
theorem dt_rd {kvs : List (List Key × V)} (ok : HOk P w H h) (e : Rd H a (.dT kvs)) : kvs.length ≤ sizeLine ∧ (a == sysModules) = false ∧
  ∃ xs, KT H kvs xs ∧ h.DictOfH (tupleKind (mixKind P w)) a xs := by
 obtain ⟨z, y, xs, r, o, es, ep, h1, h2, h3, h4, h5⟩ := (show ObjOk P w H h a (.dT kvs) from rd_of ok e)
 refine ⟨z, y, xs, r, o, es, ep, h1, h2, h3, h4, fun x hx => ?_, h5⟩
 have all : ∀ {l : List (List Key × V)} {m : List (List Key × Addr × Value)}, KT H l m → ∀ x ∈ m, (tupleKind (mixKind P w)).is h x.1 x.2.1 := by
  intro l m q
  induction q with
  | nil => intro x hx; exact nomatch hx
  | @cons p q ps qs hq t ih =>
   intro x hx
   rcases List.mem_cons.mp hx with e | hx
   ·subst e
    exact key_of ok (by rw [← hq.1]; exact hq.2.1)
   ·exact ih x hx
 exact all r x hx
theorem dt_of {kvs : List (List Key × V)} (ok : HOk P w H h) (e : H a = some (.dT kvs)) : kvs.length ≤ sizeLine ∧ (a == sysModules) = false ∧
  ∃ xs, KT H kvs xs ∧ h.DictOfH (tupleKind (mixKind P w)) a xs := dt_rd ok (.inl e)
end
def DGet (H : Hp) (a : Addr) (y : V) (r : Option V) : Prop :=
 (∃ kvs k, Rd H a (.dK kvs) ∧ y = kV k ∧ r = valV kvs k) ∨ ∃ kvs k b, Rd H a (.dT kvs) ∧ y = .ref b ∧ H b = some (.tup (k.map kV)) ∧ r = valV kvs k
def DPut (H : Hp) (a : Addr) (y v : V) (H' : Hp) : Prop :=
 (∃ kvs k, H a = some (.dK kvs) ∧ y = kV k ∧ kvs.length < sizeLine ∧ H' = upd H a (.dK (putK kvs k v))) ∨
 ∃ kvs k b, H a = some (.dT kvs) ∧ y = .ref b ∧ H b = some (.tup (k.map kV)) ∧ kvs.length < sizeLine ∧ H' = upd H a (.dT (putK kvs k v))
theorem DGet.k {H : Hp} {a : Addr} {kvs : List (Key × V)} {k : Key} (e : H a = some (.dK kvs)) : DGet H a (kV k) (valV kvs k) := .inl ⟨kvs, k, .inl e, rfl, rfl⟩
theorem DGet.t {H : Hp} {a b : Addr} {kvs : List (List Key × V)} {k : List Key} (e : H a = some (.dT kvs)) (eb : H b = some (.tup (k.map kV))) : DGet H a (.ref b) (valV kvs k) := .inr ⟨kvs, k, b, .inl e, rfl, eb, rfl⟩
theorem DPut.k {H : Hp} {a : Addr} {kvs : List (Key × V)} {k : Key} {v : V} (e : H a = some (.dK kvs)) (hl : kvs.length < sizeLine) : DPut H a (kV k) v (upd H a (.dK (putK kvs k v))) := .inl ⟨kvs, k, e, rfl, hl, rfl⟩
theorem DPut.t {H : Hp} {a b : Addr} {kvs : List (List Key × V)} {k : List Key} {v : V} (e : H a = some (.dT kvs)) (eb : H b = some (.tup (k.map kV))) (hl : kvs.length < sizeLine) :
  DPut H a (.ref b) v (upd H a (.dT (putK kvs k v))) := .inr ⟨kvs, k, b, e, rfl, eb, hl, rfl⟩
section
variable {X : Cx} {pins : List (Addr × Obj)} {σ : St} {H : Hp} {s : Shared} {a : Addr} {y v : V} {u r : Value} {o : Option V} {A : Around} {E : Value → Shared → Prop}
theorem Inv.big (I : Inv X pins σ H s) : sysModules < s.heap.objs.size := by
 have h : mainGlobals < s.heap.objs.size := (I.mod.glob.keeps I.bk).lt
 exact Nat.lt_trans (by decide) h
theorem d_getItem {Q : Value → Shared → Prop} (hu : A.units + 1 < cLine) (I : Inv X pins σ H s) (g : DGet H a y (some v)) (ry : RelV y u) (h : ∀ w' s', Inv X pins σ H s' → RelV v w' → Q w' s') :
  wpAny (model X.prog X.w) A (getItem (.ref a) u) Q E s := by
 rcases g with ⟨kvs, k, e, ey, l⟩ | ⟨kvs, k, b, e, ey, eb, l⟩
 ·subst ey
  obtain ⟨z, hd, vs, rel, dd⟩ := dk_rd I.hok e
  obtain ⟨w', hw, rw'⟩ := RelO.some_of (v := v) (o := valueAt vs k) (by rw [l]; exact rel.val k)
  exact wpAny_getItem_of (kV_is ry) dd.mapOf hw (h w' _ (I.tok _) rw')
 ·subst ey
  cases (show u = Value.ref b from ry)
  obtain ⟨z, hd, xs, rel, dd⟩ := dt_rd I.hok e
  obtain ⟨w', hw, rw'⟩ := RelO.some_of (v := v) (o := (atKey xs k).map (·.2)) (by rw [l]; exact rel.val k)
  obtain ⟨p, hp, hp2⟩ := Option.map_eq_some_iff.mp hw
  refine wpAny_getItem_heap (tupleKind_room_in1 hu) (key_of I.hok eb) dd hp ?_
  rw [hp2]
  exact h w' _ (I.tok _) rw'
theorem d_notIn {Q : Value → Shared → Prop} (hu : A.units + 1 < cLine) (I : Inv X pins σ H s) (g : DGet H a y o) (ry : RelV y u) (h : ∀ s', Inv X pins σ H s' → Q (.bool (!o.isSome)) s') :
  wpAny (model X.prog X.w) A (compareOp .NotIn u (.ref a)) Q E s := by
 rcases g with ⟨kvs, k, e, ey, l⟩ | ⟨kvs, k, b, e, ey, eb, l⟩
 ·subst ey
  obtain ⟨z, hd, vs, rel, dd⟩ := dk_rd I.hok e
  refine wpAny_notIn_of (kV_is ry) hd dd.mapOf ?_
  rw [← (rel.val k).isSome_eq, ← l]
  exact h _ (I.tok _)
 ·subst ey
  cases (show u = Value.ref b from ry)
  obtain ⟨z, hd, xs, rel, dd⟩ := dt_rd I.hok e
  refine wpAny_notIn_heap (tupleKind_room_in1 hu) (key_of I.hok eb) hd dd ?_
  have q := (rel.val k).isSome_eq
  rw [Option.isSome_map] at q
  rw [← q, ← l]
  exact h _ (I.tok _)
theorem d_write {h' : Heap} {t' : Nat} {ob : HO} (I : Inv X pins σ H s) (mu : Mut (H a)) (hs : Heap.SameBut a s.heap h') (he : ∃ q, h'.get? a = some q) (new : ObjOk X.prog X.w (upd H a ob) h' a ob) :
  Inv X pins σ (upd H a ob) { s with heap := h', toks := t' } :=
 I.write (x := a) (e := a) mu (.inl rfl) (fun b q hb z => (hs.2 b hb).trans z) he new
theorem dk_new {P : Program} {w : World} {H' : Hp} {h' : Heap} {kvs : List (Key × V)} {vs : List (Key × Value)} (z : kvs.length ≤ sizeLine) (hd : (a == sysModules) = false) (rel : KV kvs vs) (dd : h'.DictOf (mixKind P w) a vs) :
  ObjOk P w H' h' a (.dK kvs) := ⟨z, hd, vs, rel, dd⟩
theorem d_setItem {H' : Hp} {Q : Unit → Shared → Prop} (hu : A.units + 1 < cLine) (I : Inv X pins σ H s) (g : DPut H a y v H') (ry : RelV y u) (rv : RelV v r) (h : ∀ s', Inv X pins σ H' s' → Q () s') :
  wpAny (model X.prog X.w) A (setItem (.ref a) u r) Q E s := by
 rcases g with ⟨kvs, k, e, ey, l, eH⟩ | ⟨kvs, k, b, e, ey, eb, l, eH⟩
 ·subst ey eH
  obtain ⟨z, hd, vs, rel, dd⟩ := dk_of I.hok e
  have hz : vs.length ≤ sizeLine := by rw [← rel.length]; exact z
  have hl : (putK kvs k v).length ≤ sizeLine := by have := length_putK kvs k v; omega
  refine wpAny_setItem_pairs (hsz := hz) (kV_is ry) dd fun h' dd' hs => h _ ?_
  have he : ∃ q, h'.get? a = some q := let ⟨q, _, _, hq, _⟩ := dd'; ⟨q, hq⟩
  exact d_write I (by rw [e]; exact True.intro) hs he (dk_new hl hd (rel.put k rv) dd')
 ·subst ey eH
  cases (show u = Value.ref b from ry)
  obtain ⟨z, hd, xs, rel, dd⟩ := dt_of I.hok e
  have hz : xs.length ≤ sizeLine := by rw [← Paired.length rel]; exact z
  have hl : (putK kvs k v).length ≤ sizeLine := by have := length_putK kvs k v; omega
  refine wpAny_setItem_heap (hsz := hz) (tupleKind_room_in1 hu) (key_of I.hok eb) dd fun h' dd' hs => h _ ?_
  obtain ⟨q, es, ep, hq, h2, h3, h4, _, h5⟩ := dd'
  refine d_write I (by rw [e]; exact True.intro) hs ⟨q, hq⟩ ⟨hl, hd, _, (rel.put k eb rv).keeps fun c ys ec => ?_, q, es, ep, hq, h2, h3, h4, h5⟩
  rw [upd_ne (ne_of ec e (fun z => nomatch z))]
  exact ec
end
section
variable {X : Cx} {pins : List (Addr × Obj)} {σ : St} {H : Hp} {s : Shared} {a : Addr} {kvs : List (Key × V)} {k : Key} {u : Value} {A : Around} {E : Value → Shared → Prop}
theorem d_len {Q : Value → Shared → Prop} (I : Inv X pins σ H s) (e : Rd H a (.dK kvs)) (h : ∀ t s', Inv X pins σ H s' → Q (.int kvs.length t) s') : wpAny (model X.prog X.w) A (call (.builtin "len") [.ref a]) Q E s := by
 obtain ⟨z, hd, vs, rel, dd⟩ := dk_rd I.hok e
 refine call_len_dict hd dd (by rw [← rel.length]; rw [sizeLine_eq] at z; omega) ?_
 rw [← rel.length]
 exact h _ _ (I.tok _)
end
def NoSl (i : Expr) : Prop := ∀ ov iv, subscripted i false ov iv = operate [ov, iv] (getItem ov iv)
theorem subD_of {prog : Program} {w : World} {A : Around} {E : Value → Shared → Prop} {s : Shared} {env : Env} {value slice : Expr} {pos : Pos} {T id : String} {Q : Value → Shared → Prop}
  (hl : typeLookup (.type T) "__getitem__" = pure (some (.builtin id))) (hs : NoSl slice)
  (h : wpAny (model prog w) A (eval value env) (fun o s₁ => wpAny (model prog w) A (eval slice env) (fun i s₂ => s₂.TypeIs o T ∧ wpAny (model prog w) A (getItem o i) Q E s₂) E s₁) E s) :
  wpAny (model prog w) A (eval (.Subscript value slice pos) env) Q E s := by
 refine Subscript_ (wpAny_mono h (fun o s₁ h₁ => wpAny_mono h₁ (fun i s₂ h₂ => ?_) fun _ _ x => x) fun _ _ x => x)
 obtain ⟨hT, h₂⟩ := h₂
 unfold subscriptTail
 refine wpAny_bind ?_
 rw [getitemInPython_of_ne hT.not_modules]
 refine wpAny_bind (wpAny_specialOf hT hl ?_)
 have fin : wpAny (model prog w) A (subscripted slice false o i) (fun r s₃ => wpAny (model prog w) A (letTemporaryGo value o r >>= fun _ => pure r) Q E s₃) E s₂ := by
  rw [hs o i]
  exact wpAny_operating (wpAny_mono h₂ (fun r s₃ h₃ => wpAny_bind (wpAny_letTemporaryGo (wpAny_pure h₃))) fun _ _ x => x)
 first
  | exact wpAny_pure (wpAny_bind fin)
  | exact wpAny_bind (wpAny_pure (wpAny_bind fin))
  | exact wpAny_bind fin
theorem dict_typeIs {X : Cx} {pins : List (Addr × Obj)} {σ : St} {H : Hp} {s : Shared} {a : Addr} {y : V} {o : Option V} (I : Inv X pins σ H s) (g : DGet H a y o) : s.TypeIs (.ref a) "dict" := by
 rcases g with ⟨kvs, k, e, _, _⟩ | ⟨kvs, k, b, e, _, _, _⟩
 ·obtain ⟨_, _, vs, _, dd⟩ := dk_rd I.hok e
  exact dd.typeIs
 ·obtain ⟨_, _, xs, _, dd⟩ := dt_rd I.hok e
  exact dd.typeIs
def tDGet (td ty : TE) : TE := fun σ H Q => td σ H fun x H1 => ty σ H1 fun y H2 => ∃ a v, x = .ref a ∧ DGet H2 a y (some v) ∧ Q v H2
def tDNotIn (ty td : TE) : TE := fun σ H Q => ty σ H fun y H1 => td σ H1 fun x H2 => ∃ a o, x = .ref a ∧ DGet H2 a y o ∧ Q (.bl (!o.isSome)) H2
def sDPut (td ty tv : TE) : TS := fun D σ H => tv σ H fun v H1 => td σ H1 fun x H2 => ty σ H2 fun y H3 => ∃ a H4, x = .ref a ∧ DPut H3 a y v H4 ∧ D.nx σ H4
section
variable {X : Cx} {o i e value : Expr} {pos pos' tpos : Pos} {td ty tv : TE}
theorem pe_dget (hu : X.A.units + 1 < cLine) (ho : PE X o td) (hi : PE X i ty) (hs : NoSl i) : PE X (.Subscript o i pos) (tDGet td ty) := by
 intro pins s σ H Q I h
 refine subD_of PySem.F.slot_dict_getitem.lookup hs (thn (ho pins s σ H _ I h) fun u s1 ⟨x, H1, I1, rx, q1⟩ => thn (hi pins s1 σ H1 _ I1 q1) fun iv s2 ⟨y, H2, I2, ry, a, v, ex, g, q2⟩ => ?_)
 subst ex
 obtain rfl : u = Value.ref a := rx
 exact ⟨dict_typeIs I2 g, d_getItem hu I2 g ry fun w' s3 I3 rw' => ⟨v, H2, I3, rw', q2⟩⟩
theorem pc_dnotin (hu : X.A.units + 1 < cLine) (hi : PE X i ty) (ho : PE X o td) : PC X .NotIn i o (tDNotIn ty td) := by
 intro pins s σ H Q I h
 refine thn (hi pins s σ H _ I h) fun iv s1 ⟨y, H1, I1, ry, q1⟩ => thn (ho pins s1 σ H1 _ I1 q1) fun u s2 ⟨x, H2, I2, rx, a, ov, ex, g, q2⟩ => ?_
 subst ex
 obtain rfl : u = Value.ref a := rx
 exact d_notIn hu I2 g ry fun s3 I3 => ⟨.bl (!ov.isSome), H2, I3, rfl, q2⟩
theorem ps_dput (hu : X.A.units + 1 < cLine) (ho : PE X o td) (hi : PE X i ty) (hv : PE X value tv) (hs : swapsWith value (some (.Subscript o i pos')) pos.line X.env = pure false) :
  PS X (.Assign [.Subscript o i pos'] value pos) (sDPut td ty tv) := by
 intro pins s σ H D I h
 refine wpAny_Assign_Subscript (thn (hv pins s σ H _ I h) fun r s1 ⟨v, H1, I1, rv, q1⟩ => thn (ho pins s1 σ H1 _ I1 q1) fun u s2 ⟨x, H2, I2, rx, q2⟩ => thn (hi pins s2 σ H2 _ I2 q2) fun iv s3 ⟨y, H3, I3, ry, a, H4, ex, g, q3⟩ => ?_) hs
 subst ex
 obtain rfl : u = Value.ref a := rx
 exact d_setItem hu I3 g ry rv fun s4 I4 => ⟨σ, H4, I4, q3⟩
end
theorem dk_empty {P : Program} {w : World} {H : Hp} (h : Heap) (hb : sysModules < h.objs.size) : ObjOk P w H (h.push { cls := .type "dict", data := .dict #[] }) h.objs.size (.dK []) :=
 ⟨Nat.zero_le _, beq_eq_false_iff_ne.mpr (Ne.symm (Nat.ne_of_lt hb)), [], .nil, Heap.DictOf.new h⟩
theorem dt_empty {P : Program} {w : World} {H : Hp} (h : Heap) (hb : sysModules < h.objs.size) : ObjOk P w H (h.push { cls := .type "dict", data := .dict #[] }) h.objs.size (.dT []) :=
 ⟨Nat.zero_le _, beq_eq_false_iff_ne.mpr (Ne.symm (Nat.ne_of_lt hb)), [], .nil, _, #[], 0, Heap.get?_push_size _ rfl, ⟨rfl, rfl, rfl⟩, rfl, rfl, List.nodup_nil⟩
def tDNewK : TE := fun _ H Q => ∀ p, H p = none → Q (.ref p) (upd H p (.dK []))
def tDNewT : TE := fun _ H Q => ∀ p, H p = none → Q (.ref p) (upd H p (.dT []))
section
variable {X : Cx} {pos : Pos}
theorem pe_dnewK : PE X (.Dict [] [] pos) tDNewK := fun pins s σ H Q I h =>
 wpAny_Dict_empty ⟨.ref s.heap.objs.size, _, I.laid (a := s.heap.objs.size) (o := .dK []) (t' := s.toks) (fun _ _ q => Heap.get?_push_of_some _ q) (Nat.le_refl _) (dk_empty s.heap I.big), rfl, h _ (I.hok.fresh (Nat.le_refl _))⟩
theorem pe_dnewT : PE X (.Dict [] [] pos) tDNewT := fun pins s σ H Q I h =>
 wpAny_Dict_empty ⟨.ref s.heap.objs.size, _, I.laid (a := s.heap.objs.size) (o := .dT []) (t' := s.toks) (fun _ _ q => Heap.get?_push_of_some _ q) (Nat.le_refl _) (dt_empty s.heap I.big), rfl, h _ (I.hok.fresh (Nat.le_refl _))⟩
end
def tPairs : List (TE × TE) → St → Hp → (List (V × V) → Hp → Prop) → Prop
 | [], _, H, Q => Q [] H
 | (tk, tv) :: r, σ, H, Q => tk σ H fun x H1 => tv σ H1 fun y H2 => tPairs r σ H2 fun ps H3 => Q ((x, y) :: ps) H3
abbrev VV : List (V × V) → List (Value × Value) → Prop := Paired fun p q => RelV p.1 q.1 ∧ RelV p.2 q.2
def PPs (X : Cx) (pos : Pos) (keys : List (Option Expr)) (values : List Expr) (trs : List (TE × TE)) : Prop :=
 ∀ (pins : List (Addr × Obj)) (s : Shared) (σ : St) (H : Hp) (Q : List (V × V) → Hp → Prop), Inv X pins σ H s → tPairs trs σ H Q →
  wpAny (model X.prog X.w) X.A (evalPairs (pairTrees keys values X.env pos)) (fun vs s' => ∃ ps H', Inv X pins σ H' s' ∧ VV ps vs ∧ Q ps H') X.xe s
def mergeK (kvs more : List (Key × V)) : List (Key × V) := more.foldl (fun acc kv => putK acc kv.1 kv.2) kvs
theorem length_mergeK : ∀ (more kvs : List (Key × V)), (mergeK kvs more).length ≤ kvs.length + more.length
 | [], kvs => by show kvs.length ≤ kvs.length + 0; omega
 | p :: r, kvs => by
  have h1 := length_mergeK r (putK kvs p.1 p.2)
  have h2 := length_putK kvs p.1 p.2
  show (mergeK (putK kvs p.1 p.2) r).length ≤ _
  rw [List.length_cons]; omega
structure M1 (X : Cx) (o : Expr) (m : Str) (apos : Pos) (e : Expr) (cpos : Pos) : Prop where
 base : attributeBase o m X.env (eval o X.env) = eval o X.env
 few : ((backTo cpos (starEach [e] X.env)).all (fun x => !x.1) && (backToKw cpos (keywordEach [] X.env)).all (fun x => x.1.isSome)
  && decide (([e] : List Expr).length + ([] : List Keyword).length + (if ([] : List Keyword).isEmpty then 0 else 1) < 30)) = true
 line : (apos.endLine == cpos.line) = true
 trees : backTo cpos (starEach [e] X.env) = [(false, eval e X.env)]
structure M2 (X : Cx) (o : Expr) (m : Str) (apos : Pos) (e f : Expr) (cpos : Pos) : Prop where
 base : attributeBase o m X.env (eval o X.env) = eval o X.env
 few : ((backTo cpos (starEach [e, f] X.env)).all (fun x => !x.1) && (backToKw cpos (keywordEach [] X.env)).all (fun x => x.1.isSome)
  && decide (([e, f] : List Expr).length + ([] : List Keyword).length + (if ([] : List Keyword).isEmpty then 0 else 1) < 30)) = true
 line : (apos.endLine == cpos.line) = true
 trees : backTo cpos (starEach [e, f] X.env) = [(false, eval e X.env), (false, eval f X.env)]
section
variable {X : Cx} {pins : List (Addr × Obj)} {σ : St} {H : Hp} {s : Shared} {a : Addr} {y d : V} {u r : Value} {o : Option V} {A : Around} {E : Value → Shared → Prop}
end
section
variable {X : Cx} {o e f : Expr} {apos cpos : Pos} {td ty tx : TE}
end
section
variable {X : Cx} {pins : List (Addr × Obj)} {σ : St} {H : Hp} {s : Shared} {a : Addr} {kvs : List (Key × V)} {A : Around} {E : Value → Shared → Prop}
end
section
variable {X : Cx} {pins : List (Addr × Obj)} {σ : St} {H : Hp} {s : Shared} {a : Addr} {y : V} {u : Value} {A : Around} {E : Value → Shared → Prop}
end
end L2
namespace Att
open PySem PySem.W PySem.Calls PyProof.Rows
theorem ints_of_wellAll {P : Params} {h : Heap} : ∀ (ns : List Int) (vs : List Value), WellAll P h vs (ns.map WData.int) → IntsAre vs ns := by
 intro ns
 induction ns with
 | nil =>
  intro vs w
  rw [List.map_nil] at w
  cases w
  exact .nil
 | cons n ns ih =>
  intro vs w
  rw [List.map_cons] at w
  cases w with
  | cons a b =>
   cases a
   exact .cons _ _ (ih _ b)
theorem script_of {l : OpenLaw} {n : Nat} (hn : l.most = some n) {P : Params} {h : Heap} {args : List WData} {vals : List Value}
  (hpre : l.row.toRowW.claim.pre args = true) (hwl : WellAll P h vals args) :
  ∃ a vs ns, vals = [Value.ref a] ∧ args = [WData.list (ns.map WData.int)] ∧ h.get? a = some { cls := .type "list", data := .seq vs.toArray } ∧ IntsAre vs ns ∧ ns.length ≤ n := by
 have hsh : WShape.hasAll [] args [.list .int] = true := (pre_splitW hpre).1
 have hc : l.pre.holds [] { args := args } = true := (pre_splitW hpre).2
 obtain ⟨d, r, rfl, h1, h2⟩ := hasAllW_cons hsh
 obtain rfl := hasAllW_nil h2
 obtain ⟨xs, rfl, h3⟩ := hasW_list h1
 obtain ⟨ns, rfl⟩ := items_int h3
 have hlen : ns.length ≤ n := by
  unfold OpenLaw.pre at hc
  have h4 : (WTm.not (.lt (.lit (.int (n : Int))) (.len (.arg 0)))).holds [] { args := [.list (ns.map .int)] } = true := by
   have h4 := (holds_andW hc).1
   rw [hn] at h4
   exact h4
  have h5 := condW_of h4 (w_not (w_lt w_lit (w_len_list (w_arg rfl))))
  rw [List.length_map] at h5
  refine Nat.le_of_not_lt fun q => ?_
  have q' : (n : Int) < ((ns.length : Nat) : Int) := by omega
  first
   | (rw [decide_eq_true q'] at h5; exact absurd h5 (by decide))
   | (simp at h5; omega)
 cases hwl with
 | cons w1 w2 =>
  cases w2
  cases w1 with
  | list ho hall => exact ⟨_, _, ns, rfl, rfl, ho, ints_of_wellAll ns _ hall, hlen⟩
theorem post_true (l : OpenLaw) (args : List WData) : l.row.toRowW.claim.post args (.bool true) args = true :=
 postW_of (r := l.row.toRowW) (X := (true == true))
  (show WShape.has [] (.bool true) .bool = true by first | rfl | decide | simp [WShape.has, WShape.arms, WShape.armsAll])
  (show (WTm.eq .res (.lit (.bool true))).value [] { args := args, res := some (.bool true), after := args } = some (.bool (true == true)) from w_eq_bool (w_res rfl) w_lit) rfl
theorem attach_call {l : OpenLaw} {n : Nat} {q : Program} {loose : List Str} {XP : (Str → Option Value) → Heap → Prop} {YP : World → Heap → Prop} {d : DefRec}
  (hn : l.most = some n) (hdf : d.params.defaults = [])
  (call : ∀ (w : World) (s₀ s₁ : Shared) (mg mb : Str → Option Value) (fa : Addr) (o : Obj) (pm cd doc : Value) (a : Addr) (vs : List Value) (ns : List Int),
   Ground q loose [] XP w s₀ mg mb s₁.heap → YP w s₁.heap →
   s₁.heap.get? fa = some o → o.data = .func (docDef d.name d.params d.body d.scope pm cd doc) → s₁.heap.CodeRec cd d.name → mg d.name = some (.ref fa) →
   s₁.heap.get? a = some { cls := .type "list", data := .seq vs.toArray } → IntsAre vs ns → ns.length ≤ n → s₁.gens = #[] →
   codeAny (model l.prog w) callerA (.call (.ref fa) ⟨[.ref a], []⟩) (fun r s' => r = .ok (.ret (.bool true)) ∧ OldK s₁.heap s'.heap ∧ s'.os = s₁.os ∧ AllBare s'.gens) s₁) :
  WalkO q loose XP YP l.row.toRowW d [] (fun f vs => PySem.call f vs) := by
 intro w s₀ s₁ mg mb G Y fa o pm cd doc dV kV ho hd hcd hD hmg hg args vals as hpre hlay hrd hwl hlo
 obtain rfl : dV = .none := Dflts.none hD hdf
 obtain rfl : kV = .none := Dflts.noKw hD
 obtain ⟨a, vs, ns, rfl, rfl, hobj, hints, hlen⟩ := script_of hn hpre hwl
 refine enter_call (codeAny_mono (call w s₀ s₁ mg mb fa o pm cd doc a vs ns G Y ho (fd_plain hd) hcd hmg hobj hints hlen hg) fun r s' hq => ?_)
 obtain ⟨rfl, h2, h3, h4⟩ := hq
 exact ⟨.inl ⟨.bool true, .bool true, [], rfl, fun _ => rfl, .bool true, post_true l _, fun _ => ⟨List.Pairwise.nil, fun _ hm => (nomatch hm)⟩⟩, h2, h3, h4⟩
section
variable {prog : Program} {w : World} {A : Around} {E : Value → Shared → Prop} {s : Shared} {K : Frag}
def ledger (h : Heap) (L d : Addr) : List (Addr × Obj) := (List.range h.objs.size).filterMap fun a => if a = L ∨ a = d then none else (h.get? a).map fun o => (a, o)
end
end Att
namespace L2
open PySem PySem.Spec PyProof.Rows
theorem vals_ints : ∀ {vs : List Value} {ns : List Int}, IntsAre vs ns → Vals (ns.map V.int) vs
 | _, _, .nil => .nil
 | _, _, .cons n t h => .cons ⟨t, rfl⟩ (vals_ints h)
def Only (H : Hp) : Prop := ∀ b, H b = none ∨ ∃ o xs, H b = some (.frz o (.lst xs))
theorem law_call {P : Program} {w : World} {K : PySem.W.Frag} {mg mb : Str → Option Value} {CX : CXT} {k : Nat} {fa a : Addr} {fd : FuncData} {x : Str} {sp : Sp} {s₁ : Shared} {vs : List Value} {ns : List Int}
  (KX : K.In s₁.heap) (hns : s₁.heap.Ns mainGlobals mg) (hb : s₁.heap.Ns builtinsNs mb) (hbb : ∀ x : Str, x ≠ "__name__" → mb x = bootBuiltins x) (hlim : s₁.heap.NoLimit) (hg : s₁.gens = #[])
  (ha : s₁.heap.get? a = some { cls := .type "list", data := .seq vs.toArray }) (hi : IntsAre vs ns) (hl : ns.length ≤ sizeLine) (hr : Room k callerA)
  (F : ∀ base : Heap, K.In base → base.Ns mainGlobals mg → FnOk P w K mg base CX k fa fd [x] sp) (hbind : ∀ (s : Shared) (u : Value), BindsTo s fd ⟨[u], []⟩ [(x, u)])
  (hsp : ∀ H : Hp, Only H → SqL K H a (ns.map V.int) → sp [.ref a] H (fun v _ => v = .bl true) fun _ _ _ => False)
  (hCX : ∀ H e s', CX [] H s₁ (fun _ _ _ => False) e s' → False) :
  codeAny (model P w) callerA (.call (.ref fa) ⟨[.ref a], []⟩) (fun r s' => r = .ok (.ret (.bool true)) ∧ OldK s₁.heap s'.heap ∧ s'.os = s₁.os ∧ AllBare s'.gens) s₁ := by
 have rv := vals_ints hi
 have lenV := hi.length
 -- from an abstract heap in which nothing but the script may be tracked
 have core : ∀ H : Hp, Only H → SqL K H a (ns.map V.int) → HOk P w H s₁.heap → (∀ b, H b ≠ none → b = a) → (H a ≠ none → K.lookup a = none) →
   codeAny (model P w) callerA (.call (.ref fa) ⟨[.ref a], []⟩) (fun r s' => r = .ok (.ret (.bool true)) ∧ OldK s₁.heap s'.heap ∧ s'.os = s₁.os ∧ AllBare s'.gens) s₁ := by
  intro H hO hS hok hA hK
  have base_of : ∀ {b : Addr} {o : Obj}, s₁.heap.get? b = some o → H b = none → (hidT s₁.heap H).get? b = some o := fun e n => hidT_get e n
  have noA : ∀ {b : Addr} {o : Obj} {es : Array DictEntry} {ep : Nat}, s₁.heap.get? b = some o → o.data = .dict es ep → H b = none := fun {b o es ep} e d => by
   cases q : H b with
   | none => rfl
   | some u =>
    have e' : b = a := hA b (by rw [q]; simp)
    subst e'
    rw [ha] at e; cases e
    have d' : Data.seq vs.toArray _ = Data.dict es ep := d
    cases d'
  have nsK : ∀ {b : Addr} {m : Str → Option Value}, s₁.heap.Ns b m → (hidT s₁.heap H).Ns b m := fun {b m} ⟨o, es, ep, e, d, r⟩ => ⟨o, es, ep, base_of e (noA e d), d, r⟩
  have hKb : K.In (hidT s₁.heap H) := fun b o e => base_of (KX b o e) (by
   cases q : H b with
   | none => rfl
   | some u =>
    have e' : b = a := hA b (by rw [q]; simp)
    subst e'
    rw [hK (by rw [q]; simp)] at e; cases e)
  have hM : Mod K mg (hidT s₁.heap H) := ⟨hKb, nsK hns, ⟨mb, nsK hb, hbb⟩, let ⟨mc, h1, h2⟩ := hlim; ⟨mc, nsK h1, h2⟩⟩
  have e0 : Env0 P w K mg (hidT s₁.heap H) callerA [] s₁ H := ⟨rfl, hM, fun b o e => of_hidT e, Nat.le_of_eq (hidT_size _ _), trivial, fun b hb => absurd (show b ∈ ([] : List Addr) from hb) (by simp), hok, .of_eq hg⟩
  refine codeAny_mono ((F _ hKb (nsK hns)).run callerA [] s₁ H ⟨[.ref a], []⟩ [.ref a] [.ref a] _ _ hr e0 (hbind s₁ (.ref a)) (.cons rfl .nil) (hsp H hO hS)) fun r s' h => ?_
  cases r with
  | error e => exact (hCX H e s' h).elim
  | ok fl =>
   cases fl with
   | next => exact False.elim h
   | brk => exact False.elim h
   | cont => exact False.elim h
   | ret u =>
    obtain ⟨v, H', os, bare, un, hok', r', q⟩ := h
    have q' : v = .bl true := q
    subst q'
    obtain rfl : u = Value.bool true := r'
    refine ⟨rfl, OldK.of_keep fun b o e => ?_, os, bare⟩
    cases q : H b with
    | none => exact un.keep b o e q (by intro z; exact absurd (show b ∈ ([] : List Addr) from z) (by simp)) (by simp)
    | some u =>
     rcases hO b with z | ⟨ob, xs, z⟩
     ·rw [q] at z; cases z
     ·have z2 := un.frzs b ob _ z
      obtain ⟨e1, _⟩ := hok b _ z
      obtain ⟨e2, _⟩ := hok' b _ z2
      rw [e] at e1; cases e1
      exact e2
 cases hk : K.lookup a with
 | some o =>
  -- the script is one of the module's own objects
  have e := KX a o hk
  rw [ha] at e
  cases e
  refine core (fun _ => none) (fun _ => .inl rfl) (.inr ⟨_, vs.toArray, _, hk, rfl, rfl, rfl, by rw [List.size_toArray, lenV]; exact hl, by simpa using rv⟩) (fun b u z => by have z' : (none : Option HO) = some u := z; cases z') (fun b z => absurd rfl z) fun z => absurd rfl z
 | none =>
  refine core (fun b => if b = a then some (.frz { cls := .type "list", data := .seq vs.toArray } (.lst (ns.map V.int))) else none) (fun b => ?_) (.inl (.inr ⟨{ cls := .type "list", data := .seq vs.toArray }, if_pos rfl⟩)) (fun b u z => ?_) (fun b z => ?_) fun _ => hk
  ·by_cases hb : b = a
   ·exact .inr ⟨_, _, if_pos hb⟩
   ·exact .inl (if_neg hb)
  ·by_cases hb : b = a
   ·have z' := (if_pos hb).symm.trans z
    cases z'
    subst hb
    exact ⟨ha, by rw [List.length_map]; exact hl, vs, _, rv, ha⟩
   ·have z' := (if_neg hb).symm.trans z
    cases z'
  ·by_cases hb : b = a
   ·exact hb
   ·exact absurd (if_neg hb) z
abbrev KOf {K : PySem.W.Frag} {h : Heap} (_ : K.In h) : PySem.W.Frag := K
theorem walk_of {l : PySem.W.OpenLaw} {n k : Nat} {q : Program} {loose : List Str} {XP : (Str → Option Value) → Heap → Prop} {YP : World → Heap → Prop} {d : DefRec} {K : Params → PySem.W.Frag} {CX : World → CXT} {sp : World → Sp} {x : Str}
  (hn : l.most = some n) (hn2 : n ≤ sizeLine) (hdf : d.params.defaults = []) (hr : Room k callerA)
  (hY : ∀ (w : World) (h : Heap), YP w h → (K w.params).In h)
  (F : ∀ (w : World) (mg : Str → Option Value) (fa : Addr) (h : Heap), (K w.params).In h → h.Ns mainGlobals mg → mg d.name = some (.ref fa) →
   ∃ fd : FuncData, (∀ (s : Shared) (u : Value), BindsTo s fd ⟨[u], []⟩ [(x, u)]) ∧
    ∀ base : Heap, (K w.params).In base → base.Ns mainGlobals mg → FnOk l.prog w (K w.params) mg base (CX w) k fa fd [x] (sp w))
  (hsp : ∀ (w : World) (H : Hp) (a : Addr) (ns : List Int), ns.length ≤ n → Only H → SqL (K w.params) H a (ns.map V.int) → sp w [.ref a] H (fun v _ => v = .bl true) fun _ _ _ => False)
  (hCX : ∀ (w : World) (H : Hp) (s : Shared) (e : Value) (s' : Shared), CX w [] H s (fun _ _ _ => False) e s' → False) :
  PySem.W.WalkO q loose XP YP l.row.toRowW d [] (fun f vs => PySem.call f vs) := by
 refine Att.attach_call hn hdf fun w s₀ s₁ mg mb fa o pm cd doc a vs ns G Y ho hd hcd hmg hobj hints hlen hg => ?_
 have KX := hY w _ Y
 obtain ⟨fd, hb, hF⟩ := F w mg fa _ KX G.T.g hmg
 exact law_call KX G.T.g G.T.b G.T.builtins G.T.nolimit hg hobj hints (Nat.le_trans hlen hn2) hr hF hb (fun H hO hS => hsp w H a ns hlen hO hS) fun H e s' => hCX w H s₁ e s'
end L2
/- THE LAST THEOREM (shape; LID, My.* are yours):
   My.Adr: a structure of the addresses that your layer names (classes, functions); My.Txt K t: a structure (Prop) of the equations over K;
   My.txt_mk : {K} {implicit addresses ..} (e1 : nsIn K mainGlobals "law" = some (some (.ref f))) (e2 : K.lookup f = some ⟨oc, od, .func (fnOf "law" "law" params body scope dV kV doc pm an cdv ct), sl⟩) (e3 : codeIn K cdv "law" = true) .. : ∃ t, My.Txt K t
set_option maxRecDepth 100000 in
set_option maxHeartbeats 0 in
theorem PySem.Challenge.cw_LID_holds : PySem.Challenge.rw_LID.Holds := by
 w_on; o_law; k_head; (case hw => w_witness2)
 k_fill
 refine L2.walk_of (l := PySem.Challenge.rw_LID) (n := 63) (k := 40) (x := "script") (CX := fun w => ..) (sp := fun _ => My.sp_law) rfl (by decide) rfl ⟨rfl, by decide, by decide⟩ (fun w h Y => PySem.W.kIn_of Y) ?F ?S ?C
 case F =>
  intro w mg fa h KX G hmg
  have T : ∃ t, My.Txt (L2.KOf KX) t := by
   dsimp only [L2.KOf]                          -- K must stand as «<heap const> w.params» for k_is
   refine' My.txt_mk ?e1 ?e2 ?e3 ..
   (case e1 => PySem.W.k_is)                    -- in the order: a name -> its address -> its object -> its parts
   (case e2 => PySem.W.k_is)
   ..
  obtain ⟨t, T⟩ := T
  have e0 := hmg.symm.trans (PySem.W.mg_of KX G T.law)
  cases e0                                       -- fa is the law's own address
  exact ⟨_, fun s u => .of_eq rfl, fun base kb nb => My.law_fn T kb nb⟩     -- if «.of_eq rfl» comes too early: refine' ⟨_, ?b, fun base kb nb => My.law_fn T kb nb⟩; exact fun s u => .of_eq rfl
 case S => exact fun w H a ns hl hO hS => ..
 case C => exact ..
(the tactic k_is has no namespace: write k_is) -/
namespace L2
open PySem PySem.Spec PyProof.Rows
def inClass (s : Stmt) (j : Nat) : Stmt := match s with
 | .ClassDef _ _ _ body _ _ _ _ _ _ _ => body.getD j (.Pass ⟨0, 0, 0, 0⟩)
 | _ => .Pass ⟨0, 0, 0, 0⟩
def defArgs (s : Stmt) : Arguments := match s with
 | .FunctionDef _ a _ _ _ _ _ _ _ _ => a
 | _ => { posonlyargs := [], args := [], vararg := none, kwonlyargs := [], kw_defaults := [], kwarg := none, defaults := [] }
def defBody (s : Stmt) : List Stmt := match s with
 | .FunctionDef _ _ b _ _ _ _ _ _ _ => b
 | _ => []
def defScope (s : Stmt) : Scope := match s with
 | .FunctionDef _ _ _ _ _ _ sc _ _ _ => sc
 | _ => { kind := .function, names := [], isGenerator := false, isCoroutine := false }
abbrev CX0 : CXT := fun _ _ _ _ _ _ => False
abbrev E0 : XK := fun _ _ _ => False
theorem pass0 {X : Cx} : Passes CX0 X E0 := fun _ _ _ _ _ _ _ h => h.elim
structure Fun (K : PySem.W.Frag) (x qual : Str) (st : Stmt) (f : Addr) (fd : FuncData) : Prop where
 ex : ∃ (oc : Value) (od : Option Addr) (kV doc pm : Value) (an : Option Addr) (cdv ct : Value) (osl : Array (Option Value)),
  fd = PySem.W.fnOf x qual (defArgs st) (defBody st) (defScope st) .none kV doc pm an cdv ct ∧ K.lookup f = some ⟨oc, od, .func fd, osl⟩ ∧ PySem.W.codeIn K cdv qual = true
 kp : PySem.W.keepIn K (.ref f) = true
section
variable {P : Program} {w : World} {K : PySem.W.Frag} {mg : Str → Option Value} {base : Heap}
theorem Fun.ok {x qual : Str} {st : Stmt} {f : Addr} {fd : FuncData} {N ps : List Str} {k : Nat} {sp : Sp} (F : Fun K x qual st f fd) (S : FnScope N ps (defScope st)) (len : ∀ vs H Q E, sp vs H Q E → vs.length = ps.length)
  (hbody : ∀ (cdv : Value) (A : Around) (outer : List Env) (s : Shared) (H : Hp) (vs : List V) (Q : VK) (E : XK), Room k (A.deeper (envOfC qual (defScope st) s.heap.objs.size f cdv)) → sp vs H Q E →
   ∃ t, PSs (cxOf CX0 P w K mg base N qual (defScope st) f cdv A outer s H E).nox (defBody st) t ∧ t { nx := fun _ H' => Q .non H', rt := Q } (start N vs) H) : FnOk P w K mg base CX0 (k + 1) f fd ps sp := by
 obtain ⟨oc, od, kV, doc, pm, an, cdv, ct, osl, rfl, lk, hcd⟩ := F.ex
 refine fn_of lk hcd S len fun A outer s H vs Q E hr hsp => ?_
 obtain ⟨t, h, q⟩ := hbody cdv A outer s H vs Q E hr hsp
 exact ⟨t, h.nox, q⟩
theorem Fun.binds {x qual : Str} {st : Stmt} {f : Addr} {fd : FuncData} {ps : List Str} (F : Fun K x qual st f fd)
  (h : ∀ (kV doc pm : Value) (an : Option Addr) (cdv ct : Value) (us : List Value), us.length = ps.length → bindArgs (PySem.W.fnOf x qual (defArgs st) (defBody st) (defScope st) .none kV doc pm an cdv ct) ⟨us, []⟩ = pure (ps.zip us)) : Binds K fd ps [] := by
 obtain ⟨oc, od, kV, doc, pm, an, cdv, ct, osl, rfl, lk, hcd⟩ := F.ex
 exact .all (h kV doc pm an cdv ct)
theorem fun_mk {x qual : Str} {st : Stmt} {f : Addr} {oc : Value} {od an : Option Addr} {osl : Array (Option Value)} {kV doc pm cdv ct : Value} (l : K.lookup f = some ⟨oc, od, .func (PySem.W.fnOf x qual (defArgs st) (defBody st) (defScope st) .none kV doc pm an cdv ct), osl⟩)
  (c : PySem.W.codeIn K cdv qual = true) (k : PySem.W.keepIn K (.ref f) = true) : Fun K x qual st f (PySem.W.fnOf x qual (defArgs st) (defBody st) (defScope st) .none kV doc pm an cdv ct) := ⟨⟨oc, od, kV, doc, pm, an, cdv, ct, osl, rfl, l, c⟩, k⟩
end
theorem hu_of {A : Around} {k : Nat} (hr : Room k A) : A.units + 1 < cLine := Nat.lt_of_le_of_lt (Nat.add_le_add_left (by decide : 1 ≤ 64) _) hr.units
section
variable {X : Cx}
theorem call_lenD : CallR X (.builtin "len") (fun xs H Q => ∃ a kvs, xs = [V.ref a] ∧ H a = some (.dK kvs) ∧ Q (.int kvs.length) H) := by
 intro pins s σ H xs us Q I r h
 obtain ⟨a, kvs, rfl, ha, q⟩ := h
 obtain ⟨u, rfl, ru⟩ := vals1 r
 cases ru
 exact d_len I (.inl ha) fun t s' I' => ⟨.int kvs.length, H, I', ⟨t, rfl⟩, q⟩
end
def Same (H H' : Hp) : Prop := ∀ b o, H b = some o → H' b = some o
theorem Same.refl (H : Hp) : Same H H := fun _ _ h => h
theorem Same.trans {H H1 H2 : Hp} (a : Same H H1) (b : Same H1 H2) : Same H H2 := fun c o h => b c o (a c o h)
theorem Same.free {H H' : Hp} (e : Same H H') {l : Addr} (h : H' l = Option.none) : H l = Option.none := by
 cases q : H l with
 | none => rfl
 | some o =>
  rw [e l o q] at h
  cases h
theorem Same.seq {K : PySem.W.Frag} {H H' : Hp} {a : Addr} {xs : List V} (e : Same H H') (h : SqL K H a xs) : SqL K H' a xs := by
 rcases h with (h | ⟨o, h⟩) | h
 ·exact .inl (.inl (e _ _ h))
 ·exact .inl (.inr ⟨o, e _ _ h⟩)
 ·exact .inr h
section
variable {κ : Type} [DecidableEq κ]
end
def clOf (env : Env) : List (Str × NameKind) → List (Str × Addr) → List (Str × Addr)
 | [], acc => acc
 | (n, k) :: r, acc => if (k == NameKind.free) = true then clOf env r ((n, (env.cells.lookup n).getD 0) :: acc) else clOf env r acc
theorem cellOf_eq {env : Env} {n : Str} {c : Addr} (h : env.cells.lookup n = some c) : cellOf env n = pure c := by
 unfold cellOf
 rw [h]
theorem closure_go {env : Env} : ∀ (names : List (Str × NameKind)) (acc : List (Str × Addr)), (∀ x ∈ names, x.2 = .free → ∃ c, env.cells.lookup x.1 = some c) →
  (forIn names acc fun (x : Str × NameKind) (cs : List (Str × Addr)) => (match x with | (name, kind) => if (kind == NameKind.free) = true then (do let __do_lift ← cellOf env name; pure PUnit.unit; pure (ForInStep.yield ((name, __do_lift) :: cs)) : Sem _) else (do pure PUnit.unit; pure (ForInStep.yield cs)) : Sem (ForInStep (List (Str × Addr))))) = pure (clOf env names acc)
 | [], acc, _ => rfl
 | (n, k) :: r, acc, h => by
  have ih := fun a => closure_go r a fun x hx => h x (List.mem_cons_of_mem _ hx)
  rw [List.forIn_cons]
  by_cases hk : (k == NameKind.free) = true
  ·obtain ⟨c, hc⟩ := h (n, k) List.mem_cons_self (by simpa using hk)
   simp only [hk, if_true, clOf, cellOf_eq hc, hc, Option.getD_some, pure_bind]
   exact ih _
  ·simp only [hk, if_false, clOf, pure_bind]
   exact ih _
theorem closure_of {scope : Scope} {env : Env} (h : ∀ x ∈ scope.names, x.2 = .free → ∃ c, env.cells.lookup x.1 = some c) : closureFor scope env = pure (clOf env scope.names []) := by
 unfold closureFor
 have q := closure_go scope.names [] h
 exact (congrArg (fun m => m >>= pure) q).trans (pure_bind _ _)
theorem clOf_sub {env : Env} : ∀ (names : List (Str × NameKind)) (acc : List (Str × Addr)), (∀ x ∈ names, x.2 = .free → ∃ c, env.cells.lookup x.1 = some c) → (∀ p ∈ acc, env.cells.lookup p.1 = some p.2) →
  ∀ p ∈ clOf env names acc, env.cells.lookup p.1 = some p.2
 | [], acc, _, ha => ha
 | (n, k) :: r, acc, h, ha => by
  by_cases hk : (k == NameKind.free) = true
  ·obtain ⟨c, hc⟩ := h (n, k) List.mem_cons_self (by simpa using hk)
   simp only [clOf, hk, if_true]
   refine clOf_sub r _ (fun x hx => h x (List.mem_cons_of_mem _ hx)) fun p hp => ?_
   rcases List.mem_cons.mp hp with rfl | hp
   ·show env.cells.lookup n = some _
    rw [hc]; rfl
   ·exact ha p hp
  ·simp only [clOf, hk, if_false]
   exact clOf_sub r _ (fun x hx => h x (List.mem_cons_of_mem _ hx)) ha
theorem clOf_acc {env : Env} : ∀ (names : List (Str × NameKind)) (acc : List (Str × Addr)) (p : Str × Addr), p ∈ acc → p ∈ clOf env names acc
 | [], _, _, h => h
 | (n, k) :: r, acc, p, h => by
  by_cases hk : (k == NameKind.free) = true
  ·simp only [clOf, hk, if_true]
   exact clOf_acc r _ p (List.mem_cons_of_mem _ h)
  ·simp only [clOf, hk, if_false]
   exact clOf_acc r _ p h
theorem clOf_has {env : Env} : ∀ (names : List (Str × NameKind)) (acc : List (Str × Addr)) (x : Str), (x, NameKind.free) ∈ names → ∃ c, (x, c) ∈ clOf env names acc
 | (n, k) :: r, acc, x, h => by
  rcases List.mem_cons.mp h with e | h
  ·injection e with e1 e2
   subst e1; subst e2
   simp only [clOf, beq_self_eq_true, if_true]
   exact ⟨_, clOf_acc r _ _ List.mem_cons_self⟩
  ·by_cases hk : (k == NameKind.free) = true
   ·simp only [clOf, hk, if_true]
    exact clOf_has r _ x h
   ·simp only [clOf, hk, if_false]
    exact clOf_has r _ x h
theorem lookup_some_of_mem : ∀ {l : List (Str × Addr)} {x : Str} {c : Addr}, (x, c) ∈ l → ∃ d, l.lookup x = some d
 | (n, d) :: r, x, c, h => by
  by_cases e : x == n
  ·exact ⟨d, by simp [List.lookup_cons, e]⟩
  ·rcases List.mem_cons.mp h with q | q
   ·injection q with q1 _
    subst q1
    simp at e
   ·obtain ⟨d', hd⟩ := lookup_some_of_mem q
    exact ⟨d', by simp [List.lookup_cons, e, hd]⟩
theorem relabel_look {env : Env} : ∀ {names : List (Str × NameKind)} {x : Str} {k : NameKind},
  (names.map fun (n, k) => if (k == NameKind.free && env.scope.kind == .function && env.kindOf n == some .cell) then (n, NameKind.cell) else (n, k)).lookup x = some k →
  ∃ k', names.lookup x = some k' ∧ (k = k' ∨ k' = .free)
 | [], _, _, h => by simp at h
 | (n, j) :: r, x, k, h => by
  have ih := @relabel_look env r x k
  by_cases hc : (j == NameKind.free && env.scope.kind == .function && env.kindOf n == some .cell) = true
  ·simp only [List.map_cons, hc, if_true, List.lookup_cons] at h ⊢
   cases e : x == n with
   | true =>
    rw [e] at h
    refine ⟨j, rfl, .inr ?_⟩
    simp only [Bool.and_eq_true, beq_iff_eq] at hc
    exact hc.1.1
   | false =>
    rw [e] at h
    exact ih h
  ·rw [List.map_cons] at h
   dsimp only at h
   rw [if_neg hc, List.lookup_cons] at h
   rw [List.lookup_cons]
   cases e : x == n with
   | true =>
    rw [e] at h
    exact ⟨j, rfl, .inl (by injection h with h; exact h.symm)⟩
   | false =>
    rw [e] at h
    exact ih h
theorem relabel_free {env : Env} : ∀ {names : List (Str × NameKind)} {x : Str}, names.lookup x = some .free →
  (names.map fun (n, k) => if (k == NameKind.free && env.scope.kind == .function && env.kindOf n == some .cell) then (n, NameKind.cell) else (n, k)).lookup x = some .cell ∨
  (names.map fun (n, k) => if (k == NameKind.free && env.scope.kind == .function && env.kindOf n == some .cell) then (n, NameKind.cell) else (n, k)).lookup x = some .free
 | [], _, h => by simp at h
 | (n, j) :: r, x, h => by
  have ih := @relabel_free env r x
  cases e : x == n with
  | true =>
   rw [List.lookup_cons, e] at h
   injection h with h
   subst h
   rw [List.map_cons]
   dsimp only
   split
   ·exact .inl (by simp [List.lookup_cons, e])
   ·exact .inr (by simp [List.lookup_cons, e])
  | false =>
   rw [List.lookup_cons, e] at h
   rcases ih h with q | q
   ·left
    rw [List.map_cons]
    dsimp only
    split <;> simp only [List.lookup_cons, e] <;> exact q
   ·right
    rw [List.map_cons]
    dsimp only
    split <;> simp only [List.lookup_cons, e] <;> exact q
def ccx (X : Cx) (scope : Scope) (N : List Str) (C : Addr) (s : Shared) (H : Hp) (fp : List Addr) : Cx :=
 { X with N := N, s₀ := s, H₀ := H, env := compEnvC scope (clOf X.env scope.names []) C X.env, outer := X.stack, stack := X.stack, ex := fp, fn := fun _ => false, pn := [], xe := fun _ _ => False }
structure CScope (X : Cx) (scope : Scope) : Prop where
 kind : scope.kind = .function
 nocell : ∀ y ∈ scope.names, y.2 ≠ .cell
 names : ∀ y ∈ scope.names, y.2 = .local → scope.names.lookup y.1 = some .local
 free : ∀ y ∈ scope.names, y.2 = .free → X.env.kindOf y.1 = some .cell ∨ X.env.kindOf y.1 = some .free
section
variable {X : Cx} {pins : List (Addr × Obj)} {σ : St} {H : Hp} {s : Shared}
theorem CScope.has {scope : Scope} (S : CScope X scope) (ok : X.Ok) : ∀ x ∈ scope.names, x.2 = .free → ∃ c, X.env.cells.lookup x.1 = some c := fun x hx h => ok.has _ (S.free x hx h)
theorem cl_sub {scope : Scope} (S : CScope X scope) (ok : X.Ok) {x : Str} {c : Addr} (h : (clOf X.env scope.names []).lookup x = some c) : X.env.cells.lookup x = some c :=
 clOf_sub scope.names [] (S.has ok) (fun p hp => absurd hp (by simp)) (x, c) (PySem.mem_of_lookup h)
theorem cl_free {scope : Scope} (S : CScope X scope) (ok : X.Ok) {x : Str} (h : scope.names.lookup x = some .free) : ∃ c, (clOf X.env scope.names []).lookup x = some c ∧ X.env.cells.lookup x = some c := by
 obtain ⟨c, hc⟩ := clOf_has (env := X.env) scope.names [] x (PySem.mem_of_lookup h)
 obtain ⟨d, hd⟩ := lookup_some_of_mem hc
 exact ⟨d, hd, cl_sub S ok hd⟩
structure CNames (X : Cx) (scope : Scope) (N : List Str) (k : Nat) (sel : List Nat) : Prop where
 len : N.length = k + sel.length
 fr : ∀ (i j : Nat) (x : Str), sel[i]? = some j → N[k + i]? = some x → X.N[j]? = some x ∧ scope.names.lookup x = some .free
def cst (σ : St) (k : Nat) (sel : List Nat) : St := List.replicate k none ++ sel.map fun j => (σ[j]?).join
theorem cst_len {k : Nat} {sel : List Nat} : (cst σ k sel).length = k + sel.length := by
 unfold cst; rw [List.length_append, List.length_replicate, List.length_map]
theorem ccx_ok {scope : Scope} {N : List Str} {fp : List Addr} (S : CScope X scope) (I : Inv X pins σ H s) (hf : ∀ b ∈ fp, FpOk X pins H b) (hlt : ∀ b ∈ fp, b < s.heap.objs.size) : (ccx X scope N s.heap.objs.size s H fp).Ok where
 mod := I.ok.mod
 kind := S.kind
 glob := I.ok.glob
 blt := I.ok.blt
 above := Nat.le_refl _
 inj := fun x y c h1 h2 => I.ok.inj x y c (cl_sub S I.ok h1) (cl_sub S I.ok h2)
 has := fun x h => by
  have h' : (relabel scope X.env).names.lookup x = some .cell ∨ (relabel scope X.env).names.lookup x = some .free := h
  rcases h' with h' | h'
  ·obtain ⟨k', e, q⟩ := relabel_look h'
   rcases q with q | q
   ·subst q
    exact absurd rfl (S.nocell _ (PySem.mem_of_lookup e))
   ·subst q
    obtain ⟨c, hc, _⟩ := cl_free S I.ok e
    exact ⟨c, hc⟩
  ·obtain ⟨k', e, q⟩ := relabel_look h'
   have : k' = .free := by rcases q with q | q; exact q.symm; exact q
   subst this
   obtain ⟨c, hc, _⟩ := cl_free S I.ok e
   exact ⟨c, hc⟩
 cab := fun x c h => absurd (show false = true from h) (by simp)
 hd := I.ok.hd
 frames := I.ok.frames
 stk := .inl rfl
 exf := fun b hb => ⟨Nat.ne_of_lt (hlt b hb), fun x c h => (hf b hb).2.2.2.2.1 x c (cl_sub S I.ok h)⟩
 bs := I.bs
 bsz := Nat.le_trans I.ok.bsz I.sz
 noex := fun b o e hb => by
  rcases (hf b hb).2.2.2.1 with z | z
  ·exact I.ok.noex b o e z
  ·exact absurd (Nat.lt_of_lt_of_le (Heap.lt_size e) (Nat.le_trans I.ok.bsz z)) (Nat.lt_irrefl _)
 exfs := fun b hb z => by
  rcases List.mem_cons.mp (I.stkSub b z) with q | q
  ·exact (hf b hb).2.1 q
  ·exact (hf b hb).2.2.1 q
 funs := I.stack
 frf := I.stkFree
theorem ccx_inv {scope : Scope} {N : List Str} {fp : List Addr} {k : Nat} {sel : List Nat} {h₁ : Heap} {m : Str → Option Value} {t' : Nat} (S : CScope X scope) (M : CNames X scope N k sel) (I : Inv X pins σ H s) (hf : ∀ b ∈ fp, FpOk X pins H b) (hlt : ∀ b ∈ fp, b < s.heap.objs.size)
  (hn : h₁.Ns s.heap.objs.size m) (hk : ∀ b o, s.heap.get? b = some o → h₁.get? b = some o) : Inv (ccx X scope N s.heap.objs.size s H fp) [] (cst σ k sel) H { s with heap := h₁, toks := t' } := by
 refine ⟨ccx_ok S I hf hlt, rfl, I.bare, Un.kept hk, ⟨m, hn, fun i x v e1 e2 e3 => ?_⟩, fun x c e => ?_, I.hok.fresh (Nat.le_refl _), fun x c e => I.freeC x c (cl_sub S I.ok e), fun p hp => absurd (show p ∈ ([] : List (Addr × Obj)) from hp) (by simp), I.hok.kept hk, ?_⟩
 ·have hi : k ≤ i := by
   by_cases hi : k ≤ i
   ·exact hi
   ·unfold cst at e2
    rw [List.getElem?_append_left (by simp; omega), List.getElem?_replicate] at e2
    split at e2 <;> cases e2
  obtain ⟨d, rfl⟩ : ∃ d, i = k + d := ⟨i - k, by omega⟩
  unfold cst at e2
  rw [List.getElem?_append_right (by simp), List.length_replicate, Nat.add_sub_cancel_left, List.getElem?_map] at e2
  cases ej : sel[d]? with
  | none => rw [ej] at e2; cases e2
  | some j =>
   rw [ej] at e2
   have e2' : (σ[j]?).join = some v := Option.some.inj e2
   have e4 : σ[j]? = some (some v) := by
    cases q : σ[j]? with
    | none => rw [q] at e2'; cases e2'
    | some o => rw [q] at e2'; cases o with
     | none => cases e2'
     | some w => cases e2'; rfl
   obtain ⟨hN, hfr⟩ := M.fr d j x ej e1
   obtain ⟨mo, hno, hlo⟩ := I.loc
   have hkind := S.free _ (PySem.mem_of_lookup hfr) rfl
   obtain ⟨u, ru, lu⟩ := hlo j x v hN e4 (by rcases hkind with q | q; exact .inr (.inl q); exact .inr (.inr q))
   obtain ⟨c, hc, hc'⟩ := cl_free S I.ok hfr
   refine ⟨u, ru, .inr ⟨?_, c, hc, ?_⟩⟩
   ·exact relabel_free hfr
   ·rcases lu with ⟨kl, _⟩ | ⟨_, c', e5, z⟩
    ·rcases hkind with q | q
     ·rw [kl] at q; cases q
     ·rw [kl] at q; cases q
    ·rw [hc'] at e5; cases e5
     obtain ⟨o, ho, hd⟩ := z
     exact ⟨o, hk _ _ ho, hd⟩
 ·obtain ⟨v, o, ho, hd⟩ := I.cell x c (cl_sub S I.ok e)
  exact ⟨v, o, hk _ _ ho, hd⟩
 ·rw [cst_len]; exact M.len.symm
end
def PTs (X : Cx) (ifs : List Expr) (t : TT) : Prop :=
 ∀ (pins : List (Addr × Obj)) (s : Shared) (σ : St) (H : Hp) (Q : Bool → Hp → Prop), Inv X pins σ H s → t σ H Q →
  wpAny (model X.prog X.w) X.A (forIn ifs true fun c r => if r = true then do let ok ← isTrue c X.env (eval c X.env); pure (ForInStep.yield ok) else pure (ForInStep.yield r)) (TP X pins σ Q) X.xe s
def tTrue : TT := fun _ H Q => Q true H
theorem pts_nil {X : Cx} : PTs X [] tTrue := fun pins s σ H Q I h => wpAny_tests_nil ⟨H, I, h⟩
theorem pts_one {X : Cx} {c : Expr} {t : TT} (hc : PT X c t) : PTs X [c] t := fun pins s σ H Q I h => wpAny_tests_one (hc pins s σ H Q I h)
def tComp (wi : TI) (k : Nat) (sel : List Nat) (g : TG) (tt : TT) (te : TE) : TE := fun σ H Q => wi σ H fun J H1 => ∀ p, H1 p = none →
 ∃ W : Nat → Nat → St → Hp → Prop, (∃ m, W 0 m (cst σ k sel) (upd H1 p (.lst []))) ∧ ∀ i m σ2 H2, W i m σ2 H2 →
  (J.stop i H2 ∧ Q (.ref p) H2) ∨ (J.go i H2 ∧ ∀ x H3, J.yld i H2 x H3 → g x σ2 H3 fun σ4 H4 => tt σ4 H4 fun b H5 =>
   if b = true then te σ4 H5 fun v H6 => ∃ ys, H6 p = some (.lst ys) ∧ ys.length < sizeLine ∧ ∃ m', m' < m ∧ W (i + 1) m' σ4 (upd H6 p (.lst (ys ++ [v]))) else ∃ m', m' < m ∧ W (i + 1) m' σ4 H5)
theorem comp_loop {X : Cx} {elt tg iter : Expr} {ifs : List Expr} {scope : Scope} {pos : Pos} {it D : Addr} {fp : List Addr} {tn : Nat → Heap → Prop} {J : It} {g : TG} {tt : TT} {te : TE} {W : Nat → Nat → St → Hp → Prop} {R : Result → Shared → Prop} {QQ : Hp → Prop}
  (hx : X.xe = fun _ _ => False) (hc : X.calm = true) (T : Turn X.prog X.w X.K tg J fp it tn) (hg : PG X tg g) (ht : PTs X ifs tt) (he : PE X elt te)
  (hfp : ∀ b ∈ fp, b ≠ X.env.locals ∧ b ∉ X.fs ∧ (b ∈ X.ex ∨ X.s₀.heap.objs.size ≤ b) ∧ (∀ x c, X.env.cells.lookup x = some c → c ≠ b) ∧ ∀ p ∈ X.pn ++ [], p.1 ≠ b)
  (turn : ∀ i m σ2 H2, W i m σ2 H2 →
   (J.stop i H2 ∧ QQ H2) ∨ (J.go i H2 ∧ ∀ x H3, J.yld i H2 x H3 → g x σ2 H3 fun σ4 H4 => tt σ4 H4 fun b H5 =>
    if b = true then te σ4 H5 fun v H6 => ∃ ys, H6 D = some (.lst ys) ∧ ys.length < sizeLine ∧ ∃ m', m' < m ∧ W (i + 1) m' σ4 (upd H6 D (.lst (ys ++ [v]))) else ∃ m', m' < m ∧ W (i + 1) m' σ4 H5))
  (hR : ∀ s' σ' H', Inv X [] σ' H' s' → QQ H' → R (.ok .next) s') {s : Shared} (m0 : Nat) (h : ∃ i σ' H', Inv X [] σ' H' s ∧ tn i s.heap ∧ (∀ b ∈ fp, H' b = none) ∧ W i m0 σ' H') :
  codeAny (model X.prog X.w) X.A (.compLoop (.ListComp elt [⟨tg, iter, ifs, 0⟩] scope pos) 0 (.ref it) (.ref D) X.env) R s := by
 have stat : ∀ {H' : Hp}, (∀ b ∈ fp, H' b = none) → ∀ b ∈ fp, FpOk X [] H' b := fun hn b hb => ⟨hn b hb, hfp b hb⟩
 have noE : ∀ {α : Type} {t : Sem α} {Q : α → Shared → Prop} {E : Value → Shared → Prop} {s : Shared}, wpAny (model X.prog X.w) X.A t Q X.xe s → wpAny (model X.prog X.w) X.A t Q E s := fun {α t Q E s} h => by
  rw [hx] at h
  exact wpAny_noRaise h
 refine codeAny_loop rfl (fun n s' => ∃ i σ' H', Inv X [] σ' H' s' ∧ tn i s'.heap ∧ (∀ b ∈ fp, H' b = none) ∧ W i n σ' H') (fun n s3 hI => ?_) m0 h
 obtain ⟨i, σ3, H3, I3, st3, fr3, w3⟩ := hI
 show wpAny _ X.A ((compTurn (.ListComp elt [⟨tg, iter, ifs, 0⟩] scope pos) 0 (.ref it) (.ref D) X.env).onRaise (fun x => do noteFrame x X.env; theTreesLotGoes x)) _ _ s3
 refine wpAny_noted ?_
 rw [compTurn_list]
 rcases turn i n σ3 H3 w3 with ⟨stop, qn⟩ | ⟨go, step⟩
 ·refine wpAny_bind (wpAny_standAt (wpAny_bind (thn (noE (T.done X rfl rfl rfl hc i [] s3 σ3 H3 X.xe I3 (stat fr3) st3 stop)) fun r s4 ⟨hr, I4⟩ => ?_)))
  subst hr
  exact wpAny_pure (hR s4 σ3 H3 I4 qn)
 ·refine wpAny_bind (wpAny_standAt (wpAny_bind (thn (noE (T.item X rfl rfl rfl hc i [] s3 σ3 H3 X.xe I3 (stat fr3) st3 go)) fun r s4 ⟨u, hr, h4⟩ => ?_)))
  subst hr
  refine wpAny_bind (thn (noE h4) fun _ s5 ⟨x, H5, I5, r5, y5, st5, fr5⟩ => ?_)
  have I5' := I5.pinned (stat fr5) (T.obj _ _ st5)
  refine wpAny_bind (thn (noE (hg _ s5 σ3 H5 x u _ I5' r5 (step x H5 y5))) fun _ s6 ⟨σ6, H6, I6, q6⟩ => ?_)
  refine wpAny_bind (thn (noE (ht _ s6 σ6 H6 _ I6 q6)) fun ok s7 ⟨H7, I7, q7⟩ => ?_)
  have again : ∀ {s8 : Shared} {H8 : Hp}, Inv X ([] ++ pinsAt fp s5.heap) σ6 H8 s8 → (∃ m', m' < n ∧ W (i + 1) m' σ6 H8) → ∃ m, m < n ∧ ∃ i σ' H', Inv X [] σ' H' s8 ∧ tn i s8.heap ∧ (∀ b ∈ fp, H' b = none) ∧ W i m σ' H' := fun {s8 H8} I8 n8 => by
   obtain ⟨m', hm, w8⟩ := n8
   refine ⟨m', hm, i + 1, σ6, H8, I8.unpinned, T.keep _ _ _ st5 fun b hb o e => (I8.pin (b, o) (List.mem_append_right _ (List.mem_append_right _ (mem_pinsAt hb e)))).1, fun b hb => ?_, w8⟩
   obtain ⟨o, e, d⟩ := T.obj _ _ st5 b hb
   exact (I8.pin (b, o) (List.mem_append_right _ (List.mem_append_right _ (mem_pinsAt hb e)))).2.1
  cases ok with
  | false => exact wpAny_pure ⟨rfl, again I7 q7⟩
  | true =>
   refine wpAny_bind (wpAny_bind (thn (noE (he _ s7 σ6 H7 _ I7 q7)) fun y s8 ⟨v, H8, I8, r8, ys, hys, hl, q8⟩ => ?_))
   refine wpAny_bind (thn (noE (mt_append _ s8 σ6 H8 (.ref D) [v] (.ref D) [y] (fun _ H9 => ∃ m', m' < n ∧ W (i + 1) m' σ6 H9) I8 rfl (.cons r8 .nil) ⟨D, ys, v, rfl, rfl, hys, hl, q8⟩)) fun _ s9 ⟨_, H9, I9, _, q9⟩ => ?_)
   exact wpAny_pure (wpAny_pure ⟨rfl, again I9 q9⟩)
structure CFree (X : Cx) (pins : List (Addr × Obj)) (H : Hp) (C : Addr) (s : Shared) : Prop where
 none : H C = Option.none
 ne : C ≠ X.env.locals
 above : X.s₀.heap.objs.size ≤ C
 cells : ∀ x c, X.env.cells.lookup x = some c → c ≠ C
 pins : ∀ p ∈ X.pn ++ pins, p.1 ≠ C
 ns : ∃ m, s.heap.Ns C m
theorem comp_block {X : Cx} {pins : List (Addr × Obj)} {σ : St} {elt tg iter : Expr} {ifs : List Expr} {scope : Scope} {pos : Pos} {N : List Str} {k : Nat} {sel : List Nat} {g : TG} {tt : TT} {te : TE} {itv : Value} {s2 : Shared} {QQ : VK} {use : Option (Value → Sem Unit)} {Qv : Value → Shared → Prop}
  (S : CScope X scope) (M : CNames X scope N k sel) (hc : X.calm = true)
  (hg : ∀ C s H fp, PG (ccx X scope N C s H fp) tg g) (ht : ∀ C s H fp, PTs (ccx X scope N C s H fp) ifs tt) (he : ∀ C s H fp, PE (ccx X scope N C s H fp) elt te)
  (fin : ∀ D C s' H', Inv X pins σ H' s' → CFree X pins H' C s' → QQ (.ref D) H' → compPost (model X.prog X.w) X.A X.xe use Qv (.ref D) C (.ok .next) s')
  (h2 : PIE X pins σ tg (fun J H1 => ∀ p, H1 p = none → ∃ W : Nat → Nat → St → Hp → Prop, (∃ m, W 0 m (cst σ k sel) (upd H1 p (.lst []))) ∧ ∀ i m σ2 H2, W i m σ2 H2 →
   (J.stop i H2 ∧ QQ (.ref p) H2) ∨ (J.go i H2 ∧ ∀ x H3, J.yld i H2 x H3 → g x σ2 H3 fun σ4 H4 => tt σ4 H4 fun b H5 =>
    if b = true then te σ4 H5 fun v H6 => ∃ ys, H6 p = some (.lst ys) ∧ ys.length < sizeLine ∧ ∃ m', m' < m ∧ W (i + 1) m' σ4 (upd H6 p (.lst (ys ++ [v]))) else ∃ m', m' < m ∧ W (i + 1) m' σ4 H5)) itv s2) :
  wpAny (model X.prog X.w) X.A (newList []) (fun acc s₃ => wpAny (model X.prog X.w) X.A (newFunctionEnv scope X.env.globals (clOf X.env scope.names []) [] X.env.qual none .none (some X.env)) (fun cenv s₄ =>
   codeAny (model X.prog X.w) X.A (.compStart (.ListComp elt [⟨tg, iter, ifs, 0⟩] scope pos) 0 itv acc { cenv with scope := relabel scope X.env }) (compPost (model X.prog X.w) X.A X.xe use Qv acc cenv.locals) s₄) X.xe s₃) X.xe s2 := by
 obtain ⟨it, fp, tn, J, H2, rfl, I2, T, st2, f2, R2⟩ := h2
 have hD : H2 s2.heap.objs.size = none := I2.hok.fresh (Nat.le_refl _)
 obtain ⟨W, ⟨m0, w0⟩, turn⟩ := R2 _ hD
 refine wpAny_newObj_type ?_
 have I3 := I2.lnew (its := []) (ys := []) (t' := s2.toks) .nil (Nat.zero_le _)
 generalize hs3 : ({ s2 with heap := s2.heap.push { cls := .type "list", data := .seq ([] : List Value).toArray }, toks := s2.toks } : Shared) = s3 at I3
 have e3 : ({ s2 with heap := s2.heap.push { cls := .type "list", dict := none, data := .seq ([] : List Value).toArray } } : Shared) = s3 := by rw [← hs3]
 have up : ∀ b o, s2.heap.get? b = some o → s3.heap.get? b = some o := fun b o e => by rw [← hs3]; exact Heap.get?_push_of_some _ e
 have hsz : s2.heap.objs.size ≤ s3.heap.objs.size := by rw [← hs3]; show _ ≤ (s2.heap.push _).objs.size; rw [Heap.size_push]; exact Nat.le_succ _
 have hlt2 : ∀ b ∈ fp, b < s2.heap.objs.size := fun b hb => by
  obtain ⟨o, e, _⟩ := T.obj _ _ st2 b hb
  exact Heap.lt_size e
 have hlt : ∀ b ∈ fp, b < s3.heap.objs.size := fun b hb => Nat.lt_of_lt_of_le (hlt2 b hb) hsz
 have f3 : ∀ b ∈ fp, FpOk X pins (upd H2 s2.heap.objs.size (.lst [])) b := fun b hb => ⟨by rw [upd_ne (Nat.ne_of_lt (hlt2 b hb))]; exact (f2 b hb).1, (f2 b hb).2⟩
 refine wpAny_newFunctionEnv S.nocell (by intro y hy; simp at hy) (fun h₁ hns₁ hsb₁ => ?_) S.kind
 have up₁ : ∀ b o, s3.heap.get? b = some o → h₁.get? b = some o := fun b o e => hsb₁.extBut b o (Nat.ne_of_lt (Heap.lt_size e)) (Heap.get?_push_of_some _ e)
 have Ic := ccx_inv (N := N) (k := k) (sel := sel) (t' := s3.toks + ([] : List (Str × Value)).length) S M I3 f3 hlt hns₁ up₁
 have st₁ : tn 0 h₁ := T.keep _ _ _ st2 fun b hb o e => up₁ b o (up b o e)
 have fr : ∀ b ∈ fp, (upd H2 s2.heap.objs.size (.lst [])) b = none := fun b hb => (f3 b hb).1
 have loop : codeAny (model X.prog X.w) X.A (.compLoop (.ListComp elt [⟨tg, iter, ifs, 0⟩] scope pos) 0 (.ref it) (.ref s2.heap.objs.size) (compEnvC scope (clOf X.env scope.names []) s3.heap.objs.size X.env))
   (compPost (model X.prog X.w) X.A X.xe use Qv (.ref s2.heap.objs.size) s3.heap.objs.size) { s3 with heap := h₁, toks := s3.toks + ([] : List (Str × Value)).length } := by
  refine comp_loop (X := ccx X scope N s3.heap.objs.size s3 (upd H2 s2.heap.objs.size (.lst [])) fp) (QQ := fun H' => QQ (.ref s2.heap.objs.size) H') (W := W) rfl hc T (hg _ _ _ _) (ht _ _ _ _) (he _ _ _ _) (fun b hb => ?_) turn (fun s' σ' H' I' q' => ?_) m0 ⟨0, cst σ k sel, _, Ic, st₁, fr, w0⟩
  ·refine ⟨Nat.ne_of_lt (hlt b hb), ?_, .inl hb, fun x c h => (f3 b hb).2.2.2.2.1 x c (cl_sub S I3.ok h), fun p hp => absurd (show p ∈ ([] : List (Addr × Obj)) from hp) (by simp)⟩
   exact (ccx_ok (N := N) S I3 f3 hlt).exfs b hb
  ·have Ie : Inv X pins σ H' s' := I3.call' (ch := fp) I'.os I'.base I'.hok I'.bare fun b hb => ⟨(f3 b hb).2.2.2.1, (f3 b hb).2.1, (f3 b hb).2.2.2.2.1, (f3 b hb).2.2.2.2.2⟩
   refine fin _ _ s' H' Ie ⟨I'.free, ?_, Nat.le_trans I3.sz (Nat.le_refl _), fun x c e => ?_, fun p hp => ?_, ?_⟩ q'
   ·exact Ne.symm (Nat.ne_of_lt I3.lt)
   ·obtain ⟨v, o, ho, _⟩ := I3.cell x c e
    exact Nat.ne_of_lt (Heap.lt_size ho)
   ·exact Nat.ne_of_lt (Heap.lt_size (I3.pin p hp).1)
   ·obtain ⟨m, hn, _⟩ := I'.loc
    exact ⟨m, hn⟩
 exact codeAny_compStart_list loop (T.self X.A 0 _ _ _ st₁ loop)
section
variable {X : Cx} {elt tg iter : Expr} {ifs : List Expr} {scope : Scope} {pos : Pos} {N : List Str} {k : Nat} {sel : List Nat} {wi : TI} {g : TG} {tt : TT} {te : TE}
theorem pe_comp (S : CScope X scope) (M : CNames X scope N k sel) (hc : X.calm = true) (hi : PI X tg iter wi)
  (hg : ∀ C s H fp, PG (ccx X scope N C s H fp) tg g) (ht : ∀ C s H fp, PTs (ccx X scope N C s H fp) ifs tt) (he : ∀ C s H fp, PE (ccx X scope N C s H fp) elt te)
  (hs : ∀ x, foldedSetIterable iter X.env x = pure x := by intro _; rfl) : PE X (.ListComp elt [⟨tg, iter, ifs, 0⟩] scope pos) (tComp wi k sel g tt te) := by
 intro pins s σ H Q I h
 rw [eval_ListComp]
 refine wpAny_comprehension_free (use := none) rfl hs (closure_of (S.has I.ok)) S.kind S.names (thn (hi pins s σ H _ I h) fun v s1 h1 => thn h1 fun itv s2 h2 => ?_)
 refine comp_block (QQ := Q) S M hc hg ht he (fun D C s' H' I' F q => ?_) h2
 obtain ⟨m, hn⟩ := F.ns
 exact ⟨m, hn, fun h' hsb => ⟨.ref D, H', I'.turned (t' := s'.toks) (fun b o hb e => hsb.extBut b o hb e) F.none F.ne (.inr F.above) F.cells F.pins, rfl, q⟩⟩
theorem ps_setC {i : Nat} {y : Str} {py spos : Pos} (S : CScope X scope) (M : CNames X scope N k sel) (hc : X.calm = true) (hi : PI X tg iter wi)
  (hg : ∀ C s H fp, PG (ccx X scope N C s H fp) tg g) (ht : ∀ C s H fp, PTs (ccx X scope N C s H fp) ifs tt) (he : ∀ C s H fp, PE (ccx X scope N C s H fp) elt te)
  (hN : X.N.Nodup) (hiy : X.N[i]? = some y) (hy : Loc X.env.scope y)
  (hsw : swapsWith (.ListComp elt [⟨tg, iter, ifs, 0⟩] scope pos) (some (.Name y py)) spos.line X.env = pure true)
  (hs : ∀ x, foldedSetIterable iter X.env x = pure x := by intro _; rfl) (hf : X.fn y = true ∨ X.env.scope.names.lookup y = some .local := by first | exact .inl rfl | exact .inr rfl | assumption) :
  PS X (.Assign [.Name y py] (.ListComp elt [⟨tg, iter, ifs, 0⟩] scope pos) spos) (tAsg (tComp wi k sel g tt te) (gName i)) := by
 intro pins s σ H D I h
 rw [exec_Assign_Name_used _ _ _ _ hsw]
 refine wpAny_bind (wpAny_standAt (wpAny_bind ?_))
 show wpAny _ X.A (do let _ ← comprehension (.ListComp elt [⟨tg, iter, ifs, 0⟩] scope pos) scope X.env _ (newList []) false (eval iter X.env) (some (assign (.Name y py) X.env))) _ _ s
 refine wpAny_bind (wpAny_mono (wpAny_comprehension_free (use := some (assign (.Name y py) X.env)) (Q := fun _ s' => SP X pins D .next s') rfl hs (closure_of (S.has I.ok)) S.kind S.names
  (thn (hi pins s σ H _ I h) fun v s1 h1 => thn h1 fun itv s2 h2 => ?_)) (fun _ s' hq => wpAny_pure (wpAny_pure hq)) fun _ _ e => e)
 refine comp_block (QQ := fun v H1 => D.nx (σ.set i (some v)) H1) S M hc hg ht he (fun Da C s' H' I' F q => ?_) h2
 show wpAny _ X.A (assign (.Name y py) X.env (.ref Da)) _ _ _
 refine wpAny_assign_Name (store_ok2 I' hN hiy hy (v := .ref Da) rfl (fun s'' I'' hch => ?_) hf)
 obtain ⟨m, hn⟩ := F.ns
 obtain ⟨a, hsb, ha⟩ := hch
 have haC : C ≠ a := by
  rcases ha with ha | ha
  ·rw [ha]; exact F.ne
  ·exact Ne.symm (F.cells _ _ ha)
 refine ⟨m, hn.sameBut hsb haC, fun h' hsb' => ⟨σ.set i (some (.ref Da)), H', I''.turned (t' := s''.toks) (fun b o hb e => hsb'.extBut b o hb e) F.none F.ne (.inr F.above) F.cells F.pins, q⟩⟩
end
section
variable {X : Cx}
theorem PE.imp {e : Expr} {t t' : TE} (h : PE X e t) (f : ∀ σ H Q, t' σ H Q → t σ H Q) : PE X e t' := fun pins s σ H Q I q => h pins s σ H Q I (f σ H Q q)
theorem OpR.imp {g : Value → Value → Sem Value} {r r' : R2} (h : OpR X g r) (f : ∀ x y H Q, r' x y H Q → r x y H Q) : OpR X g r' := fun pins s σ H x y v u Q I rx ry q => h pins s σ H x y v u Q I rx ry (f x y H Q q)
theorem IxR.imp {r r' : R2} (h : IxR X r) (f : ∀ x y H Q, r' x y H Q → r x y H Q) : IxR X r' := fun value slice pins s σ H x y v u Q I rx ry q => h value slice pins s σ H x y v u Q I rx ry (f x y H Q q)
theorem SlR.imp {r r' : V → Option Int → Option Int → Hp → VK → Prop} (h : SlR X r) (f : ∀ x lo hi H Q, r' x lo hi H Q → r x lo hi H Q) : SlR X r' := fun pins s σ H x v vl vu lo hi sl Q I rx hs pl pu q => h pins s σ H x v vl vu lo hi sl Q I rx hs pl pu (f x lo hi H Q q)
def cVar (i : Nat) : TE := fun σ H Q => match σ[i]? with | some (some v) => Q v H | _ => False
theorem cVar_of {i : Nat} {σ : St} {H : Hp} {Q : VK} (h : cVar i σ H Q) : tVar i σ H Q := by
 unfold cVar at h
 split at h
 ·exact ⟨_, by assumption, h⟩
 ·exact h.elim
theorem cv (i : Nat) {x : Str} {pos : Pos} (hN : X.N[i]? = some x := by rfl) (hv : Vis X.env.scope x := by first | exact Or.inl rfl | exact Or.inr (Or.inl rfl) | exact Or.inr (Or.inr rfl)) (hd : (x == ("__debug__" : Str)) = false := by decide)
  (hcd : (x == ("__classdict__" : Str)) = false := by decide) : PE X (.Name x pos) (cVar i) := (pe_var hN hv hd hcd).imp fun _ _ _ h => cVar_of h
def cI2 (f : Int → Int → V) : R2 := fun x y H Q => match x, y with | .int i, .int j => Q (f i j) H | _, _ => False
def cI2c (C : Int → Int → Prop) (f : Int → Int → V) : R2 := fun x y H Q => match x, y with | .int i, .int j => C i j ∧ Q (f i j) H | _, _ => False
theorem cI2_of {f : Int → Int → V} {x y : V} {H : Hp} {Q : VK} (h : cI2 f x y H Q) : rI0 f x y H Q := by
 cases x <;> cases y <;> first | exact False.elim h | exact ⟨_, _, rfl, rfl, h⟩
theorem cI2c_of {C : Int → Int → Prop} {f : Int → Int → V} {x y : V} {H : Hp} {Q : VK} (h : cI2c C f x y H Q) : rI C f x y H Q := by
 cases x <;> cases y <;> first | exact False.elim h | exact ⟨_, _, rfl, rfl, h.1, h.2⟩
theorem o_sub : OpR X (binaryOp .Sub) (cI2 fun i j => .int (i - j)) := op_sub.imp fun _ _ _ _ h => cI2_of h
theorem o_fdiv : OpR X (binaryOp .FloorDiv) (cI2c CDiv fun i j => .int (i / j)) := op_fdiv.imp fun _ _ _ _ h => cI2c_of h
theorem o_mod : OpR X (binaryOp .Mod) (cI2c (fun _ j => 0 < j) fun i j => .int (i % j)) := op_mod.imp fun _ _ _ _ h => cI2c_of h
theorem o_shr : OpR X (binaryOp .RShift) (cI2c (fun _ j => 0 ≤ j) fun i j => .int (i / 2 ^ j.toNat)) := op_shr.imp fun _ _ _ _ h => cI2c_of h
theorem o_xor : OpR X (binaryOp .BitXor) (cI2 fun i j => .int (Builtin.bitXor i j)) := op_xor.imp fun _ _ _ _ h => cI2_of h
theorem o_lt : OpR X (compareOp .Lt) (cI2 fun i j => .bl (decide (i < j))) := op_lt.imp fun _ _ _ _ h => cI2_of h
theorem o_le : OpR X (compareOp .LtE) (cI2 fun i j => .bl (decide (i ≤ j))) := op_le.imp fun _ _ _ _ h => cI2_of h
theorem o_ge : OpR X (compareOp .GtE) (cI2 fun i j => .bl (decide (j ≤ i))) := op_ge.imp fun _ _ _ _ h => cI2_of h
def cAdd : R2 := fun x y H Q => match x, y with
 | .int i, .int j => Q (.int (i + j)) H
 | .str i, .str j => i.length + j.length ≤ sizeLine ∧ Q (.str (i ++ j)) H
 | .ref l, .ref b => ∃ xs zs, H l = some (.lst xs) ∧ H b = some (.lst zs) ∧ xs.length + zs.length ≤ sizeLine ∧ ∀ p, H p = none → Q (.ref p) (upd H p (.lst (xs ++ zs)))
 | _, _ => False
theorem o_add : OpR X (binaryOp .Add) cAdd := by
 intro pins s σ H x y v u Q I rx ry h
 cases x <;> cases y <;> first
  | exact False.elim h
  | exact op_add pins s σ H _ _ v u Q I rx ry ⟨_, _, rfl, rfl, h⟩
  | exact op_add_str pins s σ H _ _ v u Q I rx ry ⟨_, _, rfl, rfl, h.1, h.2⟩
  | (obtain ⟨xs, zs, h1, h2, h3, h4⟩ := h; exact op_cat pins s σ H _ _ v u Q I rx ry ⟨_, _, xs, zs, rfl, rfl, h1, h2, h3, h4⟩)
inductive DeepEq (K : PySem.W.Frag) (H : Hp) : Nat → V → V → Prop where
 | flat {n : Nat} {x : V} (f : flatV x = true) : DeepEq K H n x x
 | lst {n : Nat} {a b : Addr} {xs ys : List V} (h1 : SqL K H a xs) (h2 : SqL K H b ys) (hl : xs.length = ys.length) (h : ∀ (i : Nat) x y, xs[i]? = some x → ys[i]? = some y → DeepEq K H n x y) : DeepEq K H (n + 1) (.ref a) (.ref b)
 | tup {n : Nat} {a b : Addr} {xs ys : List V} (h1 : SqT K H a xs) (h2 : SqT K H b ys) (hl : xs.length = ys.length) (h : ∀ (i : Nat) x y, xs[i]? = some x → ys[i]? = some y → DeepEq K H n x y) : DeepEq K H (n + 1) (.ref a) (.ref b)
theorem isListOf {pins : List (Addr × Obj)} {σ : St} {H : Hp} {s : Shared} {a : Addr} {xs : List V} (I : Inv X pins σ H s) (h : SqL X.K H a xs) : ∃ its : List Value, Vals xs its ∧ s.heap.IsList a its.toArray := by
 obtain ⟨its, r, p, _⟩ := I.list h
 exact ⟨its, r, p.isList⟩
theorem units_in1 {A : Around} {n : Nat} (h : A.units + (n + 1) < cLine) : A.in1.units + n < cLine := by
 have e : A.in1.units = A.units + 1 := rfl
 omega
theorem deep_rc {pins : List (Addr × Obj)} {σ : St} {H : Hp} {s : Shared} (I : Inv X pins σ H s) : ∀ {n : Nat} {x y : V}, DeepEq X.K H n x y → ∀ (A : Around) {u v : Value}, A.units + n < cLine → RelV x u → RelV y v → SeqAt.EqAt A s u v true
 | _, _, _, .flat f, A, u, v, hu, rx, ry => by
  have e := eqAt_V (A := A) (s := s) rx ry f f
  rename_i n x
  have q : eqV x x = true := by cases x <;> first | rfl | (simp [eqV]; done) | exact absurd f (by simp [flatV])
  rw [q] at e
  exact e
 | _, _, _, @DeepEq.lst _ _ n a b xs ys h1 h2 hl h, A, u, v, hu, rx, ry => by
  cases rx; cases ry
  by_cases hab : a = b
  ·subst hab; exact SeqAt.EqAt.same _
  ·obtain ⟨its, r1, p1⟩ := isListOf I h1
   obtain ⟨its2, r2, p2⟩ := isListOf I h2
   have e1 := r1.length
   have e2 := r2.length
   have q := SeqAt.RcAt.lists (A := A) (e := fun _ => true) p1 p2 (by simp; omega) (by omega) (fun j j1 j2 => by
    have j1' : j < its.length := by simpa using j1
    have j2' : j < its2.length := by simpa using j2
    obtain ⟨w1, q1, s1⟩ := r1.get (i := j) (x := xs[j]'(by omega)) (by simp)
    obtain ⟨w2, q2, s2⟩ := r2.get (i := j) (x := ys[j]'(by omega)) (by simp)
    have z1 : its.toArray[j] = w1 := by
     have := List.getElem?_eq_some_iff.mp q1
     obtain ⟨_, z⟩ := this
     simpa using z
    have z2 : its2.toArray[j] = w2 := by
     have := List.getElem?_eq_some_iff.mp q2
     obtain ⟨_, z⟩ := this
     simpa using z
    rw [z1, z2]
    exact deep_rc I (h j _ _ (by simp) (by simp)) A.in1 (units_in1 hu) s1 s2)
   have : ((List.range its.toArray.size).all fun _ => true) = true := by simp
   rw [this] at q
   exact SeqAt.EqAt.of_refs hab q
 | _, _, _, @DeepEq.tup _ _ n a b xs ys h1 h2 hl h, A, u, v, hu, rx, ry => by
  cases rx; cases ry
  by_cases hab : a = b
  ·subst hab; exact SeqAt.EqAt.same _
  ·obtain ⟨its, r1, p1, _⟩ := I.tuple h1
   obtain ⟨its2, r2, p2, _⟩ := I.tuple h2
   have e1 := r1.length
   have e2 := r2.length
   have q := SeqAt.RcAt.tuples (A := A) (e := fun _ => true) p1 p2 (by omega) (fun j j1 j2 => by
    have j1' : j < its.length := by simpa using j1
    have j2' : j < its2.length := by simpa using j2
    obtain ⟨w1, q1, s1⟩ := r1.get (i := j) (x := xs[j]'(by omega)) (by simp)
    obtain ⟨w2, q2, s2⟩ := r2.get (i := j) (x := ys[j]'(by omega)) (by simp)
    have z1 : its.toArray[j] = w1 := by
     have := List.getElem?_eq_some_iff.mp q1
     obtain ⟨_, z⟩ := this
     simpa using z
    have z2 : its2.toArray[j] = w2 := by
     have := List.getElem?_eq_some_iff.mp q2
     obtain ⟨_, z⟩ := this
     simpa using z
    rw [z1, z2]
    exact deep_rc I (h j _ _ (by simp) (by simp)) A.in1 (units_in1 hu) s1 s2)
   have : (((List.range (min its.toArray.size its2.toArray.size)).all fun _ => true) && its.toArray.size == its2.toArray.size) = true := by simp; omega
   rw [this] at q
   exact SeqAt.EqAt.of_refs hab q
end
section
variable {X : Cx} {a b c : Expr} {ta tb tc : TE} {pos : Pos}
def eqVs (xs ys : List V) : Bool := xs.length == ys.length && (List.range xs.length).all fun i => eqV (xs.getD i .non) (ys.getD i .non)
theorem eqVs_range {xs ys : List V} {us ws : List Value} (r1 : Vals xs us) (r2 : Vals ys ws) (f1 : xs.all flatV = true) (f2 : ys.all flatV = true) (A : Around) (s : Shared) :
  ∀ j (h1 : j < us.toArray.size) (h2 : j < ws.toArray.size), SeqAt.EqAt A s us.toArray[j] ws.toArray[j] (eqV (xs.getD j .non) (ys.getD j .non)) := fun j j1 j2 => by
 have e1 := r1.length
 have e2 := r2.length
 have j1' : j < us.length := by simpa using j1
 have j2' : j < ws.length := by simpa using j2
 have x1 : j < xs.length := by omega
 have y1 : j < ys.length := by omega
 obtain ⟨w1, q1, s1⟩ := r1.get (i := j) (x := xs[j]) (by simp)
 obtain ⟨w2, q2, s2⟩ := r2.get (i := j) (x := ys[j]) (by simp)
 have z1 : us.toArray[j] = w1 := by
  obtain ⟨_, z⟩ := List.getElem?_eq_some_iff.mp q1
  simpa using z
 have z2 : ws.toArray[j] = w2 := by
  obtain ⟨_, z⟩ := List.getElem?_eq_some_iff.mp q2
  simpa using z
 rw [z1, z2]
 have g1 : xs.getD j .non = xs[j] := by simp [List.getD, x1]
 have g2 : ys.getD j .non = ys[j] := by simp [List.getD, y1]
 rw [g1, g2]
 exact eqAt_V s1 s2 (List.all_eq_true.mp f1 _ (List.getElem_mem _)) (List.all_eq_true.mp f2 _ (List.getElem_mem _))
def EqRef (K : PySem.W.Frag) (H : Hp) (p q : Addr) (k : Bool) : Prop :=
 (k = true ∧ DeepEq K H 4 (.ref p) (.ref q)) ∨
 (∃ xs ys, SqL K H p xs ∧ SqL K H q ys ∧ xs.all flatV = true ∧ ys.all flatV = true ∧ k = eqVs xs ys) ∨
 (k = false ∧ ∃ xs ys, SqL K H p xs ∧ SqL K H q ys ∧ xs.length ≠ ys.length) ∨
 (∃ xs ys, SqT K H p xs ∧ SqT K H q ys ∧ xs.all flatV = true ∧ ys.all flatV = true ∧ k = eqVs xs ys)
theorem eqRef_rc {pins : List (Addr × Obj)} {σ : St} {H : Hp} {s : Shared} {p q : Addr} {k : Bool} (I : Inv X pins σ H s) (hu : X.A.units + 8 < cLine) (h : EqRef X.K H p q k) :
  SeqAt.RcAt X.A s (.ref p) (.ref q) k ∧ SeqAt.RcNeAt X.A s (.ref p) (.ref q) (!k) := by
 have deep : ∀ {xs ys : List V} {n : Nat}, n ≤ 4 → (SqL X.K H p xs ∧ SqL X.K H q ys ∨ SqT X.K H p xs ∧ SqT X.K H q ys) → xs.length = ys.length → (∀ (i : Nat) x y, xs[i]? = some x → ys[i]? = some y → DeepEq X.K H n x y) →
   SeqAt.RcAt X.A s (.ref p) (.ref q) true ∧ SeqAt.RcNeAt X.A s (.ref p) (.ref q) (!true) := fun {xs ys n} hn hq hl hd => by
  have items : ∀ {us ws : List Value}, Vals xs us → Vals ys ws → ∀ j (h1 : j < us.toArray.size) (h2 : j < ws.toArray.size), SeqAt.EqAt X.A.in1 s us.toArray[j] ws.toArray[j] true := fun {us ws} r1 r2 j j1 j2 => by
   have e1 := r1.length
   have e2 := r2.length
   have j1' : j < us.length := by simpa using j1
   have j2' : j < ws.length := by simpa using j2
   obtain ⟨w1, q1, s1⟩ := r1.get (i := j) (x := xs[j]'(by omega)) (by simp)
   obtain ⟨w2, q2, s2⟩ := r2.get (i := j) (x := ys[j]'(by omega)) (by simp)
   have z1 : us.toArray[j] = w1 := by
    obtain ⟨_, z⟩ := List.getElem?_eq_some_iff.mp q1
    simpa using z
   have z2 : ws.toArray[j] = w2 := by
    obtain ⟨_, z⟩ := List.getElem?_eq_some_iff.mp q2
    simpa using z
   rw [z1, z2]
   exact deep_rc I (hd j _ _ (by simp) (by simp)) X.A.in1 (by have e : X.A.in1.units = X.A.units + 1 := rfl; omega) s1 s2
  rcases hq with ⟨h1, h2⟩ | ⟨h1, h2⟩
  ·obtain ⟨its, r1, p1⟩ := isListOf I h1
   obtain ⟨its2, r2, p2⟩ := isListOf I h2
   have e1 := r1.length
   have e2 := r2.length
   have z : ((List.range its.toArray.size).all fun _ => true) = true := by simp
   have a1 := SeqAt.RcAt.lists (A := X.A) (e := fun _ => true) p1 p2 (by simp; omega) (by omega) (items r1 r2)
   have a2 := SeqAt.RcNeAt.lists (A := X.A) (e := fun _ => true) p1 p2 (by simp; omega) (by omega) (items r1 r2)
   rw [z] at a1 a2
   exact ⟨a1, a2⟩
  ·obtain ⟨its, r1, p1, _⟩ := I.tuple h1
   obtain ⟨its2, r2, p2, _⟩ := I.tuple h2
   have e1 := r1.length
   have e2 := r2.length
   have z : (((List.range (min its.toArray.size its2.toArray.size)).all fun _ => true) && its.toArray.size == its2.toArray.size) = true := by simp; omega
   have a1 := SeqAt.RcAt.tuples (A := X.A) (e := fun _ => true) p1 p2 (by omega) (items r1 r2)
   have a2 := SeqAt.RcNeAt.tuples (A := X.A) (e := fun _ => true) p1 p2 (by omega) (items r1 r2)
   rw [z] at a1 a2
   exact ⟨a1, a2⟩
 have flatL : ∀ {xs ys : List V}, SqL X.K H p xs → SqL X.K H q ys → xs.length ≠ ys.length → SeqAt.RcAt X.A s (.ref p) (.ref q) false ∧ SeqAt.RcNeAt X.A s (.ref p) (.ref q) (!false) := fun {xs ys} h1 h2 hl => by
  obtain ⟨its, r1, p1⟩ := isListOf I h1
  obtain ⟨its2, r2, p2⟩ := isListOf I h2
  have e1 := r1.length
  have e2 := r2.length
  have z : (its.toArray.size != its2.toArray.size) = true := by simp; omega
  exact ⟨SeqAt.RcAt.lists_lengths p1 p2 z (by omega), SeqAt.RcNeAt.lists_lengths p1 p2 z (by omega)⟩
 rcases h with ⟨rfl, h⟩ | ⟨xs, ys, h1, h2, f1, f2, rfl⟩ | ⟨rfl, xs, ys, h1, h2, hl⟩ | ⟨xs, ys, h1, h2, f1, f2, rfl⟩
 ·cases h with
  | flat f => simp [flatV] at f
  | lst h1 h2 hl hd => exact deep (by decide) (.inl ⟨h1, h2⟩) hl hd
  | tup h1 h2 hl hd => exact deep (by decide) (.inr ⟨h1, h2⟩) hl hd
 ·by_cases hl : xs.length = ys.length
  ·obtain ⟨its, r1, p1⟩ := isListOf I h1
   obtain ⟨its2, r2, p2⟩ := isListOf I h2
   have e1 := r1.length
   have e2 := r2.length
   have z : eqVs xs ys = (List.range its.toArray.size).all fun i => eqV (xs.getD i .non) (ys.getD i .non) := by
    unfold eqVs
    rw [List.size_toArray, ← e1, hl]
    simp
   rw [z]
   exact ⟨SeqAt.RcAt.lists p1 p2 (by simp; omega) (by omega) (eqVs_range r1 r2 f1 f2 _ _), SeqAt.RcNeAt.lists p1 p2 (by simp; omega) (by omega) (eqVs_range r1 r2 f1 f2 _ _)⟩
  ·have z : eqVs xs ys = false := by unfold eqVs; simp [hl]
   rw [z]
   exact flatL h1 h2 hl
 ·exact flatL h1 h2 hl
 ·obtain ⟨its, r1, p1, _⟩ := I.tuple h1
  obtain ⟨its2, r2, p2, _⟩ := I.tuple h2
  have e1 := r1.length
  have e2 := r2.length
  by_cases hl : xs.length = ys.length
  ·have z : eqVs xs ys = ((List.range (min its.toArray.size its2.toArray.size)).all (fun i => eqV (xs.getD i .non) (ys.getD i .non)) && its.toArray.size == its2.toArray.size) := by
    unfold eqVs
    rw [List.size_toArray, List.size_toArray, ← e1, ← e2, hl]
    simp
   rw [z]
   exact ⟨SeqAt.RcAt.tuples p1 p2 (by omega) (eqVs_range r1 r2 f1 f2 _ _), SeqAt.RcNeAt.tuples p1 p2 (by omega) (eqVs_range r1 r2 f1 f2 _ _)⟩
  ·have z : eqVs xs ys = ((List.range (min its.toArray.size its2.toArray.size)).all (fun i => eqV (xs.getD i .non) (ys.getD i .non)) && its.toArray.size == its2.toArray.size) := by
    have z1 : eqVs xs ys = false := by unfold eqVs; simp [hl]
    have z2 : (its.toArray.size == its2.toArray.size) = false := by simp; omega
    rw [z1, z2, Bool.and_false]
   rw [z]
   exact ⟨SeqAt.RcAt.tuples p1 p2 (by omega) (eqVs_range r1 r2 f1 f2 _ _), SeqAt.RcNeAt.tuples p1 p2 (by omega) (eqVs_range r1 r2 f1 f2 _ _)⟩
def cEq (K : PySem.W.Frag) : R2 := fun x y H Q => match x, y with
 | .int i, .int j => Q (.bl (decide (i = j))) H
 | .bl i, .bl j => Q (.bl (decide (i = j))) H
 | .str i, .str j => Q (.bl (decide (i = j))) H
 | .non, .non => Q (.bl true) H
 | .non, .int _ => Q (.bl false) H
 | .int _, .non => Q (.bl false) H
 | .non, .str _ => Q (.bl false) H
 | .str _, .non => Q (.bl false) H
 | .non, .bl _ => Q (.bl false) H
 | .bl _, .non => Q (.bl false) H
 | .ref p, .ref q => ∃ k, EqRef K H p q k ∧ Q (.bl k) H
 | _, _ => False
def cNe (K : PySem.W.Frag) : R2 := fun x y H Q => match x, y with
 | .int i, .int j => Q (.bl (!decide (i = j))) H
 | .bl i, .bl j => Q (.bl (!decide (i = j))) H
 | .str i, .str j => Q (.bl (!decide (i = j))) H
 | .non, .non => Q (.bl false) H
 | .non, .int _ => Q (.bl true) H
 | .int _, .non => Q (.bl true) H
 | .non, .str _ => Q (.bl true) H
 | .str _, .non => Q (.bl true) H
 | .non, .bl _ => Q (.bl true) H
 | .bl _, .non => Q (.bl true) H
 | .ref p, .ref q => ∃ k, EqRef K H p q k ∧ Q (.bl (!k)) H
 | _, _ => False
theorem dcI {i j : Int} : decide (V.int i = V.int j) = decide (i = j) := by rw [decide_eq_decide]; exact ⟨V.int.inj, congrArg _⟩
theorem dcB {i j : Bool} : decide (V.bl i = V.bl j) = decide (i = j) := by rw [decide_eq_decide]; exact ⟨V.bl.inj, congrArg _⟩
theorem dcS {i j : Str} : decide (V.str i = V.str j) = decide (i = j) := by rw [decide_eq_decide]; exact ⟨V.str.inj, congrArg _⟩
theorem o_eq (hu : X.A.units + 8 < cLine) : OpR X (compareOp .Eq) (cEq X.K) := by
  intro pins s σ H x y v u Q I rx ry h
  have go : rEq x y H Q → wpAny (model X.prog X.w) X.A (compareOp .Eq v u) (EP X pins σ Q) X.xe s := fun q => op_eq pins s σ H _ _ v u Q I rx ry q
  cases x <;> cases y <;> first
    | exact False.elim h
    | exact go ⟨rfl, h⟩
    | exact go ⟨rfl, by rw [dcI]; exact h⟩
    | exact go ⟨rfl, by rw [dcB]; exact h⟩
    | exact go ⟨rfl, by rw [dcS]; exact h⟩
    | (obtain ⟨k, e, q⟩ := h
       cases rx; cases ry
       exact (eqRef_rc I hu e).1 _ _ _ _ ⟨.bl k, H, I, rfl, q⟩)
theorem o_ne (hu : X.A.units + 8 < cLine) : OpR X (compareOp .NotEq) (cNe X.K) := by
  intro pins s σ H x y v u Q I rx ry h
  have go : rNe x y H Q → wpAny (model X.prog X.w) X.A (compareOp .NotEq v u) (EP X pins σ Q) X.xe s := fun q => op_ne pins s σ H _ _ v u Q I rx ry q
  cases x <;> cases y <;> first
    | exact False.elim h
    | exact go ⟨rfl, h⟩
    | exact go ⟨rfl, by rw [dcI]; exact h⟩
    | exact go ⟨rfl, by rw [dcB]; exact h⟩
    | exact go ⟨rfl, by rw [dcS]; exact h⟩
    | (obtain ⟨k, e, q⟩ := h
       cases rx; cases ry
       exact (eqRef_rc I hu e).2 _ _ _ _ ⟨.bl (!k), H, I, rfl, q⟩)
def cIs : R2 := fun x y H Q => match x, y with
 | .bl i, .bl j => Q (.bl (decide (i = j))) H
 | x, .non => Q (.bl (decide (x = .non))) H
 | .non, .bl _ => Q (.bl false) H
 | .int _, .bl _ => Q (.bl false) H
 | .str _, .bl _ => Q (.bl false) H
 | .ref _, .bl _ => Q (.bl false) H
 | _, _ => False
def cIsNot : R2 := fun x y H Q => match x, y with
 | .bl i, .bl j => Q (.bl (!decide (i = j))) H
 | x, .non => Q (.bl (!decide (x = .non))) H
 | _, _ => False
theorem o_isnot : OpR X (compareOp .IsNot) cIsNot := by
 intro pins s σ H x y v u Q I rx ry h
 cases y with
 | non =>
  have q : Q (.bl (!decide (x = .non))) H := by cases x <;> exact h
  exact op_notN pins s σ H _ _ v u Q I rx ry ⟨rfl, q⟩
 | bl j =>
  cases ry
  cases x with
  | bl i =>
   cases rx
   exact wpAny_isNot_plain rfl ⟨.bl (!decide (i = j)), H, I, (by cases i <;> cases j <;> rfl), h⟩
  | _ => exact False.elim h
 | _ => cases x <;> exact False.elim h
def strIn (i j : Str) : Bool := !(Builtin.Str.occurrences j i 0 j.length 1).isEmpty
def cIn (K : PySem.W.Frag) (neg : Bool) : R2 := fun x y H Q => match y with
 | .ref p => ∃ xs, (SqL K H p xs ∨ SqT K H p xs) ∧ flatV x = true ∧ xs.all flatV = true ∧ Q (.bl (if neg then !inV x xs else inV x xs)) H
 | .str j => match x with | .str i => Q (.bl (if neg then !strIn i j else strIn i j)) H | _ => False
 | _ => False
def cBool (x : V) (k : Bool → Prop) : Prop := match x with | .bl b => k b | _ => False
theorem cBool_of {x : V} {k : Bool → Prop} (h : cBool x k) : ∃ b, x = .bl b ∧ k b := by
 cases x <;> first | exact False.elim h | exact ⟨_, rfl, h⟩
def cTst (t : TE) : TT := fun σ H Q => t σ H fun x H' => cBool x fun k => Q k H'
def cTru (K : PySem.W.Frag) (t : TE) : TT := fun σ H Q => t σ H fun x H' => match x with
 | .non => Q false H'
 | .bl b => Q b H'
 | .int i => Q (decide (i ≠ 0)) H'
 | .str y => y.length ≤ sizeLine ∧ Q (decide (y.length ≠ 0)) H'
 | .ref p => ∃ k, TruV K (.ref p) H' k ∧ Q k H'
 | .byt p => ∃ k, TruV K (.byt p) H' k ∧ Q k H'
 | _ => False
theorem pt_tru {t : TE} (ha : PE X a t) (he : ∀ whole, isTrue a X.env whole = (do let v ← whole; standAt a.pos; holding [v] (truthy v)) := by intro _; rfl) : PT X a (cTru X.K t) := by
 have h := pt_truth ha he
 have e : cTru X.K t = (fun σ H Q => t σ H fun x H' => ∃ k, TruV X.K x H' k ∧ Q k H') := by
  funext σ H Q
  unfold cTru
  congr 1
  funext x H'
  apply propext
  cases x with
  | non => exact ⟨fun q => ⟨false, rfl, q⟩, fun ⟨k, h1, h2⟩ => by have h1 : k = false := h1; subst h1; exact h2⟩
  | bl b => exact ⟨fun q => ⟨b, rfl, q⟩, fun ⟨k, h1, h2⟩ => by have h1 : k = b := h1; subst h1; exact h2⟩
  | int i =>
   have z : decide (i ≠ 0) = (i != 0) := by by_cases e : i = 0 <;> simp [e]
   exact ⟨fun q => ⟨decide (i ≠ 0), z, q⟩, fun ⟨k, h1, h2⟩ => by have h1 : k = (i != 0) := h1; rw [← z] at h1; subst h1; exact h2⟩
  | str y =>
   have z : decide (y.length ≠ 0) = ((y.length : Int) != 0) := by
    by_cases e : y.length = 0
    ·simp [e]
    ·have : (y.length : Int) ≠ 0 := by omega
     simp [e, this]
   exact ⟨fun q => ⟨decide (y.length ≠ 0), ⟨q.1, z⟩, q.2⟩, fun ⟨k, h1, h2⟩ => by
    have h1 : y.length ≤ sizeLine ∧ k = ((y.length : Int) != 0) := h1
    obtain ⟨h0, h1⟩ := h1
    rw [← z] at h1; subst h1; exact ⟨h0, h2⟩⟩
  | ref p => exact Iff.rfl
  | byt y => exact Iff.rfl
  | flt y => exact ⟨fun q => q.elim, fun ⟨k, h1, h2⟩ => h1.elim⟩
  | ty y => exact ⟨fun q => q.elim, fun ⟨k, h1, h2⟩ => h1.elim⟩
 rw [e]
 exact h
theorem cBool_eq {x : V} {k : Bool → Prop} : cBool x k = ∃ b, x = .bl b ∧ k b := propext ⟨cBool_of, fun ⟨b, e, q⟩ => by subst e; exact q⟩
theorem cTst_eq (t : TE) : cTst t = tTest t := by
 funext σ H Q
 unfold cTst tTest
 congr 1
 funext x H'
 exact cBool_eq
theorem t_cmp {op : CmpOp} {r : R2} (ho : OpR X (compareOp op) r) (ha : PE X a ta) (hb : PE X b tb) (hm : behindInMarks op b = false) : PT X (.Compare a [op] [b] pos) (cTst (tOp r ta tb)) := by
 rw [cTst_eq]
 exact pt_cmpR ho ha hb hm
def cChain (r r' : R2) (ta tb tc : TE) : TE := fun σ H Q => ta σ H fun x H1 => tb σ H1 fun y H2 => r x y H2 fun z H3 => cBool z fun k =>
 (if k = true then tc σ H3 fun w' H4 => r' y w' H4 Q else Q (.bl false) H3)
theorem cChain_eq (r r' : R2) (ta tb tc : TE) : cChain r r' ta tb tc = tChain r r' ta tb tc := by
 funext σ H Q
 unfold cChain tChain
 congr 1
 funext x H1
 congr 1
 funext y H2
 congr 1
 funext z H3
 exact cBool_eq
theorem e_chain {op op' : CmpOp} {r r' : R2} (ho : OpR X (compareOp op) r) (ho' : OpR X (compareOp op') r') (ha : PE X a ta) (hb : PE X b tb) (hc : PE X c tc)
  (hm : lastMarks [op, op'] [b, c] = false := by with_unfolding_all rfl) : PE X (.Compare a [op, op'] [b, c] pos) (cChain r r' ta tb tc) := by
 rw [cChain_eq]
 exact pe_chain ho ho' ha hb hc hm
def cAndV (ta tb : TE) : TE := fun σ H Q => ta σ H fun x H1 => cBool x fun c => if c = true then tb σ H1 Q else Q (.bl false) H1
theorem cAndV_eq (ta tb : TE) : cAndV ta tb = tAndV ta tb := by
 funext σ H Q
 unfold cAndV tAndV
 congr 1
 funext x H'
 exact cBool_eq
variable {rest : List Expr}
theorem e_and (ha : PE X a ta) (hb : PE X (.BoolOp .And (b :: rest) pos) tb) : PE X (.BoolOp .And (a :: b :: rest) pos) (cAndV ta tb) := by
 rw [cAndV_eq]
 exact pe_and ha hb
def cIx (K : PySem.W.Frag) : R2 := fun x y H Q => match x, y with
 | .ref p, .int i => ∃ xs v, (SqL K H p xs ∨ SqT K H p xs) ∧ atI xs i = some v ∧ Q v H
 | .str z, .int i => z.length ≤ sizeLine ∧ ∃ c, atI z.cps.toList i = some c ∧ Q (.str ⟨#[c]⟩) H
 | _, _ => False
theorem i_seq : IxR X (cIx X.K) := ix_seq.imp fun x y H Q h => by
  cases x <;> cases y <;> first
    | exact False.elim h
    | (obtain ⟨xs, v, h1 | h1, h2, h3⟩ := h
       · exact .inl ⟨_, xs, _, v, rfl, rfl, h1, h2, h3⟩
       · exact .inr (.inl ⟨_, xs, _, v, rfl, rfl, h1, h2, h3⟩))
    | (obtain ⟨h1, c, h2, h3⟩ := h
       exact .inr (.inr ⟨_, _, c, rfl, rfl, h1, h2, h3⟩))
def cSlL (K : PySem.W.Frag) : V → Option Int → Option Int → Hp → VK → Prop := fun x lo hi H Q => match x with
 | .ref p => ∃ xs, SqL K H p xs ∧ ∀ q, H q = none → Q (.ref q) (upd H q (.lst (cutV xs lo hi)))
 | _ => False
theorem s_list : SlR X (cSlL X.K) := sl_list.imp fun x lo hi H Q h => by
 cases x <;> first | exact False.elim h | (obtain ⟨xs, h1, h2⟩ := h; exact ⟨_, xs, rfl, h1, h2⟩)
def cLen (K : PySem.W.Frag) : List V → Hp → VK → Prop := fun vs H Q => match vs with
 | [.str z] => z.length ≤ sizeLine ∧ Q (.int z.length) H
 | [.ref p] => (∃ ys, (SqL K H p ys ∨ SqT K H p ys) ∧ Q (.int ys.length) H) ∨ ∃ kvs, H p = some (.dK kvs) ∧ Q (.int kvs.length) H
 | _ => False
theorem c_len : CallR X (.builtin "len") (cLen X.K) := by
 intro pins s σ H xs us Q I r h
 match xs, h with
 | [.str z], h => exact call_len_str pins s σ H _ us Q I r ⟨z, rfl, h.1, h.2⟩
 | [.ref p], h =>
  rcases h with ⟨ys, h1, h2⟩ | ⟨kvs, h1, h2⟩
  ·exact call_len_seq pins s σ H _ us Q I r ⟨p, ys, rfl, h1, h2⟩
  ·exact call_lenD pins s σ H _ us Q I r ⟨p, kvs, rfl, h1, h2⟩
def cInt : List V → Hp → VK → Prop := fun vs H Q => match vs with
 | [.int i] => Q (.int i) H
 | [.bl k] => Q (.int (if k then 1 else 0)) H
 | _ => False
theorem c_int : CallR X (.type "int") cInt := by
 intro pins s σ H xs us Q I r h
 match xs, h with
 | [.int i], h => exact call_int1 pins s σ H _ us Q I r (.inl ⟨i, rfl, h⟩)
 | [.bl k], h => exact call_int1 pins s σ H _ us Q I r (.inr ⟨k, rfl, h⟩)
def cList (K : PySem.W.Frag) : List V → Hp → VK → Prop := fun vs H Q => match vs with
 | [.ref p] => ∃ ys, (SqL K H p ys ∨ SqT K H p ys) ∧ ∀ l, H l = none → Q (.ref l) (upd H l (.lst ys))
 | _ => False
theorem c_list : CallR X (.type "list") (cList X.K) := by
 intro pins s σ H xs us Q I r h
 match xs, h with
 | [.ref p], h =>
  obtain ⟨ys, h1, h2⟩ := h
  exact call_list_of pins s σ H _ us Q I r ⟨p, ys, rfl, h1, h2⟩
def cTuple (K : PySem.W.Frag) : List V → Hp → VK → Prop := fun vs H Q => match vs with
 | [.ref p] => ∃ ys, ((SqL K H p ys ∧ ∀ l, H l = none → Q (.ref l) (upd H l (.tup ys))) ∨ (SqT K H p ys ∧ Q (.ref p) H))
 | _ => False
theorem c_tuple : CallR X (.type "tuple") (cTuple X.K) := by
 intro pins s σ H xs us Q I r h
 match xs, h with
 | [.ref p], h =>
  obtain ⟨ys, h1⟩ := h
  exact call_tuple_of pins s σ H _ us Q I r ⟨p, ys, rfl, h1⟩
def cMin : List V → Hp → VK → Prop := fun vs H Q => match vs with
 | [.int i, .int j] => Q (.int (if j < i then j else i)) H
 | _ => False
theorem c_min (hc : X.calm = true) : CallR X (.builtin "min") cMin := by
 intro pins s σ H xs us Q I r h
 match xs, h with
 | [.int i, .int j], h => exact call_min2 hc pins s σ H _ us Q I r ⟨i, j, rfl, h⟩
def cMax : List V → Hp → VK → Prop := fun vs H Q => match vs with
 | [.int i, .int j] => Q (.int (if j > i then j else i)) H
 | _ => False
theorem c_max (hc : X.calm = true) : CallR X (.builtin "max") cMax := by
 intro pins s σ H xs us Q I r h
 match xs, h with
 | [.int i, .int j], h => exact call_max2 hc pins s σ H _ us Q I r ⟨i, j, rfl, h⟩
def cIsinst (K : PySem.W.Frag) : List V → Hp → VK → Prop := fun vs H Q => match vs with
 | [x, .ty T] => ∃ t b, TyOf K H x t ∧ PySem.W.kitOne K t (.type T) = some b ∧ Q (.bl b) H
 | [x, .ref C] => ∃ t b, TyOf K H x t ∧ PySem.W.kitOne K t (.ref C) = some b ∧ Q (.bl b) H
 | _ => False
theorem c_isinst : CallR X (.builtin "isinstance") (cIsinst X.K) := by
 intro pins s σ H xs us Q I r h
 match xs, h with
 | [x, .ty T], h =>
  obtain ⟨t, k, h1, h2, h3⟩ := h
  obtain ⟨u, w', rfl, r1, r2⟩ := vals2 r
  cases r2
  exact isinst_ok I r1 h1 h2 fun tk => ⟨.bl k, H, I.tok tk, rfl, h3⟩
 | [x, .ref C], h =>
  obtain ⟨t, k, h1, h2, h3⟩ := h
  obtain ⟨u, w', rfl, r1, r2⟩ := vals2 r
  cases r2
  exact isinst_ok I r1 h1 h2 fun tk => ⟨.bl k, H, I.tok tk, rfl, h3⟩
def csChk (onames : List (Str × NameKind)) (scope : Scope) : Bool := scope.names.all fun y => decide (y.2 ≠ .cell) && (decide (y.2 ≠ .local) || decide (scope.names.lookup y.1 = some .local)) && (decide (y.2 ≠ .free) || decide (onames.lookup y.1 = some .cell) || decide (onames.lookup y.1 = some .free))
theorem CScope.of {scope : Scope} (onames : List (Str × NameKind)) (h : csChk onames scope = true) (k : scope.kind = .function := by rfl) (e : X.env.scope.names = onames := by rfl) : CScope X scope := by
 have q := List.all_eq_true.mp h
 refine ⟨k, fun y hy => ?_, fun y hy hl => ?_, fun y hy hf => ?_⟩
 ·have z := q y hy
  simp only [Bool.and_eq_true, decide_eq_true_eq] at z
  exact z.1.1
 ·have z := q y hy
  simp only [Bool.and_eq_true, Bool.or_eq_true, decide_eq_true_eq] at z
  exact z.1.2.resolve_left fun w => w hl
 ·have z := q y hy
  simp only [Bool.and_eq_true, Bool.or_eq_true, decide_eq_true_eq] at z
  show X.env.scope.names.lookup y.1 = _ ∨ X.env.scope.names.lookup y.1 = _
  rw [e]
  rcases z.2 with (w | w) | w
  ·exact absurd hf w
  ·exact .inl w
  ·exact .inr w
def cnChk (XN : List Str) (scope : Scope) (N : List Str) (k : Nat) (sel : List Nat) : Bool := decide (N.length = k + sel.length) && (List.range sel.length).all fun i => match sel[i]?, N[k + i]? with
 | some j, some x => decide (XN[j]? = some x) && decide (scope.names.lookup x = some .free)
 | _, _ => false
theorem CNames.of {scope : Scope} {N : List Str} {k : Nat} {sel : List Nat} (XN : List Str) (h : cnChk XN scope N k sel = true) (e : X.N = XN := by rfl) : CNames X scope N k sel := by
 unfold cnChk at h
 simp only [Bool.and_eq_true, decide_eq_true_eq] at h
 refine ⟨h.1, fun i j x h1 h2 => ?_⟩
 have hi : i < sel.length := (List.getElem?_eq_some_iff.mp h1).1
 have q := List.all_eq_true.mp h.2 i (List.mem_range.mpr hi)
 rw [h1, h2] at q
 simp only [Bool.and_eq_true, decide_eq_true_eq] at q
 rw [e]
 exact q
end
theorem hr8 {A : Around} {k : Nat} (hr : Room k A) : A.units + 8 < cLine := by have := hr.units; omega
section
variable {X : Cx} {a b : Expr} {te : TE}
def cPart (t : TE) : TO := fun σ H Q => t σ H fun x H1 => match x with | .int i => Q (some i) H1 | _ => False
theorem cPart_eq (t : TE) : cPart t = tPart t := by
 funext σ H Q
 unfold cPart tPart
 congr 1
 funext x H'
 apply propext
 cases x <;> first
  | exact ⟨fun q => ⟨_, rfl, q⟩, fun ⟨i, e, q⟩ => by cases e; exact q⟩
  | exact ⟨fun q => False.elim q, fun ⟨i, e, q⟩ => by cases e⟩
theorem e_part (h : PE X a te) : PO X (some a) (cPart te) := by
 rw [cPart_eq]
 exact po_some h
def cNeg : V → Hp → VK → Prop := fun x H Q => match x with | .int i => Q (.int (-i)) H | _ => False
theorem u_neg : UnR X (unaryOp .USub) cNeg := fun pins s σ H x v Q I rx h => by
 cases x <;> first | exact False.elim h | exact un_neg pins s σ H _ v Q I rx ⟨_, rfl, h⟩
theorem t_pc {op : CmpOp} {t : TE} {pos : Pos} (h : PC X op a b t) (h1 : behindInMarks op b = false := by first | exact nobehind _ (by decide) (by decide) | rfl | with_unfolding_all rfl) : PT X (.Compare a [op] [b] pos) (cTst t) := by
 have e : cTst t = tB t := by
  funext σ H Q
  unfold cTst tB
  congr 1
  funext x H'
  exact cBool_eq
 rw [e]
 exact pt_cmp h h1
end
section
variable {K : PySem.W.Frag} {σ : St} {sel : List Nat} {rest : St} {H : Hp} {p : Addr} {tt : TT} {te : TE} {Q : VK}
abbrev CompGoal (J : It) (σ : St) (k : Nat) (sel : List Nat) (g : TG) (tt : TT) (te : TE) (Q : VK) (H1 : Hp) (p : Addr) : Prop :=
 ∃ W : Nat → Nat → St → Hp → Prop, (∃ m, W 0 m (cst σ k sel) (upd H1 p (.lst []))) ∧ ∀ i m σ2 H2, W i m σ2 H2 →
  (J.stop i H2 ∧ Q (.ref p) H2) ∨ (J.go i H2 ∧ ∀ x H3, J.yld i H2 x H3 → g x σ2 H3 fun σ4 H4 => tt σ4 H4 fun b H5 =>
   if b = true then te σ4 H5 fun v H6 => ∃ ys, H6 p = some (.lst ys) ∧ ys.length < sizeLine ∧ ∃ m', m' < m ∧ W (i + 1) m' σ4 (upd H6 p (.lst (ys ++ [v]))) else ∃ m', m' < m ∧ W (i + 1) m' σ4 H5)
theorem comp_inv {J : It} {n : Nat} {item : Nat → V} (Pv : Nat → Hp → Prop) (hr : sel.map (fun j => (σ[j]?).join) = rest) (h0 : Pv 0 (upd H p (.lst [])))
  (src : ∀ i H2, i < n → Pv i H2 → J.go i H2 ∧ ∀ x H3, J.yld i H2 x H3 → H3 = H2 ∧ x = item i) (fin : ∀ H2, Pv n H2 → J.stop n H2)
  (step : ∀ i H2 (R : Hp → Prop), i < n → Pv i H2 → (∀ H', Pv (i + 1) H' → R H') → tt (some (item i) :: rest) H2 fun b H5 =>
   if b = true then te (some (item i) :: rest) H5 fun v H6 => ∃ ys, H6 p = some (.lst ys) ∧ ys.length < sizeLine ∧ R (upd H6 p (.lst (ys ++ [v]))) else R H5)
  (hQ : ∀ H2, Pv n H2 → Q (.ref p) H2) : CompGoal J σ 1 sel (gName 0) tt te Q H p := by
 refine ⟨fun i m σ2 H2 => i ≤ n ∧ m = n - i + 1 ∧ (∃ v, σ2 = v :: rest) ∧ Pv i H2, ⟨n + 1, Nat.zero_le _, rfl, ⟨none, ?_⟩, h0⟩, ?_⟩
 ·unfold cst; rw [hr]; rfl
 ·rintro i m σ2 H2 ⟨hi, rfl, ⟨v, rfl⟩, hP⟩
  by_cases hlt : i < n
  ·right
   obtain ⟨hg, hy⟩ := src i H2 hlt hP
   refine ⟨hg, fun x H3 hx => ?_⟩
   obtain ⟨rfl, rfl⟩ := hy x H3 hx
   exact step i H3 (fun H' => ∃ m', m' < n - i + 1 ∧ i + 1 ≤ n ∧ m' = n - (i + 1) + 1 ∧ (∃ v, (some (item i) :: rest : St) = v :: rest) ∧ Pv (i + 1) H') hlt hP fun H' h' => ⟨n - (i + 1) + 1, by omega, hlt, rfl, ⟨_, rfl⟩, h'⟩
  ·left
   have e : i = n := by omega
   subst e
   exact ⟨fin H2 hP, hQ H2 hP⟩
theorem src_list {a : Addr} {xs : List V} {Pv : Nat → Hp → Prop} (hl : ∀ i H2, i ≤ xs.length → Pv i H2 → SqL K H2 a xs) : ∀ i H2, i < xs.length → Pv i H2 → (Itl K a).go i H2 ∧ ∀ x H3, (Itl K a).yld i H2 x H3 → H3 = H2 ∧ x = xs.getD i .non := fun i H2 hi hP => by
 have q := hl i H2 (Nat.le_of_lt hi) hP
 have e : xs[i]? = some (xs.getD i .non) := by simp [List.getD, hi]
 refine ⟨⟨xs, _, q, e⟩, fun x H3 ⟨h1, h2⟩ => ⟨h1, ?_⟩⟩
 have := h2 xs q
 rw [e] at this
 exact (Option.some.inj this).symm
theorem src_tup {a : Addr} {xs : List V} {Pv : Nat → Hp → Prop} (hl : ∀ i H2, i ≤ xs.length → Pv i H2 → SqT K H2 a xs) : ∀ i H2, i < xs.length → Pv i H2 → (Itt K a).go i H2 ∧ ∀ x H3, (Itt K a).yld i H2 x H3 → H3 = H2 ∧ x = xs.getD i .non := fun i H2 hi hP => by
 have q := hl i H2 (Nat.le_of_lt hi) hP
 have e : xs[i]? = some (xs.getD i .non) := by simp [List.getD, hi]
 refine ⟨⟨xs, _, q, e⟩, fun x H3 ⟨h1, h2⟩ => ⟨h1, ?_⟩⟩
 have := h2 xs q
 rw [e] at this
 exact (Option.some.inj this).symm
theorem src_rng {lo : Int} {n : Nat} {Pv : Nat → Hp → Prop} : ∀ i H2, i < n → Pv i H2 → (Itr lo n).go i H2 ∧ ∀ x H3, (Itr lo n).yld i H2 x H3 → H3 = H2 ∧ x = .int (lo + i) := fun i H2 hi hP => ⟨hi, fun x H3 h => h⟩
theorem same_upd {H : Hp} {p : Addr} {o : HO} (hp : H p = none) : Same H (upd H p o) := fun b u e => by rw [upd_ne (ne_of_none e hp)]; exact e
theorem take_map_snoc {xs : List V} {f : V → V} {i : Nat} (hi : i < xs.length) : (xs.take i).map f ++ [f (xs.getD i .non)] = (xs.take (i + 1)).map f := by
 rw [List.take_add_one, List.map_append]
 congr 1
 simp [List.getD, hi]
theorem comp_list {a : Addr} {xs : List V} (f : V → V) (hl : SqL K H a xs) (hp : H p = none) (hr : sel.map (fun j => (σ[j]?).join) = rest) (hz : xs.length ≤ sizeLine)
  (he : ∀ x H' (Q' : VK), x ∈ xs → Same H H' → Q' (f x) H' → te (some x :: rest) H' Q') (hQ : Q (.ref p) (upd H p (.lst (xs.map f)))) : CompGoal (Itl K a) σ 1 sel (gName 0) tTrue te Q H p := by
 refine comp_inv (n := xs.length) (item := fun i => xs.getD i .non) (fun i H2 => H2 = upd H p (.lst ((xs.take i).map f))) hr (by simp) (src_list ?_) ?_ ?_ ?_
 ·rintro i H2 hi rfl
  exact (same_upd hp).seq hl
 ·rintro H2 rfl
  exact ⟨xs, (same_upd hp).seq hl, Nat.le_refl _⟩
 ·rintro i H2 R hi rfl hR
  unfold tTrue
  dsimp only
  rw [if_pos rfl]
  refine he _ _ _ (by rw [show xs.getD i .non = xs[i] from by simp [List.getD, hi]]; exact List.getElem_mem _) (same_upd hp) ⟨_, upd_same, ?_, hR _ ?_⟩
  ·rw [List.length_map, List.length_take]; omega
  ·rw [upd_upd, take_map_snoc hi]
 ·rintro H2 rfl
  rw [List.take_length]
  exact hQ
theorem comp_rng {lo : Int} {n : Nat} (f : Int → V) (hp : H p = none) (hr : sel.map (fun j => (σ[j]?).join) = rest) (hz : n ≤ sizeLine)
  (he : ∀ (i : Nat) H' (Q' : VK), i < n → Same H H' → Q' (f (lo + i)) H' → te (some (.int (lo + i)) :: rest) H' Q') (hQ : Q (.ref p) (upd H p (.lst ((List.range n).map fun i => f (lo + (i : Nat)))))) : CompGoal (Itr lo n) σ 1 sel (gName 0) tTrue te Q H p := by
 refine comp_inv (n := n) (item := fun i => .int (lo + i)) (fun i H2 => H2 = upd H p (.lst ((List.range i).map fun i => f (lo + (i : Nat))))) hr (by simp) src_rng ?_ ?_ ?_
 ·rintro H2 rfl
  exact Nat.le_refl _
 ·rintro i H2 R hi rfl hR
  unfold tTrue
  dsimp only
  rw [if_pos rfl]
  refine he i _ _ hi (same_upd hp) ⟨_, upd_same, ?_, hR _ ?_⟩
  ·rw [List.length_map, List.length_range]; omega
  ·rw [upd_upd, List.range_succ, List.map_append]; rfl
 ·rintro H2 rfl
  exact hQ
theorem comp_filter {a : Addr} {xs : List V} (q : V → Bool) (f : V → V) (hl : SqL K H a xs) (hp : H p = none) (hr : sel.map (fun j => (σ[j]?).join) = rest) (hz : xs.length ≤ sizeLine)
  (ht : ∀ x H' (Q' : Bool → Hp → Prop), x ∈ xs → Same H H' → Q' (q x) H' → tt (some x :: rest) H' Q')
  (he : ∀ x H' (Q' : VK), x ∈ xs → q x = true → Same H H' → Q' (f x) H' → te (some x :: rest) H' Q') (hQ : Q (.ref p) (upd H p (.lst ((xs.filter q).map f)))) : CompGoal (Itl K a) σ 1 sel (gName 0) tt te Q H p := by
 refine comp_inv (n := xs.length) (item := fun i => xs.getD i .non) (fun i H2 => H2 = upd H p (.lst (((xs.take i).filter q).map f))) hr (by simp) (src_list ?_) ?_ ?_ ?_
 ·rintro i H2 hi rfl
  exact (same_upd hp).seq hl
 ·rintro H2 rfl
  exact ⟨xs, (same_upd hp).seq hl, Nat.le_refl _⟩
 ·rintro i H2 R hi rfl hR
  have ex : xs.getD i .non = xs[i] := by simp [List.getD, hi]
  have hm : xs.getD i .non ∈ xs := by rw [ex]; exact List.getElem_mem _
  have et : xs.take (i + 1) = xs.take i ++ [xs.getD i .non] := by rw [List.take_add_one]; simp [List.getD, hi]
  refine ht _ _ _ hm (same_upd hp) ?_
  cases hq : q (xs.getD i .non) with
  | true =>
   rw [if_pos rfl]
   refine he _ _ _ hm hq (same_upd hp) ⟨_, upd_same, ?_, hR _ ?_⟩
   ·rw [List.length_map]
    have := List.length_filter_le q (xs.take i)
    rw [List.length_take] at this
    omega
   ·rw [upd_upd, et, List.filter_append, List.map_append, List.filter_cons, if_pos hq]
    rfl
  | false =>
   rw [if_neg (by simp)]
   refine hR _ ?_
   rw [et, List.filter_append, List.map_append, List.filter_cons, if_neg (by rw [hq]; simp), List.filter_nil, List.map_nil, List.append_nil]
 ·rintro H2 rfl
  rw [List.take_length]
  exact hQ
end
def cRef (x : V) (k : Addr → Prop) : Prop := match x with | .ref p => k p | _ => False
theorem cRef_eq {x : V} {k : Addr → Prop} : (∃ p, x = .ref p ∧ k p) = cRef x k := by
 apply propext
 cases x <;> first
  | exact ⟨fun ⟨p, e, q⟩ => by cases e; exact q, fun q => ⟨_, rfl, q⟩⟩
  | exact ⟨fun ⟨p, e, q⟩ => (by cases e), fun q => False.elim q⟩
def cInt1 (vs : List V) (k : Int → Prop) : Prop := match vs with | [.int j] => k j | _ => False
theorem cInt1_eq {vs : List V} {k : Int → Prop} : (∃ j, vs = [.int j] ∧ k j) = cInt1 vs k := by
 apply propext
 constructor
 ·rintro ⟨j, rfl, q⟩; exact q
 ·intro h
  unfold cInt1 at h
  split at h
  ·exact ⟨_, rfl, h⟩
  ·exact h.elim
def cInt2 (vs : List V) (k : Int → Int → Prop) : Prop := match vs with | [.int i, .int j] => k i j | _ => False
theorem cInt2_eq {vs : List V} {k : Int → Int → Prop} : (∃ i j, vs = [.int i, .int j] ∧ k i j) = cInt2 vs k := by
 apply propext
 constructor
 ·rintro ⟨i, j, rfl, q⟩; exact q
 ·intro h
  unfold cInt2 at h
  split at h
  ·exact ⟨_, _, rfl, h⟩
  ·exact h.elim
def ForGoal (J : It) (g : TG) (tb : TS) (D : Ends) (σ : St) (H : Hp) : Prop := ∃ W : Nat → Nat → St → Hp → Prop, (∃ m, W 0 m σ H) ∧ ∀ i m σ H, W i m σ H →
 (J.stop i H ∧ D.nx σ H) ∨ (J.go i H ∧ ∃ N : St → Hp → Prop, (∀ σ' H', N σ' H' → ∃ m', m' < m ∧ W (i + 1) m' σ' H') ∧ ∀ x H', J.yld i H x H' → g x σ H' fun σ2 H2 => tb { D with nx := N, ct := N, bk := D.nx } σ2 H2)
def CompG (J : It) (σ : St) (k : Nat) (sel : List Nat) (g : TG) (tt : TT) (te : TE) (Q : VK) (H1 : Hp) : Prop := ∀ p, H1 p = none → CompGoal J σ k sel g tt te Q H1 p
section
variable {K : PySem.W.Frag} {te : TE} {ta : TA} {g : TG} {tb : TS} {D : Ends} {σ : St} {H : Hp} {p : Addr} {xs : List V} {k : Nat} {sel : List Nat} {tt : TT} {el : TE} {Q : VK}
theorem tFor_list : tFor (iList K te) g tb D σ H = te σ H (fun x H1 => cRef x fun p => (∃ xs, SqL K H1 p xs) ∧ ForGoal (Itl K p) g tb D σ H1) := by
 unfold tFor iList
 congr 1
 funext x H1
 exact cRef_eq
theorem tFor_tup : tFor (iTup K te) g tb D σ H = te σ H (fun x H1 => cRef x fun p => (∃ xs, SqT K H1 p xs) ∧ ForGoal (Itt K p) g tb D σ H1) := by
 unfold tFor iTup
 congr 1
 funext x H1
 exact cRef_eq
theorem tFor_rng1 : tFor (iRng1 ta) g tb D σ H = ta σ H (fun vs H1 => cInt1 vs fun j => -(2 ^ 62) ≤ j ∧ j < 2 ^ 62 ∧ ForGoal (Itr 0 j.toNat) g tb D σ H1) := by
 unfold tFor iRng1
 congr 1
 funext x H1
 exact cInt1_eq
theorem tFor_rng2 : tFor (iRng2 ta) g tb D σ H = ta σ H (fun vs H1 => cInt2 vs fun i j => (-(2 ^ 62) ≤ i ∧ i < 2 ^ 62 ∧ -(2 ^ 62) ≤ j ∧ j < 2 ^ 62) ∧ ForGoal (Itr i (j - i).toNat) g tb D σ H1) := by
 unfold tFor iRng2
 congr 1
 funext x H1
 exact cInt2_eq
theorem tComp_list : tComp (iList K te) k sel g tt el σ H Q = te σ H (fun x H1 => cRef x fun p => (∃ xs, SqL K H1 p xs) ∧ CompG (Itl K p) σ k sel g tt el Q H1) := by
 unfold tComp iList
 congr 1
 funext x H1
 exact cRef_eq
theorem tComp_tup : tComp (iTup K te) k sel g tt el σ H Q = te σ H (fun x H1 => cRef x fun p => (∃ xs, SqT K H1 p xs) ∧ CompG (Itt K p) σ k sel g tt el Q H1) := by
 unfold tComp iTup
 congr 1
 funext x H1
 exact cRef_eq
theorem tComp_rng1 : tComp (iRng1 ta) k sel g tt el σ H Q = ta σ H (fun vs H1 => cInt1 vs fun j => -(2 ^ 62) ≤ j ∧ j < 2 ^ 62 ∧ CompG (Itr 0 j.toNat) σ k sel g tt el Q H1) := by
 unfold tComp iRng1
 congr 1
 funext x H1
 exact cInt1_eq
theorem for_listG (Pv : Nat → St → Hp → Prop) (h0 : Pv 0 σ H) (hk : ∀ i σ H, i ≤ xs.length → Pv i σ H → SqL K H p xs)
  (hs : ∀ i x σ H, xs[i]? = some x → Pv i σ H → g x σ H fun σ2 H2 => tb { D with nx := Pv (i + 1), ct := Pv (i + 1), bk := D.nx } σ2 H2) (hd : ∀ σ H, Pv xs.length σ H → D.nx σ H) : ForGoal (Itl K p) g tb D σ H := for_list Pv h0 hk hs hd
theorem for_tupG (Pv : Nat → St → Hp → Prop) (h0 : Pv 0 σ H) (hk : ∀ i σ H, i ≤ xs.length → Pv i σ H → SqT K H p xs)
  (hs : ∀ i x σ H, xs[i]? = some x → Pv i σ H → g x σ H fun σ2 H2 => tb { D with nx := Pv (i + 1), ct := Pv (i + 1), bk := D.nx } σ2 H2) (hd : ∀ σ H, Pv xs.length σ H → D.nx σ H) : ForGoal (Itt K p) g tb D σ H := for_tup Pv h0 hk hs hd
theorem for_rngG {lo : Int} {n : Nat} (Pv : Nat → St → Hp → Prop) (h0 : Pv 0 σ H)
  (hs : ∀ (i : Nat) σ H, i < n → Pv i σ H → g (.int (lo + i)) σ H fun σ2 H2 => tb { D with nx := Pv (i + 1), ct := Pv (i + 1), bk := D.nx } σ2 H2) (hd : ∀ σ H, Pv n σ H → D.nx σ H) : ForGoal (Itr lo n) g tb D σ H := for_range Pv h0 hs hd
end
theorem atI_ok {α : Type} {xs : List α} {i : Int} (d : α) (h0 : 0 ≤ i) (h1 : i < xs.length) : atI xs i = some (xs.getD i.toNat d) := by
 obtain ⟨n, rfl⟩ := Int.eq_ofNat_of_zero_le h0
 have hn : n < xs.length := by omega
 have e : xs[n]? = some (xs.getD n d) := by simp [List.getD, hn]
 exact atI_nat e
theorem getD_map {α β : Type} (f : α → β) (xs : List α) (n : Nat) (d : α) : (xs.map f).getD n (f d) = f (xs.getD n d) := by
 simp [List.getD]
theorem atI_map {α β : Type} {f : α → β} {xs : List α} {i : Int} (d : α) (h0 : 0 ≤ i) (h1 : i < xs.length) : atI (xs.map f) i = some (f (xs.getD i.toNat d)) := by
 rw [atI_ok (f d) h0 (by rw [List.length_map]; exact h1), getD_map]
theorem get_map_of {α β : Type} {f : α → β} {xs : List α} {i : Nat} {y : β} (h : (xs.map f)[i]? = some y) : ∃ x, xs[i]? = some x ∧ y = f x := by
 rw [List.getElem?_map] at h
 cases e : xs[i]? with
 | none => rw [e] at h; cases h
 | some x => rw [e] at h; exact ⟨x, rfl, (Option.some.inj h).symm⟩
theorem pe_globE {X : Cx} {x : Str} {v : V} {pos : Pos} (hg : Gl X x) (hm : ∃ u, X.mg x = some u ∧ RelV v u) (hd : (x == ("__debug__" : Str)) = false := by decide) : PE X (.Name x pos) (tC v) := by
 obtain ⟨u, h1, h2⟩ := hm
 exact pe_glob hg h1 h2 hd
def constV : Expr → Option V
 | .Constant (.int i) _ _ => some (.int i)
 | .Constant (.bool b) _ _ => some (.bl b)
 | .Constant .none _ _ => some .non
 | .Constant (.str x) _ _ => some (.str x)
 | _ => none
def constVs : List Expr → Option (List V)
 | [] => some []
 | e :: r => match constV e, constVs r with | some v, some vs => some (v :: vs) | _, _ => none
def tVals (vs : List V) : TA := fun _ H Q => Q vs H
theorem pe_constV {X : Cx} {e : Expr} {v : V} (h : constV e = some v) : PE X e (tC v) := by
 unfold constV at h
 split at h <;> first
  | (cases h; exact pe_int)
  | (cases h; exact pe_bl)
  | (cases h; exact pe_non)
  | (cases h; exact pe_str)
  | cases h
theorem star_const {e : Expr} {es : List Expr} {env : Env} {v : V} (h : constV e = some v) : starEach (e :: es) env = (false, eval e env) :: starEach es env := by
 unfold constV at h
 split at h <;> first | rfl | cases h
theorem pa_consts {X : Cx} : ∀ {es : List Expr} {vs : List V}, constVs es = some vs → PA X es (tVals vs)
 | [], vs, h => by
  have e : vs = [] := (Option.some.inj h).symm
  subst e
  exact fun pos pins s σ H Q I q => pa_nil pos pins s σ H Q I q
 | e :: r, vs, h => by
  unfold constVs at h
  cases h1 : constV e with
  | none => rw [h1] at h; cases h
  | some v =>
   cases h2 : constVs r with
   | none => rw [h1, h2] at h; cases h
   | some ws =>
    rw [h1, h2] at h
    have e' : v :: ws = vs := Option.some.inj h
    subst e'
    exact fun pos pins s σ H Q I q => pa_cons (pe_constV h1) (pa_consts h2) (star_const h1) pos pins s σ H Q I q
section
variable {X : Cx} {tg : Expr}
def cSlS : V → Option Int → Option Int → Hp → VK → Prop := fun x lo hi H Q => match x with
 | .str z => z.length ≤ sizeLine ∧ Q (.str (Txt.slice z lo hi)) H
 | _ => False
theorem s_str : SlR X cSlS := by
 intro pins s σ H x v vl vu lo hi sl Q I rx hs pl pu h
 cases x with
 | str z =>
  obtain ⟨t, rfl⟩ := rx
  obtain ⟨hz, q⟩ := h
  refine ⟨"str", _, F.slot_str_getitem.lookup, typeIs_str _ _ _, ?_⟩
  have fin : ∀ t' k, EP X pins σ Q (.str (Txt.slice z lo hi) t') { s with toks := k } := fun t' k => ⟨.str (Txt.slice z lo hi), H, I.tok k, ⟨t', rfl⟩, q⟩
  cases pl with
  | none => cases pu with
   | none => exact wpAny_getItem_str_slice (l := none) (u := none) (st := none) hs rfl (post_val_or_str ⟨Nat.le_trans (Txt.slice_le z _ _) hz, fin⟩)
   | int j uj => exact wpAny_getItem_str_slice (l := none) (u := some (j, uj)) (st := none) hs rfl (post_val_or_str ⟨Nat.le_trans (Txt.slice_le z _ _) hz, fin⟩)
  | int i ui => cases pu with
   | none => exact wpAny_getItem_str_slice (l := some (i, ui)) (u := none) (st := none) hs rfl (post_val_or_str ⟨Nat.le_trans (Txt.slice_le z _ _) hz, fin⟩)
   | int j uj => exact wpAny_getItem_str_slice (l := some (i, ui)) (u := some (j, uj)) (st := none) hs rfl (post_val_or_str ⟨Nat.le_trans (Txt.slice_le z _ _) hz, fin⟩)
 | _ => exact False.elim h
variable {te : TE} {g : TG} {tb : TS} {D : Ends} {σ : St} {H : Hp} {k : Nat} {sel : List Nat} {tt : TT} {el : TE} {Q : VK}
def cMul : R2 := fun x y H Q => match x, y with
 | .int i, .int j => CMul i j ∧ Q (.int (i * j)) H
 | .str z, .int n => MulOk z n ∧ Q (.str (Txt.mul z n)) H
 | _, _ => False
theorem o_mul : OpR X (binaryOp .Mult) cMul := by
  intro pins s σ H x y v u Q I rx ry h
  cases x <;> cases y <;> first
    | exact False.elim h
    | exact op_mul pins s σ H _ _ v u Q I rx ry ⟨_, _, rfl, rfl, h.1, h.2⟩
    | (obtain ⟨t, rfl⟩ := rx
       obtain ⟨t', rfl⟩ := ry
       exact SB.mul h.1 fun t'' k => ⟨.str _, H, I.tok k, ⟨t'', rfl⟩, h.2⟩)
end
structure New (H : Hp) (p : Addr) (o : HO) (H' : Hp) : Prop where
 was : H p = none
 eq : H' = upd H p o
section
variable {H H' : Hp} {p : Addr} {o : HO}
theorem New.same (n : New H p o H') : Same H H' := by rw [n.eq]; exact same_upd n.was
theorem New.at_ (n : New H p o H') : H' p = some o := by rw [n.eq]; exact upd_same
theorem New.ne (n : New H p o H') {b : Addr} (h : b ≠ p) : H' b = H b := by rw [n.eq]; exact upd_ne h
theorem New.sq {K : PySem.W.Frag} {xs : List V} (n : New H p (.lst xs) H') : SqL K H' p xs := .of n.at_
theorem new_eq {F : Addr → Hp → Prop} {o : HO} : (∀ p, H p = none → F p (upd H p o)) = ∀ p H', New H p o H' → F p H' :=
 propext ⟨fun h p H' n => by rw [n.eq]; exact h p n.was, fun h p hp => h p _ ⟨hp, rfl⟩⟩
end
section
variable {K : PySem.W.Frag} {t : TA} {σ : St} {H : Hp} {Q : VK} {x : V} {lo hi : Option Int} {vs : List V} {kvs : List (Key × V)}
theorem tLst_n : tLst t σ H Q = t σ H fun xs H1 => xs.length ≤ sizeLine ∧ ∀ p H', New H1 p (.lst xs) H' → Q (.ref p) H' := by
 unfold tLst; congr 1; funext xs H1; rw [new_eq (F := fun p H' => Q (.ref p) H')]
theorem tTup_n : tTup t σ H Q = t σ H fun xs H1 => xs.length ≤ sizeLine ∧ ∀ p H', New H1 p (.tup xs) H' → Q (.ref p) H' := by
 unfold tTup; congr 1; funext xs H1; rw [new_eq (F := fun p H' => Q (.ref p) H')]
theorem tDNewK_n : tDNewK σ H Q = ∀ p H', New H p (.dK []) H' → Q (.ref p) H' := by
 unfold tDNewK; rw [new_eq (F := fun p H' => Q (.ref p) H')]
theorem cSlL_n {p : Addr} : cSlL K (.ref p) lo hi H Q = ∃ xs, SqL K H p xs ∧ ∀ q H', New H q (.lst (cutV xs lo hi)) H' → Q (.ref q) H' := by
 unfold cSlL
 dsimp only
 congr 1; funext xs; rw [new_eq (F := fun p H' => Q (.ref p) H')]
theorem cList_n {p : Addr} : cList K [.ref p] H Q = ∃ ys, (SqL K H p ys ∨ SqT K H p ys) ∧ ∀ l H', New H l (.lst ys) H' → Q (.ref l) H' := by
 unfold cList
 dsimp only
 congr 1; funext xs; rw [new_eq (F := fun p H' => Q (.ref p) H')]
theorem cTuple_n {p : Addr} : cTuple K [.ref p] H Q = ∃ ys, ((SqL K H p ys ∧ ∀ l H', New H l (.tup ys) H' → Q (.ref l) H') ∨ (SqT K H p ys ∧ Q (.ref p) H)) := by
 unfold cTuple
 dsimp only
 congr 1; funext xs; rw [new_eq (F := fun p H' => Q (.ref p) H')]
end
section
variable {K : PySem.W.Frag} {σ : St} {sel : List Nat} {rest : St} {H : Hp} {tt : TT} {te : TE} {Q : VK}
theorem compG_list {a : Addr} {xs : List V} (f : V → V) (hl : SqL K H a xs) (hr : sel.map (fun j => (σ[j]?).join) = rest) (hz : xs.length ≤ sizeLine)
  (he : ∀ x H' (Q' : VK), x ∈ xs → Same H H' → Q' (f x) H' → te (some x :: rest) H' Q') (hQ : ∀ p H', New H p (.lst (xs.map f)) H' → Q (.ref p) H') : CompG (Itl K a) σ 1 sel (gName 0) tTrue te Q H :=
 fun p hp => comp_list f hl hp hr hz he (hQ p _ ⟨hp, rfl⟩)
theorem compG_rng {lo : Int} {n : Nat} (f : Int → V) (hr : sel.map (fun j => (σ[j]?).join) = rest) (hz : n ≤ sizeLine)
  (he : ∀ (i : Nat) H' (Q' : VK), i < n → Same H H' → Q' (f (lo + i)) H' → te (some (.int (lo + i)) :: rest) H' Q') (hQ : ∀ p H', New H p (.lst ((List.range n).map fun i => f (lo + (i : Nat)))) H' → Q (.ref p) H') : CompG (Itr lo n) σ 1 sel (gName 0) tTrue te Q H :=
 fun p hp => comp_rng f hp hr hz he (hQ p _ ⟨hp, rfl⟩)
theorem compG_filter {a : Addr} {xs : List V} (q : V → Bool) (f : V → V) (hl : SqL K H a xs) (hr : sel.map (fun j => (σ[j]?).join) = rest) (hz : xs.length ≤ sizeLine)
  (ht : ∀ x H' (Q' : Bool → Hp → Prop), x ∈ xs → Same H H' → Q' (q x) H' → tt (some x :: rest) H' Q')
  (he : ∀ x H' (Q' : VK), x ∈ xs → q x = true → Same H H' → Q' (f x) H' → te (some x :: rest) H' Q') (hQ : ∀ p H', New H p (.lst ((xs.filter q).map f)) H' → Q (.ref p) H') : CompG (Itl K a) σ 1 sel (gName 0) tt te Q H :=
 fun p hp => comp_filter q f hl hp hr hz ht he (hQ p _ ⟨hp, rfl⟩)
end
def cSlU (K : PySem.W.Frag) : V → Option Int → Option Int → Hp → VK → Prop := fun x lo hi H Q => match x with
 | .ref p => ∃ xs, SqL K H p xs ∧ ∀ q H', New H q (.lst (cutV xs lo hi)) H' → Q (.ref q) H'
 | .str z => z.length ≤ sizeLine ∧ Q (.str (Txt.slice z lo hi)) H
 | _ => False
theorem s_u {X : Cx} : SlR X (cSlU X.K) := by
 intro pins s σ H x v vl vu lo hi sl Q I rx hs pl pu h
 cases x with
 | ref p => exact s_list pins s σ H (.ref p) v vl vu lo hi sl Q I rx hs pl pu (by rw [cSlL_n]; exact h)
 | str z => exact s_str pins s σ H (.str z) v vl vu lo hi sl Q I rx hs pl pu h
 | _ => exact False.elim h
end L2
set_option maxHeartbeats 4000000
namespace DZ
open PySem
section
variable {prog : Program} {w : World} {A : Around} {E : Value → Shared → Prop} {s : Shared}
end
section
variable {M : Model} {A : Around} {E : Value → Shared → Prop} {s : Shared}
end
structure ZSt (z TI TO i1 i2 t l : Addr) (xs ys : Array Value) (i : Nat) (h : Heap) : Prop where
 zo : ∃ f0 f1, h.get? z = some { cls := .type "zip", dict := none, data := .fields #[f0, .bool f1, .bool false, .ref TI, .ref TO], slots := #[] } ∧
  (f0 = .none ∨ ∃ (T : Addr) (o : Obj), f0 = rawInt T ∧ h.get? T = some o ∧ T ≠ z ∧ T ≠ TO ∧ T ≠ i1 ∧ T ≠ i2)
 ti : IsPair h TI (.ref i1) (.ref i2)
 to : ∃ a b, IsPair h TO a b
 a1 : h.IsTupleIter i1 t i
 a2 : h.IsListIter i2 l i
 l1 : h.IsTuple t xs
 l2 : h.IsList l ys
section
variable {prog : Program} {w : World} {A : Around} {E : Value → Shared → Prop} {s : Shared}
end
end DZ
set_option maxHeartbeats 4000000
namespace DZ
open PySem
section
variable {prog : Program} {w : World} {A : Around} {E : Value → Shared → Prop} {h : Heap} {g : Array GenState} {d : Drawn} {t : Nat} {os : OsState} {z : Addr} {vs : Array Value}
end
theorem mro_dict : mroOf (.type "dict") = pure [.type "dict", .type "object"] := by rw [mroOf_type]; kernel_rfl
theorem lk_dict_new : typeLookup (.type "dict") "__new__" = pure (some (.builtin "dict.__new__")) := by rw [typeLookup_type, builtinLookup_eq_fast]; kernel_rfl
theorem called_dict : TypeCalled "dict" "dict.__new__" "dict.__init__" :=
 ⟨by decide +kernel, by decide +kernel, ⟨_, _, mro_dict⟩, madeBy_type mro_dict lk_dict_new (by decide +kernel), by decide +kernel, by rw [isSubtype_type]; kernel_rfl, F.slot_dict_init⟩
theorem typeCall_dict_1 (a : Value) : checkTypeCall "dict" ⟨[a], []⟩ = pure () := by kernel_rfl
theorem newCall_dict_1 (a : Value) : checkBuiltinCall "dict.__new__" ⟨[.type "dict", a], []⟩ = pure () := by kernel_rfl
theorem entry_dict_new : entryFor table "dict.__new__" = some Builtin.«dict.__new__» := entryFor_of_tree (by kernel_rfl)
theorem entry_dict_loop : entryFor table "dict.update.loop" = some Builtin.«dict.update.loop» := entryFor_of_tree (by kernel_rfl)
theorem plain_dict_new : plainId "dict.__new__" = true := by decide +kernel
theorem plain_dict_loop : plainId "dict.update.loop" = true := by decide +kernel
theorem sub_dict_self : isSubtype (.type "dict") (.type "dict") = pure true := by rw [isSubtype_type]; kernel_rfl
section
variable {prog : Program} {w : World} {A : Around} {E : Value → Shared → Prop} {s : Shared}
theorem dict_new (a : Value) {Q : Value → Shared → Prop} (h : Q (.ref s.heap.objs.size) { s with heap := s.heap.push { cls := .type "dict", data := .dict #[] } }) :
  codeAny (model prog w) A (.call (.builtin "dict.__new__") ⟨[.type "dict", a], []⟩) (wants Q E) s := by
 refine codeAny_of_tree ?_
 show wpAny _ A.in1 (do checkBuiltinCall "dict.__new__" ⟨[.type "dict", a], []⟩; again (.builtin "dict.__new__" ⟨[.type "dict", a], []⟩)) _ _ s
 refine wpAny_bind (wpAny_of_eq (newCall_dict_1 a) (wpAny_pure ⟨plainId_quiet plain_dict_new _, codeAny_builtin entry_dict_new ?_⟩))
 rw [Around.under_plainId plain_dict_new _]
 have hsub := sub_dict_self
 have hm := mro_dict
 obtain ⟨hp, g, d, tk, os⟩ := s
 wp_walk
 exact h
end
end DZ
set_option maxHeartbeats 4000000
namespace DZ
open PySem
section
variable {prog : Program} {w : World} {A : Around} {E : Value → Shared → Prop} {s : Shared}
theorem len_stored {κ : Type} [DecidableEq κ] (kvs : List (κ × Value)) (k : κ) (v : Value) : (stored kvs k v).length ≤ kvs.length + 1 := by
 unfold stored
 split
 ·rw [List.length_map]; exact Nat.le_succ _
 ·rw [List.length_append]; exact Nat.le_refl _
variable {κ : Type} [DecidableEq κ] {knd : KeyKind prog w κ}
end
end DZ
set_option maxHeartbeats 4000000
namespace L2
open PySem PySem.Spec PyProof.Rows
section
variable {X : Cx} {pins : List (Addr × Obj)} {σ : St} {H : Hp} {s : Shared} {h' : Heap}
theorem Inv.dz {t' : Nat} {ch : List Addr} {d : Addr} {ob : HO} (I : Inv X pins σ H s) (hch : ∀ b ∈ ch, FpOk X pins H b) (hd : s.heap.objs.size ≤ d) (k : ∀ b o, b ∉ ch → s.heap.get? b = some o → h'.get? b = some o)
  (new : ObjOk X.prog X.w (upd H d ob) h' d ob) : Inv X pins σ (upd H d ob) { s with heap := h', toks := t' } := by
 have hn : H d = none := I.hok.fresh hd
 have old : ∀ {b o}, s.heap.get? b = some o → b ≠ d := fun e => Nat.ne_of_lt (Nat.lt_of_lt_of_le (Heap.lt_size e) hd)
 have nch : ∀ b u, H b = some u → b ∉ ch := fun b u e z => by rw [(hch b z).1] at e; cases e
 refine I.step (g' := s.gens) (d' := s.drawn) (ch := ch) (fun b hb => ?_) (fun b o _ _ hc e _ => k b o hc e) (fun b o _ _ hc e _ => ⟨o.slots, k b o hc e⟩) (fun b o _ e n => by rw [upd_ne (old e)]; exact n)
  (fun b o hc e => ⟨o, k b o hc e⟩) (fun b xs e => by rw [upd_ne (ne_of_none e hn)]; exact e) (fun b o u e => by rw [upd_ne (ne_of_none e hn)]; exact e) (fun b ps e => ⟨#[], by rw [upd_ne (ne_of_none e hn), e]; simp⟩) (fun m hm => ?_) (fun b u e => ?_) I.bare
 ·obtain ⟨f0, f1, f2, f3, f4, f5⟩ := hch b hb
  exact ⟨f3, f1, f4, f5⟩
 ·obtain ⟨o, es, ep, ho, r⟩ := hm
  exact ⟨o, es, ep, k _ o (fun z => (hch _ z).2.1 rfl) ho, r⟩
 ·by_cases hb : b = d
  ·subst hb
   rw [upd_same] at e
   cases e
   exact new
  ·rw [upd_ne hb] at e
   refine (I.hok b u e).stay (fun c v hc q => k c v ?_ q) (fun c q => by rw [upd_ne (ne_of_none q hn)]; exact q) fun c xs q => by rw [upd_ne (ne_of_none q hn)]; exact q
   rcases hc with z | z
   ·rw [z]; exact nch b u e
   ·exact nch c _ z
end
end L2
namespace NM
def okc (c : Nat) : Prop := 97 ≤ c ∧ c ≤ 122
structure Nm (w : List Nat) : Prop where
 pos : 1 ≤ w.length
 le : w.length ≤ 8
 ok : ∀ c ∈ w, okc c
def nx (p : List Nat) (c k : Nat) : List Nat := p ++ (c + 1) :: List.replicate k 97
inductive Nx : List Nat → List Nat → Prop where
 | at (p : List Nat) (c k : Nat) : c ≠ 122 → Nx (p ++ c :: List.replicate k 122) (nx p c k)
 | all (n : Nat) : Nx (List.replicate n 122) (List.replicate (n % 8 + 1) 97)
inductive Nxs : Nat → List Nat → List Nat → Prop where
 | zero (w : List Nat) : Nxs 0 w w
 | succ {k : Nat} {u v w : List Nat} : Nx u v → Nxs k v w → Nxs (k + 1) u w
end NM
namespace ME
section
variable {κ : Type} [DecidableEq κ] {α β : Type}
def vS (e : List (κ × α)) (k : κ) : Option α := (e.find? fun p => decide (p.1 = k)).map (·.2)
def pS (e : List (κ × α)) (k : κ) (v : α) : List (κ × α) :=
 if (e.any fun p => decide (p.1 = k)) = true then e.map (fun p => if p.1 = k then (p.1, v) else p) else e ++ [(k, v)]
theorem vS_pos {p : κ × α} {r : List (κ × α)} {k : κ} (e : p.1 = k) : vS (p :: r) k = some p.2 := by simp [vS, List.find?_cons, e]
theorem vS_neg {p : κ × α} {r : List (κ × α)} {k : κ} (e : ¬ p.1 = k) : vS (p :: r) k = vS r k := by simp [vS, List.find?_cons, e]
theorem vS_any (k : κ) : ∀ e : List (κ × α), (e.any fun p => decide (p.1 = k)) = (vS e k).isSome
 | [] => rfl
 | p :: r => by
  rw [List.any_cons]
  by_cases e : p.1 = k
  ·rw [vS_pos e]; simp [e]
  ·rw [vS_neg e, decide_eq_false e, Bool.false_or, vS_any k r]
theorem vS_set (k j : κ) (y : α) : ∀ e : List (κ × α), vS (e.map fun p => if p.1 = k then (p.1, y) else p) j = (vS e j).map fun x => if j = k then y else x
 | [] => rfl
 | p :: r => by
  have ih := vS_set k j y r
  rw [List.map_cons]
  by_cases h : p.1 = k
  ·rw [if_pos h]
   by_cases e : p.1 = j
   ·rw [vS_pos (p := (p.1, y)) e, vS_pos e]; simp [e.symm.trans h]
   ·rw [vS_neg (p := (p.1, y)) e, vS_neg e, ih]
  ·rw [if_neg h]
   by_cases e : p.1 = j
   ·rw [vS_pos e, vS_pos e]; simp [show ¬ j = k from fun z => h (e.trans z)]
   ·rw [vS_neg e, vS_neg e, ih]
theorem vS_end (k j : κ) (y : α) : ∀ e : List (κ × α), vS e k = none → vS (e ++ [(k, y)]) j = if j = k then some y else vS e j
 | [], _ => by
  by_cases e : k = j
  ·rw [if_pos e.symm]; exact vS_pos (p := (k, y)) e
  ·rw [if_neg (fun z => e z.symm)]; exact vS_neg (p := (k, y)) e
 | p :: r, hn => by
  rw [List.cons_append]
  have hk : ¬ p.1 = k := fun z => by rw [vS_pos z] at hn; cases hn
  rw [vS_neg hk] at hn
  have ih := vS_end k j y r hn
  by_cases e : p.1 = j
  ·rw [vS_pos e, vS_pos e, if_neg (fun z => hk (e.trans z))]
  ·rw [vS_neg e, vS_neg e, ih]
theorem vS_pS (e : List (κ × α)) (k j : κ) (y : α) : vS (pS e k y) j = if j = k then some y else vS e j := by
 unfold pS
 cases a : (e.any fun p => decide (p.1 = k))
 ·rw [if_neg (by simp)]
  refine vS_end k j y e ?_
  rw [vS_any] at a
  cases q : vS e k with
  | none => rfl
  | some x => rw [q] at a; cases a
 ·rw [if_pos rfl, vS_set]
  rw [vS_any] at a
  by_cases h : j = k
  ·obtain ⟨x, hx⟩ := Option.isSome_iff_exists.mp a
   rw [if_pos h, h, hx]; simp
  ·rw [if_neg h]
   cases vS e j with
   | none => rfl
   | some x => simp [h]
def m2 (f : α → β) (e : List (κ × α)) : List (κ × β) := e.map fun p => (p.1, f p.2)
theorem pS_len (e : List (κ × α)) (k : κ) (v : α) : (pS e k v).length ≤ e.length + 1 := by
 unfold pS
 split
 ·rw [List.length_map]; omega
 ·simp
abbrev Gt (κ : Type) := κ × κ × List κ
def outsOf (d : α) (e : List (κ × α)) (os : List κ) : List α := os.map fun o => (vS e o).getD d
def WG (A : κ → Nat → Prop) (known : List κ) : List (Gt κ) → Prop
 | [] => True
 | g :: r => (∀ p ∈ g.2.2, p ∈ known) ∧ A g.2.1 g.2.2.length ∧ g.2.2.length ≤ 6 ∧ WG A (known ++ [g.1]) r
def Kn (e : List (κ × α)) (known : List κ) : Prop := ∀ n ∈ known, ∃ v, vS e n = some v
theorem Kn.put {e : List (κ × α)} {known : List κ} (h : Kn e known) (k : κ) (v : α) : Kn (pS e k v) (known ++ [k]) := fun n hn => by
 rw [vS_pS]
 by_cases e1 : n = k
 ·rw [if_pos e1]; exact ⟨v, rfl⟩
 ·rw [if_neg e1]
  rcases List.mem_append.mp hn with q | q
  ·exact h n q
  ·exact absurd (List.mem_singleton.mp q) e1
theorem WG_snoc {A : κ → Nat → Prop} (g : Gt κ) : ∀ (gs : List (Gt κ)) (known : List κ), WG A known gs → (∀ p ∈ g.2.2, p ∈ known ++ gs.map (·.1)) → A g.2.1 g.2.2.length → g.2.2.length ≤ 6 → WG A known (gs ++ [g])
 | [], known, _, h1, h2, h3 => ⟨by simpa using h1, h2, h3, True.intro⟩
 | x :: gs, known, ⟨a, b, c, d⟩, h1, h2, h3 => ⟨a, b, c, WG_snoc g gs _ d (by simpa using h1) h2 h3⟩
theorem WG.at {A : κ → Nat → Prop} : ∀ {gs : List (Gt κ)} {known : List κ} {i : Nat} {g : Gt κ}, WG A known gs → gs[i]? = some g →
  (∀ p ∈ g.2.2, p ∈ known ++ (gs.take i).map (·.1)) ∧ A g.2.1 g.2.2.length ∧ g.2.2.length ≤ 6
 | [], _, _, _, _, h => by simp at h
 | x :: gs, known, 0, g, ⟨a, b, c, d⟩, h => by
  simp at h; subst h
  exact ⟨by simpa using a, b, c⟩
 | x :: gs, known, i + 1, g, ⟨a, b, c, d⟩, h => by
  have := WG.at (i := i) (g := g) d (by simpa using h)
  simpa using this
theorem fold_kn : ∀ (ps : List (κ × α)) (e : List (κ × α)) (known : List κ), Kn e known → Kn (ps.foldl (fun e p => pS e p.1 p.2) e) (known ++ ps.map (·.1))
 | [], e, known, h => by simpa using h
 | p :: ps, e, known, h => by
  have := fold_kn ps (pS e p.1 p.2) (known ++ [p.1]) (h.put _ _)
  simpa using this
end
end ME
namespace MC
def inC : Nat → List Nat × Nat × Nat
 | 0 => ([], 1, 1)
 | n + 1 => ((inC n).1.map (fun c => c ||| (c * 2 ^ (inC n).2.2)) ++ [(inC n).2.1 * 2 ^ (inC n).2.2], (inC n).2.1 ||| ((inC n).2.1 * 2 ^ (inC n).2.2), (inC n).2.2 * 2)
theorem tb_mul (c w j : Nat) : (c * 2 ^ w).testBit j = (decide (w ≤ j) && c.testBit (j - w)) := by
 rw [← Nat.shiftLeft_eq, Nat.testBit_shiftLeft]
theorem inC_w : ∀ n, (inC n).2.2 = 2 ^ n
 | 0 => rfl
 | n + 1 => by show (inC n).2.2 * 2 = _; rw [inC_w n, Nat.pow_succ]
theorem tb_lt {c w j : Nat} (h : c < 2 ^ w) (hj : w ≤ j) : c.testBit j = false := Nat.testBit_lt_two_pow (Nat.lt_of_lt_of_le h (Nat.pow_le_pow_right (by decide) hj))
theorem inC_e : ∀ n, (inC n).2.1 = 2 ^ (2 ^ n) - 1
 | 0 => rfl
 | n + 1 => by
  show (inC n).2.1 ||| ((inC n).2.1 * 2 ^ (inC n).2.2) = _
  rw [inC_e n, inC_w n]
  apply Nat.eq_of_testBit_eq
  intro j
  rw [Nat.testBit_or, tb_mul, Nat.testBit_two_pow_sub_one, Nat.testBit_two_pow_sub_one, Nat.testBit_two_pow_sub_one, Nat.pow_succ]
  by_cases h1 : j < 2 ^ n
  ·simp [h1]; omega
  ·by_cases h2 : j < 2 ^ n * 2
   ·simp [h1, h2]; omega
   ·simp [h1, h2]; omega
theorem inC_len : ∀ n, (inC n).1.length = n
 | 0 => rfl
 | n + 1 => by show (_ ++ [_]).length = _; simp [inC_len n]
theorem inC_lt : ∀ n, ∀ c ∈ (inC n).1, c < 2 ^ (2 ^ n)
 | 0, c, h => by simp [inC] at h
 | n + 1, c, h => by
  have h' : c ∈ (inC n).1.map (fun c => c ||| (c * 2 ^ (inC n).2.2)) ++ [(inC n).2.1 * 2 ^ (inC n).2.2] := h
  rw [inC_w, inC_e] at h'
  have e2 : 2 ^ (2 ^ (n + 1)) = 2 ^ (2 ^ n) * 2 ^ (2 ^ n) := by rw [← Nat.pow_add, Nat.pow_succ]; congr 1; omega
  have hp : 0 < 2 ^ (2 ^ n) := Nat.pow_pos (by decide)
  have up : ∀ d, d < 2 ^ (2 ^ n) → d * 2 ^ (2 ^ n) < 2 ^ (2 ^ (n + 1)) := fun d hd => by rw [e2]; exact Nat.mul_lt_mul_of_pos_right hd hp
  rcases List.mem_append.mp h' with q | q
  ·obtain ⟨d, hd, rfl⟩ := List.mem_map.mp q
   have := inC_lt n d hd
   refine Nat.or_lt_two_pow (Nat.lt_of_lt_of_le this (Nat.pow_le_pow_right (by decide) (Nat.pow_le_pow_right (by decide) (Nat.le_succ _)))) (up d this)
  ·rw [List.mem_singleton.mp q]
   exact up _ (by omega)
theorem low_bit {n i j : Nat} (h1 : 2 ^ n ≤ j) (h2 : j < 2 ^ (n + 1)) (hi : i < n) : (j - 2 ^ n).testBit i = j.testBit i := by
 have e : j = 2 ^ n + (j - 2 ^ n) := by omega
 have h3 : j - 2 ^ n < 2 ^ n := by rw [Nat.pow_succ] at h2; omega
 have := Nat.testBit_two_pow_add_gt (i := n) (j := i) hi (j - 2 ^ n)
 rw [← e] at this
 exact this.symm
theorem top_bit {n j : Nat} (h2 : j < 2 ^ (n + 1)) : j.testBit n = decide (2 ^ n ≤ j) := by
 by_cases h : 2 ^ n ≤ j
 ·rw [decide_eq_true h]
  have e : j = 2 ^ n + (j - 2 ^ n) := by omega
  have h3 : j - 2 ^ n < 2 ^ n := by rw [Nat.pow_succ] at h2; omega
  have := Nat.testBit_two_pow_add_eq (j - 2 ^ n) n
  rw [← e] at this
  rw [this, Nat.testBit_lt_two_pow h3]; rfl
 ·rw [decide_eq_false h]
  exact Nat.testBit_lt_two_pow (by omega)
theorem inC_bit : ∀ (n i j : Nat), i < n → j < 2 ^ n → ((inC n).1.getD i 0).testBit j = j.testBit i
 | 0, i, j, h, _ => absurd h (by omega)
 | n + 1, i, j, hi, hj => by
  have hg : (inC (n + 1)).1 = (inC n).1.map (fun c => c ||| (c * 2 ^ (2 ^ n))) ++ [(2 ^ (2 ^ n) - 1) * 2 ^ (2 ^ n)] := by
   show (inC n).1.map (fun c => c ||| (c * 2 ^ (inC n).2.2)) ++ [(inC n).2.1 * 2 ^ (inC n).2.2] = _
   rw [inC_w, inC_e]
  have hl := inC_len n
  rw [hg]
  by_cases h : i < n
  ·have e : ((inC n).1.map (fun c => c ||| (c * 2 ^ (2 ^ n))) ++ [(2 ^ (2 ^ n) - 1) * 2 ^ (2 ^ n)]).getD i 0 = ((inC n).1.getD i 0) ||| (((inC n).1.getD i 0) * 2 ^ (2 ^ n)) := by
    simp [List.getD, List.getElem?_append, hl, h]
   have hc : (inC n).1.getD i 0 < 2 ^ (2 ^ n) := by
    have hm : (inC n).1.getD i 0 ∈ (inC n).1 := by
     have : i < (inC n).1.length := by omega
     simp [List.getD, this]
    exact inC_lt n _ hm
   rw [e, Nat.testBit_or, tb_mul]
   by_cases hj2 : j < 2 ^ n
   ·rw [inC_bit n i j h hj2, decide_eq_false (by omega)]; simp
   ·rw [tb_lt hc (by omega), decide_eq_true (by omega), inC_bit n i (j - 2 ^ n) h (by rw [Nat.pow_succ] at hj; omega), low_bit (by omega) hj h]; simp
  ·have hin : i = n := by omega
   subst hin
   have e : ((inC i).1.map (fun c => c ||| (c * 2 ^ (2 ^ i))) ++ [(2 ^ (2 ^ i) - 1) * 2 ^ (2 ^ i)]).getD i 0 = (2 ^ (2 ^ i) - 1) * 2 ^ (2 ^ i) := by
    simp [List.getD, List.getElem?_append, hl]
   rw [e, tb_mul, Nat.testBit_two_pow_sub_one, top_bit hj]
   have : j - 2 ^ i < 2 ^ i := by
    rw [Nat.pow_succ] at hj
    have : 0 < 2 ^ i := Nat.pow_pos (by decide)
    omega
   simp [this]
theorem xor_and : ∀ (n a b : Nat), a < n → (a ^^^ b) + (a &&& b) = a ||| b
 | 0, _, _, h => absurd h (by omega)
 | n + 1, a, b, h => by
  by_cases ha : a = 0
  ·subst ha; simp
  have ih := xor_and n (a / 2) (b / 2) (by omega)
  rw [← Nat.xor_div_two, ← Nat.and_div_two, ← Nat.or_div_two] at ih
  have e1 := Nat.div_add_mod (a ^^^ b) 2
  have e2 := Nat.div_add_mod (a &&& b) 2
  have e3 := Nat.div_add_mod (a ||| b) 2
  have t : ∀ x : Nat, x % 2 = (x.testBit 0).toNat := fun x => by
   rw [Nat.testBit_zero]
   rcases Nat.mod_two_eq_zero_or_one x with q | q <;> simp [q]
  have m1 := t (a ^^^ b)
  have m2 := t (a &&& b)
  have m3 := t (a ||| b)
  rw [Nat.testBit_xor] at m1
  rw [Nat.testBit_and] at m2
  rw [Nat.testBit_or] at m3
  have : (a ^^^ b) % 2 + (a &&& b) % 2 = (a ||| b) % 2 := by
   rw [m1, m2, m3]
   cases a.testBit 0 <;> cases b.testBit 0 <;> rfl
  omega
end MC
namespace GM
open PySem
end GM
set_option maxHeartbeats 4000000
namespace L2
open PySem PySem.Spec PyProof.Rows
def tMid (t u : TS) : TS := tSeq t u
theorem mid {t u : TS} {D : Ends} {σ : St} {H : Hp} (M : St → Hp → Prop) (h1 : ∀ N : St → Hp → Prop, (∀ σ' H', M σ' H' → N σ' H') → t { D with nx := N } σ H) (h2 : ∀ σ' H', M σ' H' → u D σ' H') : tMid t u D σ H := h1 _ h2
theorem pss_mid {X : Cx} {st : Stmt} {rest : List Stmt} {t u : TS} (h : PS X st t) (hr : PSs X rest u) : PSs X (st :: rest) (tMid t u) := pss_cons h hr
theorem mtr {X : Cx} {id : String} {r : V → List V → Hp → VK → Prop} (h : MtM X id r) : MtR X id r := h
theorem comp_gen {J : It} {σ : St} {k : Nat} {sel : List Nat} {g : TG} {tt : TT} {te : TE} {Q : VK} {H : Hp} {p : Addr} {n : Nat} {item : Nat → V} (Sv : St → Prop) (Pv : Nat → Hp → Prop)
  (hS : Sv (cst σ k sel)) (h0 : Pv 0 (upd H p (.lst [])))
  (src : ∀ i H2, i < n → Pv i H2 → J.go i H2 ∧ ∀ x H3, J.yld i H2 x H3 → H3 = H2 ∧ x = item i) (fin : ∀ H2, Pv n H2 → J.stop n H2)
  (step : ∀ i σ2 H2 (R : St → Hp → Prop), i < n → Sv σ2 → Pv i H2 → (∀ σ' H', Sv σ' → Pv (i + 1) H' → R σ' H') → g (item i) σ2 H2 fun σ4 H4 => tt σ4 H4 fun b H5 =>
   if b = true then te σ4 H5 fun v H6 => ∃ ys, H6 p = some (.lst ys) ∧ ys.length < sizeLine ∧ R σ4 (upd H6 p (.lst (ys ++ [v]))) else R σ4 H5)
  (hQ : ∀ H2, Pv n H2 → Q (.ref p) H2) : CompGoal J σ k sel g tt te Q H p := by
 refine ⟨fun i m σ2 H2 => i ≤ n ∧ m = n - i + 1 ∧ Sv σ2 ∧ Pv i H2, ⟨n + 1, Nat.zero_le _, rfl, hS, h0⟩, ?_⟩
 rintro i m σ2 H2 ⟨hi, rfl, hs, hP⟩
 by_cases hlt : i < n
 ·right
  obtain ⟨hg, hy⟩ := src i H2 hlt hP
  refine ⟨hg, fun x H3 hx => ?_⟩
  obtain ⟨rfl, rfl⟩ := hy x H3 hx
  exact step i σ2 H3 (fun σ' H' => ∃ m', m' < n - i + 1 ∧ i + 1 ≤ n ∧ m' = n - (i + 1) + 1 ∧ Sv σ' ∧ Pv (i + 1) H') hlt hs hP fun σ' H' s' h' => ⟨n - (i + 1) + 1, by omega, hlt, rfl, s', h'⟩
 ·left
  have e : i = n := by omega
  subst e
  exact ⟨fin H2 hP, hQ H2 hP⟩
theorem compG_tup {K : PySem.W.Frag} {σ : St} {sel : List Nat} {rest : St} {H : Hp} {te : TE} {Q : VK} {a : Addr} {xs : List V} (f : V → V) (hl : SqT K H a xs) (hr : sel.map (fun j => (σ[j]?).join) = rest) (hz : xs.length ≤ sizeLine)
  (he : ∀ x H' (Q' : VK), x ∈ xs → Same H H' → Q' (f x) H' → te (some x :: rest) H' Q') (hQ : ∀ p H', New H p (.lst (xs.map f)) H' → Q (.ref p) H') : CompG (Itt K a) σ 1 sel (gName 0) tTrue te Q H := by
 intro p hp
 have sT : ∀ {o : HO}, SqT K (upd H p o) a xs := fun {o} => by
  rcases hl with (h | ⟨u, h⟩) | h
  ·exact .inl (.inl (same_upd hp _ _ h))
  ·exact .inl (.inr ⟨u, same_upd hp _ _ h⟩)
  ·exact .inr h
 refine comp_inv (n := xs.length) (item := fun i => xs.getD i .non) (fun i H2 => H2 = upd H p (.lst ((xs.take i).map f))) hr (by simp) (src_tup ?_) ?_ ?_ ?_
 ·rintro i H2 hi rfl
  exact sT
 ·rintro H2 rfl
  exact ⟨xs, sT, Nat.le_refl _⟩
 ·rintro i H2 R hi rfl hR
  unfold tTrue
  dsimp only
  rw [if_pos rfl]
  refine he _ _ _ (by rw [show xs.getD i .non = xs[i] from by simp [List.getD, hi]]; exact List.getElem_mem _) (same_upd hp) ⟨_, upd_same, ?_, hR _ ?_⟩
  ·rw [List.length_map, List.length_take]; omega
  ·rw [upd_upd, take_map_snoc hi]
 ·rintro H2 rfl
  rw [List.take_length]
  exact hQ p _ ⟨hp, rfl⟩
def SameN (H H' : Hp) : Prop := ∀ b o, H b = some o → (∀ xs, o ≠ .lst xs) → H' b = some o
section
variable {K : PySem.W.Frag} {H H' H0 H1 : Hp} {l a : Addr} {xs ys : List V} {o : HO}
theorem Same.n (s : Same H H') : SameN H H' := fun b o e _ => s b o e
theorem SameN.clear (h : H l = some (.lst xs)) : SameN H (upd H l (.lst ys)) := fun b o e n => by rw [upd_ne (ne_of e h (n xs))]; exact e
theorem Same.put (s : Same H0 H) (h : H0 l = none) : Same H0 (upd H l o) := fun b u e => by rw [upd_ne (ne_of_none e h)]; exact s b u e
theorem Same.tup (e : Same H H') (h : SqT K H a xs) : SqT K H' a xs := by
 rcases h with (h | ⟨o, h⟩) | h
 ·exact .inl (.inl (e _ _ h))
 ·exact .inl (.inr ⟨o, e _ _ h⟩)
 ·exact .inr h
def Keep (N : Addr → Prop) (H H' : Hp) : Prop := ∀ b o, N b → H b = some o → H' b = some o
theorem Same.keep {N : Addr → Prop} (s : Same H H') : Keep N H H' := fun b o _ e => s b o e
theorem Keep.seq {N : Addr → Prop} (e : Keep N H H') (n : N a) (h : SqL K H a xs) : SqL K H' a xs := by
 rcases h with (h | ⟨o, h⟩) | h
 ·exact .inl (.inl (e _ _ n h))
 ·exact .inl (.inr ⟨o, e _ _ n h⟩)
 ·exact .inr h
theorem Keep.tup {N : Addr → Prop} (e : Keep N H H') (n : N a) (h : SqT K H a xs) : SqT K H' a xs := by
 rcases h with (h | ⟨o, h⟩) | h
 ·exact .inl (.inl (e _ _ n h))
 ·exact .inl (.inr ⟨o, e _ _ n h⟩)
 ·exact .inr h
theorem New.free (n : New H a o H') : H a = none := n.was
end
theorem cps_app (a b : Str) : (a ++ b).cps.toList = a.cps.toList ++ b.cps.toList := by
 show (a.cps ++ b.cps).toList = _
 simp
theorem fold_rep (c : Nat) : ∀ (k : Nat) (acc : Array Nat), ((List.replicate k (#[c] : Array Nat)).foldl (· ++ ·) acc).toList = acc.toList ++ List.replicate k c
 | 0, acc => by simp
 | k + 1, acc => by
  rw [List.replicate_succ, List.foldl_cons, fold_rep c k, List.replicate_succ]
  simp
section
variable {K : PySem.W.Frag} {H : Hp} {p : Addr} {i : Int} {F : V → Prop}
theorem ixI {cs : List Int} (hS : SqL K H p (cs.map V.int)) (h0 : 0 ≤ i) (h1 : i < cs.length) (h : F (.int (cs.getD i.toNat 0))) : ∃ xs v, (SqL K H p xs ∨ SqT K H p xs) ∧ atI xs i = some v ∧ F v := ⟨_, _, .inl hS, atI_map 0 h0 h1, h⟩
end
def mE {α : Type} (f : α → V) (e : List (Str × α)) : List (Key × V) := e.map fun p => (Sum.inr p.1, f p.2)
theorem valV_mE {α : Type} (f : α → V) (n : Str) : ∀ e : List (Str × α), valV (mE f e) (Sum.inr n) = (ME.vS e n).map f
 | [] => rfl
 | p :: r => by
  have ih := valV_mE f n r
  show valV ((Sum.inr p.1, f p.2) :: mE f r) (Sum.inr n) = _
  by_cases h : p.1 = n
  ·rw [valV_pos (p := (Sum.inr p.1, f p.2)) (congrArg Sum.inr h), ME.vS_pos h]; rfl
  ·rw [valV_neg (p := (Sum.inr p.1, f p.2)) (fun z => h (Sum.inr.inj z)), ME.vS_neg h, ih]
theorem putK_mE {α : Type} (f : α → V) (e : List (Str × α)) (n : Str) (v : α) : putK (mE f e) (Sum.inr n) (f v) = mE f (ME.pS e n v) := by
 unfold putK ME.pS
 rw [valV_any, valV_mE, ME.vS_any]
 have hs : ((ME.vS e n).map f).isSome = (ME.vS e n).isSome := by cases ME.vS e n <;> rfl
 rw [hs]
 split
 ·unfold mE
  rw [List.map_map, List.map_map]
  refine List.map_congr_left fun p _ => ?_
  simp only [Function.comp, Sum.inr.injEq]
  split <;> rfl
 ·simp [mE]
def cListRange (t : TA) : TE := fun σ H Q => t σ H fun vs H1 => cInt1 vs fun j => -(2 ^ 62) ≤ j ∧ j < 2 ^ 62 ∧ j.toNat ≤ 2 ^ 24 ∧ j.toNat ≤ sizeLine ∧ ∀ p H', New H1 p (.lst ((List.range j.toNat).map fun i => V.int (i : Nat))) H' → Q (.ref p) H'
theorem vals_items : ∀ (n : Nat) (us : List Value) (f : Nat → V) (m : Nat), us.length = n → (∀ (i : Nat) u, us[i]? = some u → RelV (f (m + i)) u) → Vals ((List.range n).map fun i => f (m + i)) us
 | 0, [], f, m, _, _ => .nil
 | n + 1, u :: us, f, m, hl, h => by
  rw [List.range_succ_eq_map, List.map_cons, List.map_map]
  have h0 := h 0 u rfl
  refine .cons h0 ?_
  have ih := vals_items n us f (m + 1) (by simpa using hl) fun i u' hu => by
   have := h (i + 1) u' (by simpa using hu)
   rw [show m + (i + 1) = m + 1 + i by omega] at this
   exact this
  have e : (List.range n).map ((fun i => f (m + i)) ∘ Nat.succ) = (List.range n).map fun i => f (m + 1 + i) := by
   refine List.map_congr_left fun i _ => ?_
   show f (m + (i + 1)) = f (m + 1 + i)
   rw [show m + (i + 1) = m + 1 + i by omega]
  rw [e]
  exact ih
theorem e_listrange {X : Cx} {ea : Expr} {t : TA} {p1 p2 p3 p4 : Pos} (hc : X.calm = true) (hg1 : Gl X "list") (hg2 : Gl X "range") (hm1 : X.mg "list" = none) (hm2 : X.mg "range" = none) (ha : PA X [ea] t)
  (he : starEach [ea] X.env = (false, eval ea X.env) :: starEach [] X.env := by rfl) (hpl : (backTo p3 (starEach [] X.env)).any (·.1) = false := by rfl)
  (he2 : starEach [Expr.Call (.Name "range" p2) [ea] [] p3] X.env = (false, eval (Expr.Call (.Name "range" p2) [ea] [] p3) X.env) :: starEach [] X.env := by rfl) (hpl2 : (backTo p4 (starEach [] X.env)).any (·.1) = false := by rfl) :
  PE X (.Call (.Name "list" p1) [.Call (.Name "range" p2) [ea] [] p3] [] p4) (cListRange t) := by
 intro pins s σ H Q I h
 refine wpAny_Call_Name_kw (ld_blt I hg1 hm1 PyProof.Rows.boot_list ?_ (by decide) (by decide))
 refine PyProof.Rows.callWith_type1 ?_ he2 hpl2
 rw [he2]
 show wpAny _ _ (spliced ((false, eval (Expr.Call (.Name "range" p2) [ea] [] p3) X.env) :: backTo p4 (starEach [] X.env))) _ _ s
 refine Calls.spliced_cons ?_
 refine wpAny_Call_Name_kw (ld_blt I hg2 hm2 boot_range ?_ (by decide) (by decide))
 refine PyProof.Rows.callWith_type1 (thn (ha p3 pins s σ H _ I h) fun us s1 ⟨vs, H1, I1, r1, q1⟩ => ?_) he hpl
 match vs, q1 with
 | [.int j], q1 =>
  obtain ⟨b1, b2, b3, b4, q⟩ := q1
  obtain ⟨u1, rfl, e1⟩ := vals1 r1
  obtain ⟨tk, rfl⟩ := e1
  refine call_range_1 (Calls.spliced_nil ?_)
  have I2 : Inv X pins σ H1 { s1 with heap := s1.heap.push { cls := .type "range", data := .fields #[.int 0 s1.toks, .int j tk, .int 1 (s1.toks + 1)] }, toks := s1.toks + 1 + 1 } := I1.kept fun b o e => Heap.get?_push_of_some _ e
  have hsz : Builtin.Range.rangeSize 0 j 1 = (j.toNat : Int) := by rw [rangeSize_one]; split <;> omega
  refine call_list_range (I.ok.hd hc) (IsRange.new ..) (small_one (by omega) (by omega) b1 b2) hsz b3 fun h' t' acc c up at' items => ?_
  obtain ⟨hl, hi⟩ := items
  generalize hs2 : s1.heap.push { cls := .type "range", data := .fields #[.int 0 s1.toks, .int j tk, .int 1 (s1.toks + 1)] } = k2 at I2 up at' ⊢
  have hfree : H1 k2.objs.size = none := I2.hok.fresh (Nat.le_refl _)
  refine ⟨.ref k2.objs.size, upd H1 k2.objs.size (.lst ((List.range j.toNat).map fun i => V.int (i : Nat))), ?_, rfl, q _ _ ⟨hfree, rfl⟩⟩
  refine I2.laid (a := k2.objs.size) (t' := t') up (Nat.le_refl _) ⟨by rw [List.length_map, List.length_range]; exact b4, acc.toList, c, ?_, by simpa using at'⟩
  have := vals_items j.toNat acc.toList (fun i => V.int (i : Nat)) 0 (by simpa using hl) fun i u hu => by
   have hu' : acc[i]? = some u := by simpa using hu
   obtain ⟨t2, ht2⟩ := hi i u hu'
   exact ⟨t2, by rw [ht2]; congr 1; omega⟩
  simpa using this
theorem and_nat (a b : Nat) : Builtin.bitAnd (a : Int) (b : Int) = ((a &&& b : Nat) : Int) := by rw [bitAnd_pp (by omega) (by omega)]; simp
theorem or_nat (a b : Nat) : Builtin.bitOr (a : Int) (b : Int) = ((a ||| b : Nat) : Int) := by
 rw [bitOr_and, and_nat]
 have := MC.xor_and (a + 1) a b (Nat.lt_succ_self _)
 have h2 : (a ||| b) + (a &&& b) = a + b := by
  have e : ∀ (n a b : Nat), a < n → (a ||| b) + (a &&& b) = a + b := by
   intro n
   induction n with
   | zero => intro a b h; omega
   | succ n ih =>
    intro a b h
    by_cases ha : a = 0
    ·subst ha; simp
    have i1 := ih (a / 2) (b / 2) (by omega)
    rw [← Nat.and_div_two, ← Nat.or_div_two] at i1
    have t : ∀ x : Nat, x % 2 = (x.testBit 0).toNat := fun x => by
     rw [Nat.testBit_zero]
     rcases Nat.mod_two_eq_zero_or_one x with q | q <;> simp [q]
    have m2 := t (a &&& b)
    have m3 := t (a ||| b)
    rw [Nat.testBit_and] at m2
    rw [Nat.testBit_or] at m3
    have ma := t a
    have mb := t b
    have : (a ||| b) % 2 + (a &&& b) % 2 = a % 2 + b % 2 := by
     rw [m2, m3, ma, mb]
     cases a.testBit 0 <;> cases b.testBit 0 <;> rfl
    omega
  exact e (a + 1) a b (Nat.lt_succ_self _)
 omega
theorem xor_nat (a b : Nat) : Builtin.bitXor (a : Int) (b : Int) = ((a ^^^ b : Nat) : Int) := by
 unfold Builtin.bitXor
 rw [or_nat, and_nat]
 have := MC.xor_and (a + 1) a b (Nat.lt_succ_self _)
 omega
end L2
set_option maxHeartbeats 4000000
namespace GM
open PySem L2
end GM
set_option maxHeartbeats 4000000
namespace L2
open PySem PySem.Spec PyProof.Rows
def tNo : TS := fun _ _ _ => False
theorem ps_no {X : Cx} {st : Stmt} : PS X st tNo := fun _ _ _ _ _ _ h => h.elim
theorem o_pow {X : Cx} : OpR X (binaryOp .Pow) (cI2c CPow fun i j => .int (i ^ j.toNat)) := op_pow.imp fun _ _ _ _ h => cI2c_of h
theorem tDNewT_n {σ : St} {H : Hp} {Q : VK} : tDNewT σ H Q = ∀ p H', New H p (.dT []) H' → Q (.ref p) H' := by
 unfold tDNewT; rw [new_eq (F := fun p H' => Q (.ref p) H')]
section
open Builtin Builtin.Str
end
theorem Same.nil {H H' : Hp} {p : Addr} (s : Same H H') (h : H' p = none) : H p = none := by
 cases e : H p with
 | none => rfl
 | some o => rw [s _ _ e] at h; cases h
structure Mad (H : Hp) (p : Addr) (o : HO) (H' : Hp) : Prop where
 was : H p = none
 at_ : H' p = some o
 same : Same H H'
theorem Mad.pre {H H0 H' : Hp} {p : Addr} {o : HO} (s : Same H0 H) (n : Mad H p o H') : Mad H0 p o H' := ⟨s.nil n.was, n.at_, s.trans n.same⟩
theorem mul_one (c : Nat) (n : Int) : (Txt.mul ⟨#[c]⟩ n).cps.toList = List.replicate n.toNat c := by
 unfold Txt.mul
 by_cases h1 : n < 1
 ·rw [if_pos h1]
  have : n.toNat = 0 := by omega
  rw [this]
  rfl
 ·rw [if_neg h1]
  by_cases h2 : (n == 1 || Str.length ⟨#[c]⟩ == 0) = true
  ·rw [if_pos h2]
   have h3 : n = 1 := by
    rw [Bool.or_eq_true] at h2
    rcases h2 with q | q
    ·exact beq_iff_eq.mp q
    ·exact absurd (beq_iff_eq.mp q) (by show ¬ (1 : Nat) = 0; decide)
   subst h3
   rfl
  ·rw [if_neg h2]
   show ((List.replicate n.toNat (#[c] : Array Nat)).foldl (· ++ ·) #[]).toList = _
   rw [fold_rep]
   simp
end L2
namespace MF
abbrev Pr := Int × Int
def tn (t : Int) : Int := if t % 2 = 0 then t + 1 else t - 1
def lo (s t : Int) : Int := if t < s then t else s
def hi (s t : Int) : Int := if t > s then t else s
theorem lo_comm (s t : Int) : lo s t = lo t s := by unfold lo; split <;> split <;> omega
theorem hi_comm (s t : Int) : hi s t = hi t s := by unfold hi; split <;> split <;> omega
def fnd : Int → List Pr → Pr → Option Int
 | _, [], _ => none
 | n, q :: r, p => if q = p then some n else fnd (n + 1) r p
def sure (s t : Int) : Option Int :=
 if lo s t = 0 then some 0 else if lo s t = 1 ∨ lo s t = hi s t then some (hi s t) else if lo s t = tn (hi s t) then some 0 else none
def kn (m : Int) (ps : List Pr) (p : Pr) : Int := (fnd (m + 1) ps p).getD (m + 1 + ps.length)
def kp (m : Int) (ps : List Pr) (p : Pr) : List Pr := if (fnd (m + 1) ps p).isSome then ps else ps ++ [p]
def bt (m : Int) (ps : List Pr) (s t : Int) : Int := match sure s t with | some v => v | none => 2 * kn m ps (lo s t, hi s t)
def bp (m : Int) (ps : List Pr) (s t : Int) : List Pr := match sure s t with | some _ => ps | none => kp m ps (lo s t, hi s t)
theorem sure_comm (s t : Int) : sure s t = sure t s := by unfold sure; rw [lo_comm s t, hi_comm s t]
theorem bt_comm (m : Int) (ps : List Pr) (s t : Int) : bt m ps s t = bt m ps t s := by unfold bt; rw [sure_comm s t, lo_comm s t, hi_comm s t]
theorem bp_comm (m : Int) (ps : List Pr) (s t : Int) : bp m ps s t = bp m ps t s := by unfold bp; rw [sure_comm s t, lo_comm s t, hi_comm s t]
theorem fnd_some : ∀ {n : Int} {ps : List Pr} {p : Pr} {i : Int}, fnd n ps p = some i → n ≤ i ∧ i < n + ps.length ∧ ps[(i - n).toNat]? = some p
 | n, [], p, i, h => by simp [fnd] at h
 | n, q :: r, p, i, h => by
  unfold fnd at h
  by_cases e : q = p
  ·rw [if_pos e] at h
   have := Option.some.inj h
   subst this
   refine ⟨by omega, by simp only [List.length_cons]; omega, ?_⟩
   rw [show (n - n).toNat = 0 by omega, List.getElem?_cons_zero, e]
  ·rw [if_neg e] at h
   obtain ⟨h1, h2, h3⟩ := fnd_some h
   refine ⟨by omega, by simp only [List.length_cons]; omega, ?_⟩
   rw [show (i - n).toNat = (i - (n + 1)).toNat + 1 by omega, List.getElem?_cons_succ]
   exact h3
theorem fnd_none : ∀ {n : Int} {ps : List Pr} {p : Pr}, fnd n ps p = none → p ∉ ps
 | n, [], p, h => by simp
 | n, q :: r, p, h => by
  unfold fnd at h
  by_cases e : q = p
  ·rw [if_pos e] at h; cases h
  ·rw [if_neg e] at h
   intro hm
   rcases List.mem_cons.mp hm with e' | e'
   ·exact e e'.symm
   ·exact fnd_none h e'
theorem fnd_snoc : ∀ {n : Int} {ps : List Pr} {p : Pr}, fnd n ps p = none → fnd n (ps ++ [p]) p = some (n + ps.length)
 | n, [], p, h => by simp [fnd]
 | n, q :: r, p, h => by
  have e : ¬ q = p := fun e => by unfold fnd at h; rw [if_pos e] at h; cases h
  unfold fnd at h
  rw [if_neg e] at h
  show fnd n (q :: (r ++ [p])) p = _
  unfold fnd
  rw [if_neg e, fnd_snoc h]
  congr 1
  simp only [List.length_cons]
  omega
theorem kp_len (m : Int) (ps : List Pr) (p : Pr) : ps.length ≤ (kp m ps p).length ∧ (kp m ps p).length ≤ ps.length + 1 := by
 unfold kp; split <;> simp
theorem bp_len (m : Int) (ps : List Pr) (s t : Int) : ps.length ≤ (bp m ps s t).length ∧ (bp m ps s t).length ≤ ps.length + 1 := by
 unfold bp; split
 ·omega
 ·exact kp_len ..
theorem kn_bound (m : Int) (ps : List Pr) (p : Pr) : m + 1 ≤ kn m ps p ∧ kn m ps p < m + 1 + (kp m ps p).length := by
 unfold kn kp
 cases h : fnd (m + 1) ps p with
 | none => simp; omega
 | some i =>
  have := fnd_some h
  simp; omega
def Ok (m : Int) (ps : List Pr) : Prop := ∀ (i : Nat) (p : Pr), ps[i]? = some p → 2 ≤ p.1 ∧ p.1 < p.2 ∧ p.1 / 2 ≠ p.2 / 2 ∧ p.2 < 2 * (m + 1 + i)
theorem tn_half {t : Int} : tn t / 2 = t / 2 := by unfold tn; split <;> omega
theorem sure_none {s t : Int} (hs : 0 ≤ s) (ht : 0 ≤ t) (h : sure s t = none) : 2 ≤ lo s t ∧ lo s t < hi s t ∧ lo s t / 2 ≠ hi s t / 2 := by
 unfold sure at h
 have hlh : lo s t ≤ hi s t ∧ 0 ≤ lo s t := by unfold lo hi; split <;> split <;> omega
 by_cases h1 : lo s t = 0
 ·rw [if_pos h1] at h; cases h
 rw [if_neg h1] at h
 by_cases h2 : lo s t = 1 ∨ lo s t = hi s t
 ·rw [if_pos h2] at h; cases h
 rw [if_neg h2] at h
 by_cases h3 : lo s t = tn (hi s t)
 ·rw [if_pos h3] at h; cases h
 refine ⟨by omega, by omega, fun e => h3 ?_⟩
 unfold tn
 split <;> omega
theorem sure_some {s t T v : Int} (hs : 0 ≤ s) (ht : 0 ≤ t) (hs' : s < T) (ht' : t < T) (h : sure s t = some v) : 0 ≤ v ∧ v < T := by
 unfold sure at h
 have hlh : lo s t ≤ hi s t ∧ 0 ≤ lo s t ∧ hi s t < T := by unfold lo hi; split <;> split <;> omega
 by_cases h1 : lo s t = 0
 ·rw [if_pos h1] at h; cases h; omega
 rw [if_neg h1] at h
 by_cases h2 : lo s t = 1 ∨ lo s t = hi s t
 ·rw [if_pos h2] at h; cases h; omega
 rw [if_neg h2] at h
 by_cases h3 : lo s t = tn (hi s t)
 ·rw [if_pos h3] at h; cases h; omega
 rw [if_neg h3] at h; cases h
theorem hi_lt {s t T : Int} (h1 : s < T) (h2 : t < T) : hi s t < T := by unfold hi; split <;> omega
theorem lo_le_hi (s t : Int) : lo s t ≤ hi s t := by unfold lo hi; split <;> split <;> omega
theorem Ok.bp {m : Int} {ps : List Pr} (h : Ok m ps) {s t : Int} (hs : 0 ≤ s) (ht : 0 ≤ t) (hs' : s < 2 * (m + 1 + ps.length)) (ht' : t < 2 * (m + 1 + ps.length)) : Ok m (bp m ps s t) := by
 unfold MF.bp
 cases e : sure s t with
 | some v => exact h
 | none =>
  show Ok m (kp m ps (lo s t, hi s t))
  unfold kp
  split
  ·exact h
  ·intro i p hp
   rcases Nat.lt_or_ge i ps.length with hi' | hi'
   ·rw [List.getElem?_append_left hi'] at hp
    exact h i p hp
   ·rw [List.getElem?_append_right hi'] at hp
    have h0 : i - ps.length = 0 := by
     rcases Nat.eq_zero_or_pos (i - ps.length) with z | z
     ·exact z
     ·rw [List.getElem?_eq_none (by simp; omega)] at hp; cases hp
    rw [h0] at hp
    have := Option.some.inj hp
    subst this
    have h3 := sure_none hs ht e
    have h4 := hi_lt hs' ht'
    refine ⟨h3.1, h3.2.1, h3.2.2, ?_⟩
    show MF.hi s t < _
    have : i = ps.length := by omega
    subst this
    exact h4
theorem bt_bound {m : Int} (hm : 0 ≤ m) {ps : List Pr} {s t : Int} (hs : 0 ≤ s) (ht : 0 ≤ t) (hs' : s < 2 * (m + 1 + ps.length)) (ht' : t < 2 * (m + 1 + ps.length)) : 0 ≤ bt m ps s t ∧ bt m ps s t < 2 * (m + 1 + (MF.bp m ps s t).length) := by
 unfold bt MF.bp
 cases e : sure s t with
 | some v => exact sure_some hs ht hs' ht' e
 | none =>
  have := kn_bound m ps (lo s t, hi s t)
  show 0 ≤ 2 * kn m ps (lo s t, hi s t) ∧ 2 * kn m ps (lo s t, hi s t) < 2 * (m + 1 + ((kp m ps (lo s t, hi s t)).length : Int))
  omega
end MF
namespace MF
abbrev RS := Int × List Pr
def InT (m : Int) (ps : List Pr) (t : Int) : Prop := 0 ≤ t ∧ t < 2 * (m + 1 + ps.length)
structure St (m : Int) (ps : List Pr) (n : Nat) (r : RS) : Prop where
 ok : Ok m ps → Ok m r.2
 inn : InT m r.2 r.1
 lo : ps.length ≤ r.2.length
 hi : r.2.length ≤ ps.length + n
 pre : ∃ e, r.2 = ps ++ e
 nd : ps.Nodup → r.2.Nodup
theorem InT.mono {m t : Int} {ps qs : List Pr} (h : InT m ps t) (l : ps.length ≤ qs.length) : InT m qs t := ⟨h.1, by have := h.2; omega⟩
theorem InT.tn {m t : Int} {ps : List Pr} (h : InT m ps t) : InT m ps (tn t) := by
 have h1 := h.1
 have h2 := h.2
 unfold InT MF.tn
 split <;> omega
theorem bp_pre (m : Int) (ps : List Pr) (s t : Int) : ∃ e, bp m ps s t = ps ++ e := by
 unfold bp
 split
 ·exact ⟨[], by simp⟩
 ·unfold kp
  split
  ·exact ⟨[], by simp⟩
  ·exact ⟨_, rfl⟩
theorem bp_nd {m s t : Int} {ps : List Pr} (h : ps.Nodup) : (bp m ps s t).Nodup := by
 unfold bp
 split
 ·exact h
 ·unfold kp
  cases e : fnd (m + 1) ps (lo s t, hi s t) with
  | some i => exact h
  | none =>
   have := fnd_none e
   show (ps ++ [_]).Nodup
   rw [List.nodup_append]
   refine ⟨h, by simp, fun a ha b hb => ?_⟩
   rw [List.mem_singleton] at hb
   subst hb
   exact fun z => this (z ▸ ha)
theorem fnd_idx : ∀ {n : Int} {ps : List Pr} {p : Pr} {i : Nat}, ps.Nodup → ps[i]? = some p → fnd n ps p = some (n + i)
 | n, [], p, i, _, h => by simp at h
 | n, q :: r, p, 0, hn, h => by
  have : q = p := by simpa using h
  unfold fnd
  rw [if_pos this]
  simp
 | n, q :: r, p, i + 1, hn, h => by
  have h' : r[i]? = some p := by simpa using h
  have hq : ¬ q = p := fun e => (List.nodup_cons.mp hn).1 (e ▸ List.mem_of_getElem? h')
  unfold fnd
  rw [if_neg hq, fnd_idx (List.nodup_cons.mp hn).2 h']
  congr 1
  omega
def bo (m s t : Int) (ps : List Pr) : RS := (bt m ps s t, bp m ps s t)
theorem bo_st {m s t : Int} {ps : List Pr} (hm : 0 ≤ m) (hs : InT m ps s) (ht : InT m ps t) : St m ps 1 (bo m s t ps) :=
 ⟨fun h => h.bp hs.1 ht.1 hs.2 ht.2, bt_bound hm hs.1 ht.1 hs.2 ht.2, (bp_len m ps s t).1, (bp_len m ps s t).2, bp_pre m ps s t, fun h => bp_nd h⟩
theorem St.trans {m : Int} {ps qs : List Pr} {n k : Nat} {t : Int} {r : RS} (h : St m ps n (t, qs)) (g : St m qs k r) : St m ps (n + k) r :=
 ⟨fun o => g.ok (h.ok o), g.inn, Nat.le_trans h.lo g.lo, by have h1 := h.hi; have h2 := g.hi; simp only at h1; omega, by
  obtain ⟨e1, h1⟩ := h.pre
  obtain ⟨e2, h2⟩ := g.pre
  simp only at h1
  exact ⟨e1 ++ e2, by rw [h2, h1, List.append_assoc]⟩, fun o => g.nd (h.nd o)⟩
theorem St.weak {m : Int} {ps : List Pr} {n k : Nat} {r : RS} (h : St m ps n r) (l : n ≤ k) : St m ps k r := ⟨h.ok, h.inn, h.lo, Nat.le_trans h.hi (by omega), h.pre, h.nd⟩
theorem St.tn {m : Int} {ps : List Pr} {n : Nat} {r : RS} (h : St m ps n r) : St m ps n (tn r.1, r.2) := ⟨h.ok, h.inn.tn, h.lo, h.hi, h.pre, h.nd⟩
theorem St.refl {m t : Int} {ps : List Pr} (h : InT m ps t) : St m ps 0 (t, ps) := ⟨fun o => o, h, Nat.le_refl _, Nat.le_refl _, ⟨[], by simp⟩, fun o => o⟩
def andR (m : Int) : Int → List Int → List Pr → RS
 | t, [], ps => (t, ps)
 | t, u :: r, ps => andR m (bt m ps t u) r (bp m ps t u)
theorem andR_snoc (m : Int) : ∀ (xs : List Int) (t x : Int) (ps : List Pr), andR m t (xs ++ [x]) ps = bo m (andR m t xs ps).1 x (andR m t xs ps).2
 | [], t, x, ps => rfl
 | y :: r, t, x, ps => andR_snoc m r _ x _
theorem andR_st {m : Int} (hm : 0 ≤ m) : ∀ (xs : List Int) (t : Int) (ps : List Pr), InT m ps t → (∀ x ∈ xs, InT m ps x) → St m ps xs.length (andR m t xs ps)
 | [], t, ps, h, _ => St.refl h
 | y :: r, t, ps, h, hx => by
  have h1 := bo_st hm h (hx y (List.mem_cons_self ..))
  have h2 := andR_st hm r (bt m ps t y) (bp m ps t y) h1.inn fun x hx' => (hx x (List.mem_cons_of_mem _ hx')).mono h1.lo
  exact (h1.trans h2).weak (by simp only [List.length_cons]; omega)
def orR (m t : Int) (ts : List Int) (ps : List Pr) : RS := (tn (andR m (tn t) (ts.map tn) ps).1, (andR m (tn t) (ts.map tn) ps).2)
theorem orR_st {m : Int} (hm : 0 ≤ m) (ts : List Int) (t : Int) (ps : List Pr) (h : InT m ps t) (hx : ∀ x ∈ ts, InT m ps x) : St m ps ts.length (orR m t ts ps) := by
 have := andR_st hm (ts.map tn) (tn t) ps h.tn fun x hx' => by
  obtain ⟨y, hy, rfl⟩ := List.mem_map.mp hx'
  exact (hx y hy).tn
 rw [List.length_map] at this
 exact this.tn
def eoR (m s t : Int) (ps : List Pr) : RS := orR m (bt m ps s (tn t)) [bt m (bp m ps s (tn t)) (tn s) t] (bp m (bp m ps s (tn t)) (tn s) t)
theorem eoR_st {m s t : Int} {ps : List Pr} (hm : 0 ≤ m) (hs : InT m ps s) (ht : InT m ps t) : St m ps 3 (eoR m s t ps) := by
 have h1 := bo_st hm hs ht.tn
 have h2 := bo_st hm (hs.tn.mono h1.lo) (ht.mono h1.lo)
 have h3 := orR_st hm [(bo m (tn s) t (bo m s (tn t) ps).2).1] (bo m s (tn t) ps).1 (bo m (tn s) t (bo m s (tn t) ps).2).2 (h1.inn.mono h2.lo) fun x hx => by
  rw [List.mem_singleton] at hx
  subst hx
  exact h2.inn
 exact (h1.trans h2).trans h3
def eiR (m : Int) : Int → List Int → List Pr → RS
 | t, [], ps => (t, ps)
 | t, u :: r, ps => eiR m (eoR m t u ps).1 r (eoR m t u ps).2
theorem eiR_snoc (m : Int) : ∀ (xs : List Int) (t x : Int) (ps : List Pr), eiR m t (xs ++ [x]) ps = eoR m (eiR m t xs ps).1 x (eiR m t xs ps).2
 | [], t, x, ps => rfl
 | y :: r, t, x, ps => eiR_snoc m r _ x _
theorem eiR_st {m : Int} (hm : 0 ≤ m) : ∀ (xs : List Int) (t : Int) (ps : List Pr), InT m ps t → (∀ x ∈ xs, InT m ps x) → St m ps (3 * xs.length) (eiR m t xs ps)
 | [], t, ps, h, _ => St.refl h
 | y :: r, t, ps, h, hx => by
  have h1 := eoR_st hm h (hx y (List.mem_cons_self ..))
  have h2 := eiR_st hm r (eoR m t y ps).1 (eoR m t y ps).2 h1.inn fun x hx' => (hx x (List.mem_cons_of_mem _ hx')).mono h1.lo
  exact (h1.trans h2).weak (by simp only [List.length_cons]; omega)
def chR (m r s t : Int) (ps : List Pr) : RS := orR m (bt m ps r s) [bt m (bp m ps r s) (tn r) t] (bp m (bp m ps r s) (tn r) t)
theorem chR_st {m r s t : Int} {ps : List Pr} (hm : 0 ≤ m) (hr : InT m ps r) (hs : InT m ps s) (ht : InT m ps t) : St m ps 3 (chR m r s t ps) := by
 have h1 := bo_st hm hr hs
 have h2 := bo_st hm (hr.tn.mono h1.lo) (ht.mono h1.lo)
 have h3 := orR_st hm [(bo m (tn r) t (bo m r s ps).2).1] (bo m r s ps).1 (bo m (tn r) t (bo m r s ps).2).2 (h1.inn.mono h2.lo) fun x hx => by
  rw [List.mem_singleton] at hx
  subst hx
  exact h2.inn
 exact (h1.trans h2).trans h3
def moR (m r s t : Int) (ps : List Pr) : RS :=
 let u := bo m r s ps
 let v := bo m r t u.2
 let w := bo m s t v.2
 orR m u.1 [v.1, w.1] w.2
theorem moR_st {m r s t : Int} {ps : List Pr} (hm : 0 ≤ m) (hr : InT m ps r) (hs : InT m ps s) (ht : InT m ps t) : St m ps 5 (moR m r s t ps) := by
 have h1 := bo_st hm hr hs
 have h2 := bo_st hm (hr.mono h1.lo) (ht.mono h1.lo)
 have h12 := h1.trans h2
 have h3 := bo_st hm (hs.mono h12.lo) (ht.mono h12.lo)
 have h4 := orR_st hm [(bo m r t (bo m r s ps).2).1, (bo m s t (bo m r t (bo m r s ps).2).2).1] (bo m r s ps).1 (bo m s t (bo m r t (bo m r s ps).2).2).2 ((h1.inn.mono h2.lo).mono h3.lo) fun x hx => by
  rcases List.mem_cons.mp hx with rfl | hx
  ·exact h2.inn.mono h3.lo
  ·rw [List.mem_singleton] at hx
   subst hx
   exact h3.inn
 exact (h12.trans h3).trans h4
theorem told_again {m : Int} {ps : List Pr} {p : Pr} {i : Nat} (ho : Ok m ps) (hn : ps.Nodup) (h : ps[i]? = some p) : bt m ps p.1 p.2 = 2 * (m + 1 + i) ∧ bp m ps p.1 p.2 = ps := by
 obtain ⟨h1, h2, h3, h4⟩ := ho i p h
 have e1 : lo p.1 p.2 = p.1 := by unfold lo; rw [if_neg (by omega)]
 have e2 : hi p.1 p.2 = p.2 := by unfold hi; rw [if_pos (by omega)]
 have e3 : sure p.1 p.2 = none := by
  unfold sure
  rw [e1, e2, if_neg (by omega), if_neg (by omega), if_neg]
  unfold tn
  split <;> omega
 have e4 : fnd (m + 1) ps (p.1, p.2) = some (m + 1 + i) := fnd_idx hn h
 unfold bt bp kn kp
 rw [e3]
 simp only [e1, e2, e4]
 exact ⟨rfl, rfl⟩
end MF
namespace MF
def Sub (F x : Nat) : Prop := ∀ j, x.testBit j = true → F.testBit j = true
theorem sub_zero (F : Nat) : Sub F 0 := fun j h => by simp at h
theorem Sub.and {F x y : Nat} (h : Sub F x) : Sub F (x &&& y) := fun j hj => h j (by rw [Nat.testBit_and, Bool.and_eq_true] at hj; exact hj.1)
theorem Sub.neg {F x : Nat} (h : Sub F x) : Sub F (F ^^^ x) := fun j hj => by
 rw [Nat.testBit_xor] at hj
 cases hf : F.testBit j with
 | true => rfl
 | false =>
  rw [hf] at hj
  have := h j (by simpa using hj)
  rw [hf] at this
  exact this
def litC (F : Nat) (cs : List Nat) (t : Int) : Nat := if t % 2 = 1 then F ^^^ cs.getD (t / 2).toNat 0 else cs.getD (t / 2).toNat 0
def growC (F : Nat) : List Nat → List Pr → List Nat
 | cs, [] => cs
 | cs, p :: r => growC F (cs ++ [litC F cs p.1 &&& litC F cs p.2]) r
theorem growC_app (F : Nat) : ∀ (ps qs : List Pr) (cs : List Nat), growC F cs (ps ++ qs) = growC F (growC F cs ps) qs
 | [], qs, cs => rfl
 | p :: r, qs, cs => growC_app F r qs _
theorem growC_len (F : Nat) : ∀ (ps : List Pr) (cs : List Nat), (growC F cs ps).length = cs.length + ps.length
 | [], cs => rfl
 | p :: r, cs => by
  show (growC F (cs ++ [_]) r).length = _
  rw [growC_len F r]
  simp only [List.length_append, List.length_cons, List.length_nil]
  omega
theorem growC_pre (F : Nat) : ∀ (ps : List Pr) (cs : List Nat), ∃ e, growC F cs ps = cs ++ e
 | [], cs => ⟨[], by simp [growC]⟩
 | p :: r, cs => by
  obtain ⟨e, h⟩ := growC_pre F r (cs ++ [litC F cs p.1 &&& litC F cs p.2])
  exact ⟨[litC F cs p.1 &&& litC F cs p.2] ++ e, by show growC F (cs ++ [_]) r = _; rw [h, List.append_assoc]⟩
theorem litC_app {F : Nat} {cs e : List Nat} {t : Int} (h0 : 0 ≤ t) (h : t < 2 * cs.length) : litC F (cs ++ e) t = litC F cs t := by
 have hl : (t / 2).toNat < cs.length := by omega
 unfold litC
 have : (cs ++ e).getD (t / 2).toNat 0 = cs.getD (t / 2).toNat 0 := by
  simp [List.getD, List.getElem?_append_left hl]
 rw [this]
def AllSub (F : Nat) (cs : List Nat) : Prop := ∀ c ∈ cs, Sub F c
theorem AllSub.getD {F : Nat} {cs : List Nat} (h : AllSub F cs) (i : Nat) : Sub F (cs.getD i 0) := by
 rcases Nat.lt_or_ge i cs.length with hi | hi
 ·have : cs.getD i 0 = cs[i] := by simp [List.getD, hi]
  rw [this]
  exact h _ (List.getElem_mem hi)
 ·have : cs.getD i 0 = 0 := by simp [List.getD, hi]
  rw [this]
  exact sub_zero F
theorem AllSub.lit {F : Nat} {cs : List Nat} (h : AllSub F cs) (t : Int) : Sub F (litC F cs t) := by
 unfold litC
 split
 ·exact (h.getD _).neg
 ·exact h.getD _
theorem AllSub.grow {F : Nat} : ∀ (ps : List Pr) (cs : List Nat), AllSub F cs → AllSub F (growC F cs ps)
 | [], cs, h => h
 | p :: r, cs, h => by
  refine AllSub.grow r _ fun c hc => ?_
  rcases List.mem_append.mp hc with hc | hc
  ·exact h c hc
  ·rw [List.mem_singleton.mp hc]
   exact (h.lit p.1).and
structure Base (F : Nat) (m : Int) (b : List Nat) : Prop where
 len : (b.length : Int) = m + 1
 zero : b.getD 0 0 = 0
 sub : AllSub F b
section
variable {F : Nat} {m : Int} {b : List Nat}
abbrev L (F : Nat) (b : List Nat) (ps : List Pr) (t : Int) : Nat := litC F (growC F b ps) t
theorem L_ext (B : Base F m b) {ps e : List Pr} {t : Int} (h : InT m ps t) : L F b (ps ++ e) t = L F b ps t := by
 unfold L
 rw [growC_app]
 obtain ⟨x, hx⟩ := growC_pre F e (growC F b ps)
 rw [hx]
 refine litC_app h.1 ?_
 have h2 := h.2
 have h3 := growC_len F ps b
 have h4 := B.len
 omega
theorem St.lit (B : Base F m b) {ps : List Pr} {n : Nat} {r : RS} (h : St m ps n r) {x : Int} (hx : InT m ps x) : L F b r.2 x = L F b ps x := by
 obtain ⟨e, he⟩ := h.pre
 rw [he]
 exact L_ext B hx
end
end MF
set_option maxHeartbeats 4000000
namespace L2
open PySem PySem.Spec PyProof.Rows
def knK (p : MF.Pr) : List Key := [.inl p.1, .inl p.2]
theorem knK_inj {p q : MF.Pr} (h : knK p = knK q) : p = q := by
 unfold knK at h
 injection h with h1 h2
 injection h2 with h3 _
 exact Prod.ext (Sum.inl.inj h1) (Sum.inl.inj h3)
def kvF : Int → List MF.Pr → List (List Key × V)
 | _, [] => []
 | n, p :: r => (knK p, .int n) :: kvF (n + 1) r
theorem val_kvF : ∀ (n : Int) (ps : List MF.Pr) (p : MF.Pr), valV (kvF n ps) (knK p) = (MF.fnd n ps p).map V.int
 | _, [], _ => rfl
 | n, q :: r, p => by
  show valV ((knK q, V.int n) :: kvF (n + 1) r) (knK p) = _
  unfold MF.fnd
  by_cases e : q = p
  ·rw [if_pos e, valV_pos (p := (knK q, V.int n)) (congrArg knK e)]; rfl
  ·rw [if_neg e, valV_neg (p := (knK q, V.int n)) (fun z => e (knK_inj z)), val_kvF (n + 1) r p]
theorem kvF_snoc : ∀ (n : Int) (ps : List MF.Pr) (p : MF.Pr), kvF n (ps ++ [p]) = kvF n ps ++ [(knK p, .int (n + ps.length))]
 | n, [], p => by simp [kvF]
 | n, q :: r, p => by
  show (knK q, V.int n) :: kvF (n + 1) (r ++ [p]) = (knK q, V.int n) :: (kvF (n + 1) r ++ _)
  rw [kvF_snoc (n + 1) r p]
  congr 5
  simp only [List.length_cons]
  omega
theorem len_kvF : ∀ (n : Int) (ps : List MF.Pr), (kvF n ps).length = ps.length
 | _, [] => rfl
 | n, q :: r => by show (kvF (n + 1) r).length + 1 = r.length + 1; rw [len_kvF (n + 1) r]
theorem put_kvF {n : Int} {ps : List MF.Pr} {p : MF.Pr} (h : MF.fnd n ps p = none) : putK (kvF n ps) (knK p) (.int (n + ps.length)) = kvF n (ps ++ [p]) := by
 unfold putK
 rw [valV_any, val_kvF, h, kvF_snoc]
 rfl
abbrev En := Addr × MF.Pr
abbrev psOf (es : List En) : List MF.Pr := es.map (·.2)
structure PairsAt (H : Hp) (pl kl : Addr) (m : Int) (es : List En) : Prop where
 lst : H pl = some (.lst (es.map fun e => V.ref e.1))
 dct : H kl = some (.dT (kvF (m + 1) (psOf es)))
 tup : ∀ e ∈ es, H e.1 = some (.tup [.int e.2.1, .int e.2.2])
def Un2 (pl kl : Addr) (H H' : Hp) : Prop := ∀ b o, b ≠ pl → b ≠ kl → H b = some o → H' b = some o
section
variable {H H' H1 : Hp} {pl kl p2 k2 f dx C : Addr} {m : Int} {es : List En} {o : HO}
theorem Un2.refl : Un2 pl kl H H := fun _ _ _ _ e => e
theorem Un2.trans (u : Un2 pl kl H H') (v : Un2 pl kl H' H1) : Un2 pl kl H H1 := fun b o n1 n2 e => v b o n1 n2 (u b o n1 n2 e)
theorem Same.un (s : Same H H') : Un2 pl kl H H' := fun b o _ _ e => s b o e
theorem un_l : Un2 pl kl H (upd H pl o) := fun b u n1 _ e => by rw [upd_ne n1]; exact e
theorem un_k : Un2 pl kl H (upd H kl o) := fun b u _ n2 e => by rw [upd_ne n2]; exact e
theorem PairsAt.same (h : PairsAt H pl kl m es) (s : Same H H') : PairsAt H' pl kl m es := ⟨s _ _ h.lst, s _ _ h.dct, fun e he => s _ _ (h.tup e he)⟩
structure FoldAt (C : Addr) (H : Hp) (f : Addr) (m : Int) (es : List En) (dx pl kl : Addr) : Prop where
 ins : H f = some (.ins C dx [("many", .int m), ("pairs", .ref pl), ("knots", .ref kl)])
 prs : PairsAt H pl kl m es
theorem FoldAt.same (h : FoldAt C H f m es dx pl kl) (s : Same H H') : FoldAt C H' f m es dx pl kl := ⟨s _ _ h.ins, h.prs.same s⟩
theorem PairsAt.nlk (h : PairsAt H pl kl m es) : pl ≠ kl := ne_of h.lst h.dct (fun z => nomatch z)
theorem PairsAt.put (h : PairsAt H pl kl m es) {tp : Addr} {p : MF.Pr} (ht : H tp = some (.tup [.int p.1, .int p.2])) (hf : MF.fnd (m + 1) (psOf es) p = none) :
  PairsAt (upd (upd H kl (.dT (kvF (m + 1) (psOf es ++ [p])))) pl (.lst ((es.map fun e => V.ref e.1) ++ [.ref tp]))) pl kl m (es ++ [(tp, p)]) := by
 have nt : ∀ {b : Addr} {xs : List V}, H b = some (.tup xs) → upd (upd H kl (.dT (kvF (m + 1) (psOf es ++ [p])))) pl (.lst ((es.map fun e => V.ref e.1) ++ [.ref tp])) b = some (.tup xs) := fun {b xs} e => by
  rw [upd_ne (ne_of e h.lst (fun z => nomatch z)), upd_ne (ne_of e h.dct (fun z => nomatch z))]; exact e
 refine ⟨?_, ?_, fun e he => ?_⟩
 ·rw [upd_same, List.map_append]; rfl
 ·rw [upd_ne h.nlk.symm, upd_same, psOf, psOf, List.map_append]; rfl
 ·rcases List.mem_append.mp he with he | he
  ·exact nt (h.tup e he)
  ·rw [List.mem_singleton] at he
   subst he
   exact nt ht
end
theorem SqL.un2 {K : PySem.W.Frag} {H H' : Hp} {pl kl tp : Addr} {xs ys : List V} {kv : List (List Key × V)} (h : SqL K H tp xs) (hp : H pl = some (.lst ys)) (hk : H kl = some (.dT kv)) (hne : xs ≠ ys) (u : Un2 pl kl H H') : SqL K H' tp xs := by
 rcases h with (h | ⟨o, h⟩) | h
 ·exact .inl (.inl (u _ _ (ne_of h hp (fun z => hne (HO.lst.inj z))) (ne_of h hk (fun z => nomatch z)) h))
 ·exact .inl (.inr ⟨o, u _ _ (ne_of h hp (fun z => nomatch z)) (ne_of h hk (fun z => nomatch z)) h⟩)
 ·exact .inr h
theorem ints_ne {ts : List Int} {es : List En} (h : ts ≠ []) : ts.map V.int ≠ es.map fun e => V.ref e.1 := by
 intro e
 cases ts with
 | nil => exact h rfl
 | cons t r =>
  cases es with
  | nil => cases e
  | cons x xs => cases e
theorem cut_1 (xs : List V) : cutV xs (some 1) none = xs.drop 1 := by
 unfold cutV
 have e1 : HT.sIx xs.length 0 (some 1) = min 1 xs.length := by
  have := HT.sIx_nat xs.length 0 1
  rw [show ((1 : Nat) : Int) = 1 from rfl] at this
  rw [this]
 have e2 : HT.sIx xs.length xs.length none = xs.length := rfl
 rw [e1, e2]
 cases xs with
 | nil => rfl
 | cons a r =>
  have : min 1 (a :: r).length = 1 := by simp only [List.length_cons]; omega
  rw [this, List.take_of_length_le (by simp)]
theorem xor_one {t : Int} (h : 0 ≤ t) : Builtin.bitXor t 1 = MF.tn t := by
 obtain ⟨a, rfl⟩ := Int.eq_ofNat_of_zero_le h
 have e := xor_nat a 1
 rw [show ((1 : Nat) : Int) = 1 from rfl] at e
 rw [e]
 have h1 : (a ^^^ 1) / 2 = a / 2 := by rw [Nat.xor_div_two]; simp
 have h2 : (a ^^^ 1) % 2 = (a + 1) % 2 := by
  have := Nat.xor_mod_two_pow (a := a) (b := 1) (n := 1)
  rw [show 2 ^ 1 = 2 from rfl] at this
  rw [this]
  rcases Nat.mod_two_eq_zero_or_one a with q | q
  ·rw [q, show 0 ^^^ 1 % 2 = 1 from rfl]; omega
  ·rw [q, show 1 ^^^ 1 % 2 = 0 from rfl]; omega
 unfold MF.tn
 split <;> omega
theorem getD_refs (es : List En) (n : Nat) (h : n < es.length) : (es.map fun e => V.ref e.1).getD n .non = V.ref (es[n]).1 := by simp [List.getD, h]
theorem eq_tup {K : PySem.W.Frag} {H : Hp} {p q : Addr} {xs : List V} (h1 : SqT K H p xs) (h2 : SqT K H q xs) (hf : xs.all flatV = true) : EqRef K H p q true := by
 refine .inl ⟨rfl, DeepEq.tup (n := 3) h1 h2 rfl fun i y z hy hz => ?_⟩
 rw [hy] at hz
 cases hz
 exact .flat (List.all_eq_true.mp hf _ (List.mem_of_getElem? hy))
end L2
set_option maxHeartbeats 4000000
namespace DL
open PySem DZ
theorem entry_list_ga : entryFor table "list.__getattribute__" = some Builtin.«object.__getattribute__» :=
 entryFor_alias (id' := "object.__getattribute__") (by kernel_rfl) (by first | rfl | decide +kernel) (by decide +kernel) (by kernel_rfl)
theorem lk_list_keys : typeLookup (.type "list") "keys" = pure none := by rw [typeLookup_type, builtinLookup_eq_fast]; kernel_rfl
section
variable {prog : Program} {w : World} {A : Around} {E : Value → Shared → Prop} {h : Heap} {g : Array GenState} {d : Drawn} {t : Nat} {os : OsState} {z : Addr} {vs : Array Value} {n : Nat}
theorem keys_entry {tk : Tok} {Q : Fin → Shared → Prop} (hh : A.handled = none) (hz : h.get? z = some { cls := .type "list", dict := none, data := .seq vs n, slots := #[] })
  (hE : ∀ h' e t', (∀ c o, h.get? c = some o → h'.get? c = some o) → (∃ o, h'.get? e = some o ∧ o.cls = .type "AttributeError") → E (.ref e) ⟨h', g, d, t', os⟩) :
  wpAny (model prog w) A (Builtin.«object.__getattribute__» ⟨[.ref z, .str "keys" tk], []⟩) Q E ⟨h, g, d, t, os⟩ := by
 have hT : (⟨h, g, d, t, os⟩ : Shared).TypeIs (.ref z) "list" := ⟨_, hz, rfl⟩
 have f4 := lk_list_keys
 repeat (any_goals (first | assumption | wp_step))
 refine wpAny_raiseAttrError hh (fun h' tk' e x => ?_) (attrMsg_fits (by decide +kernel) (by decide +kernel))
 obtain ⟨t', u', he⟩ := x.there
 exact hE h' e tk' (fun c o q => x.keeps c o q) ⟨_, he, rfl⟩
theorem keys_call {tk : Tok} {R : Result → Shared → Prop} (hh : A.handled = none) (hz : h.get? z = some { cls := .type "list", dict := none, data := .seq vs n, slots := #[] })
  (hE : ∀ h' e t', (∀ c o, h.get? c = some o → h'.get? c = some o) → (∃ o, h'.get? e = some o ∧ o.cls = .type "AttributeError") → R (.error (.ref e)) ⟨h', g, d, t', os⟩) :
  codeAny (model prog w) A (.call (.builtin "list.__getattribute__") ⟨[.ref z, .str "keys" tk], []⟩) R ⟨h, g, d, t, os⟩ :=
 codeAny_call_builtin F.slot_list_getattribute.plain entry_list_ga (F.slot_list_getattribute.check _ _ _ _ _ _ _ _ (show (⟨h, g, d, t, os⟩ : Shared).TypeIs (.ref z) "list" from ⟨_, hz, rfl⟩) (F.args_list_getattribute_2 _ _) (keys_entry hh hz hE))
theorem keys_by {tk : Tok} {Q : Value → Shared → Prop} (hh : A.handled = none) (hz : h.get? z = some { cls := .type "list", dict := none, data := .seq vs n, slots := #[] })
  (hE : ∀ h' e t', (∀ c o, h.get? c = some o → h'.get? c = some o) → (∃ o, h'.get? e = some o ∧ o.cls = .type "AttributeError") → E (.ref e) ⟨h', g, d, t', os⟩) :
  wpAny (model prog w) A (getAttrBy (.ref z) (.str "keys" tk) false) Q E ⟨h, g, d, t, os⟩ := by
 have hT : (⟨h, g, d, t, os⟩ : Shared).TypeIs (.ref z) "list" := ⟨_, hz, rfl⟩
 have f2 := F.slot_list_getattribute.lookup
 have f3 := F.slot_list_getattribute.bind (.ref z)
 have f1 := sub_AttributeError
 repeat (any_goals (first | assumption | wp_step))
 refine keys_call hh hz fun h' e t' k he => ?_
 obtain ⟨o, ho, hc⟩ := he
 have hTe : (⟨h', g, d, t', os⟩ : Shared).TypeIs (.ref e) "AttributeError" := ⟨o, ho, hc⟩
 have fin := hE h' e t' k ⟨o, ho, hc⟩
 have f5 : typeLookup (.type "list") "__getattr__" = pure none := by rw [typeLookup_type, builtinLookup_eq_fast]; kernel_rfl
 show wpAny _ _ (getattributeRaised _ _ _ _ _ _ _) _ _ _
 unfold getattributeRaised
 repeat (any_goals (first | assumption | wp_step))
theorem keys_none {Q : Option Value → Shared → Prop} (hh : A.handled = none) (hz : h.get? z = some { cls := .type "list", dict := none, data := .seq vs n, slots := #[] })
  (hq : ∀ h' t', (∀ c o, h.get? c = some o → h'.get? c = some o) → Q none ⟨h', g, d, t', os⟩) :
  wpAny (model prog w) A (getAttr? (.ref z) "keys") Q E ⟨h, g, d, t, os⟩ := by
 unfold getAttr? getAttrBy?
 have f1 := sub_AttributeError
 refine wpAny_bind (wpAny_mkText ?_)
 refine wpAny_bind (wpAny_attempt (keys_by hh hz fun h' e t' k he => ?_))
 obtain ⟨o, ho, hc⟩ := he
 refine wpAny_bind (wpAny_isInstance (T := "AttributeError") (b := true) ⟨o, ho, hc⟩ f1 ?_)
 exact wpAny_pure (hq _ _ k)
end
section
variable {prog : Program} {w : World} {A : Around} {E : Value → Shared → Prop} {s : Shared} {κ : Type} [DecidableEq κ] {knd : KeyKind prog w κ}
def Prs (knd : KeyKind prog w κ) (d it : Addr) (xs : Array Value) (es : List (κ × Value)) (h : Heap) : Prop :=
 ∀ (j : Nat) p, es[j]? = some p → ∃ T kx o m, xs[j]? = some (.ref T) ∧ T ≠ d ∧ T ≠ it ∧ knd.is p.1 kx = true ∧ h.get? T = some o ∧ o.cls = .type "tuple" ∧ o.data = .seq #[kx, p.2] m
theorem dict_loop {it l d : Addr} {xs : Array Value} {es : List (κ × Value)} {R : Result → Shared → Prop} (hh : A.handled = none) (n1 : it ≠ d) (n2 : l ≠ d) (n3 : l ≠ it) (hk : es.length = xs.size) (hz : xs.size ≤ 2000) :
  ∀ (m i : Nat) (s : Shared) (kvs : List (κ × Value)), i + m = xs.size → kvs.length ≤ i → s.heap.IsListIter it l i → s.heap.IsList l xs → Prs knd d it xs es s.heap → s.heap.DictOf knd d kvs →
   (∀ h' t', h'.DictOf knd d ((es.drop i).foldl (fun e p => stored e p.1 p.2) kvs) → (∀ c o, c ≠ d → c ≠ it → s.heap.get? c = some o → h'.get? c = some o) → R (.ok (.ret .none)) { s with heap := h', toks := t' }) →
   codeAny (model prog w) A (.builtin "dict.update.loop" ⟨[.ref d, .ref it, rawInt i, .none], []⟩) R s
 | 0, i, s, kvs, hm, hl, S, L, P, hd, hR => by
  refine codeAny_builtin entry_dict_loop ?_
  rw [Around.under_plainId plain_dict_loop _]
  unfold Builtin.«dict.update.loop»
  refine wpAny_bind (wpAny_pyNext_list_end hh S L (Array.getElem?_eq_none (by omega)) fun h' eb => ?_)
  have e1 : es.drop i = [] := List.drop_eq_nil_of_le (by omega)
  rw [e1] at hR
  have hd' : h'.DictOf knd d kvs := by
   obtain ⟨o, es, ep, ho, r⟩ := hd
   exact ⟨o, es, ep, eb _ _ n1.symm ho, r⟩
  exact wpAny_bind (wpAny_pure (wpAny_pure (hR h' s.toks hd' fun c o c0 c1 e => eb c o c1 e)))
 | m + 1, i, s, kvs, hm, hl, S, L, P, hd, hR => by
  refine codeAny_builtin entry_dict_loop ?_
  rw [Around.under_plainId plain_dict_loop _]
  unfold Builtin.«dict.update.loop»
  have hi : i < es.length := by omega
  have hei : es[i]? = some es[i] := List.getElem?_eq_getElem hi
  obtain ⟨T, kx, o, mm, hx, nd, nit, hkx, ho, hcl, hda⟩ := P i _ hei
  refine wpAny_bind (wpAny_pyNext_list_item S L (x := .ref T) hx fun h1 S1 sb1 => ?_)
  have k1 : ∀ c o, c ≠ it → s.heap.get? c = some o → h1.get? c = some o := fun c o hc e => (sb1.2 c hc).trans e
  refine wpAny_bind (wpAny_holding ?_)
  have hd1 : h1.DictOf knd d kvs := by
   obtain ⟨o, es, ep, ho, r⟩ := hd
   exact ⟨o, es, ep, k1 _ _ n1.symm ho, r⟩
  refine wpAny_bind (wpAny_tryCatch ?_)
  unfold Builtin.Dict.pairItems
  refine wpAny_bind (wpAny_typeOf (T := "tuple") ⟨o, k1 _ _ nit ho, hcl⟩ ?_)
  rw [if_pos (by decide)]
  refine wpAny_bind (wpAny_seqItems (k1 _ _ nit ho) hda (wpAny_pure ?_))
  refine wpAny_holding (wpAny_dictSet_pairs (knd := knd) (s := { s with heap := h1 }) hkx hd1 (fun h2 d2 sb => ?_) (Nat.le_trans hl (Nat.le_trans (by omega) (show 2000 ≤ sizeLine by decide))))
  have k2 : ∀ c o, c ≠ d → h1.get? c = some o → h2.get? c = some o := fun c o hc e => (sb.2 c hc).trans e
  have S2 : h2.IsListIter it l (i + 1) := S1.at fun o e => k2 it o n1 e
  have L2 : h2.IsList l xs := L.at fun o e => k2 l o n2 (k1 l o n3 e)
  have P2 : Prs knd d it xs es h2 := fun j p hj => by
   obtain ⟨T', kx', o', m', q1, q2, q3, q4, q5, q6, q7⟩ := P j p hj
   exact ⟨T', kx', o', m', q1, q2, q3, q4, k2 _ _ q2 (k1 _ _ q3 q5), q6, q7⟩
  refine wpAny_pure ⟨plainId_quiet plain_dict_loop _, ?_⟩
  have e1 : es.drop i = es[i] :: es.drop (i + 1) := List.drop_eq_getElem_cons hi
  refine dict_loop hh n1 n2 n3 hk hz m (i + 1) _ _ (by omega) ?_ S2 L2 P2 d2 ?_
  ·have := len_stored kvs es[i].1 es[i].2
   omega
  ·intro h' t' d' k'
   rw [e1] at hR
   exact hR h' t' d' fun c o c0 c1 e => k' c o c0 c1 (k2 c o c0 (k1 c o c1 e))
theorem iter_l {l : Addr} {xs : Array Value} {n : Nat} {Q : Value → Shared → Prop} (hz : s.heap.get? l = some { cls := .type "list", dict := none, data := .seq xs n, slots := #[] })
  (h : Q (.ref s.heap.objs.size) { s with heap := s.heap.push { cls := .type "list_iterator", data := .fields #[.ref l, .int 0 0] } }) : wpAny (model prog w) A (pyIter (.ref l)) Q E s := wpAny_pyIter_list (items := xs) ⟨_, hz, rfl, n, rfl⟩ h
theorem call_dict {l : Addr} {xs : Array Value} {n : Nat} {es : List (κ × Value)} {Q : Value → Shared → Prop} (hh : A.handled = none) (hl : s.heap.get? l = some { cls := .type "list", dict := none, data := .seq xs n, slots := #[] })
  (hk : es.length = xs.size) (hz : xs.size ≤ 2000) (P : ∀ (j : Nat) p, es[j]? = some p → ∃ T kx o m, xs[j]? = some (.ref T) ∧ knd.is p.1 kx = true ∧ s.heap.get? T = some o ∧ o.cls = .type "tuple" ∧ o.data = .seq #[kx, p.2] m)
  (q : ∀ h' t', h'.DictOf knd s.heap.objs.size (es.foldl (fun e p => stored e p.1 p.2) []) → (∀ c o, s.heap.get? c = some o → h'.get? c = some o) → Q (.ref s.heap.objs.size) { s with heap := h', toks := t' }) :
  wpAny (model prog w) A (call (.type "dict") [.ref l]) Q E s := by
 refine callType_codes (Q₁ := fun v s1 => v = .ref s.heap.objs.size ∧ s1 = { s with heap := s.heap.push { cls := .type "dict", data := .dict #[] } }) called_dict (typeCall_dict_1 _) F.entry_dict_init (dict_new _ ⟨rfl, rfl⟩) ?_
 rintro obj s1 ⟨rfl, rfl⟩
 refine ⟨⟨_, Heap.get?_push_size _ rfl, rfl⟩, F.args_dict_init_2 _ _, ?_⟩
 obtain ⟨hp, g, d0, tk, os⟩ := s
 dsimp only at *
 have hl' := Heap.get?_push_of_some { cls := .type "dict", data := .dict #[] } hl
 have hTd : (⟨hp.push { cls := .type "dict", data := .dict #[] }, g, d0, tk, os⟩ : Shared).TypeIs (.ref hp.objs.size) "dict" := ⟨_, Heap.get?_push_size _ rfl, rfl⟩
 have hTz : (⟨hp.push { cls := .type "dict", data := .dict #[] }, g, d0, tk, os⟩ : Shared).TypeIs (.ref l) "list" := ⟨_, hl', rfl⟩
 have hsub := sub_dict_self
 unfold Builtin.«dict.__init__»
 repeat (any_goals (first | assumption | (with_reducible refine keys_none hh hl' fun h' t' k => ?_) | (with_reducible refine iter_l (k _ _ hl') ?_) | wp_step))
 have lt : ∀ {c : Addr} {o : Obj}, hp.get? c = some o → c ≠ hp.objs.size := fun e => Nat.ne_of_lt (Heap.lt_size e)
 have up : ∀ c o, hp.get? c = some o → h'.get? c = some o := fun c o e => k c o (Heap.get?_push_of_some _ e)
 have up2 : ∀ c o, hp.get? c = some o → (h'.push { cls := .type "list_iterator", data := .fields #[.ref l, .int 0 0] }).get? c = some o := fun c o e => Heap.get?_push_of_some _ (up c o e)
 have lt2 : ∀ {c : Addr} {o : Obj}, hp.get? c = some o → c ≠ h'.objs.size := fun e => Nat.ne_of_lt (Heap.lt_size (up _ _ e))
 have nd : h'.objs.size ≠ hp.objs.size := (Nat.ne_of_lt (Heap.lt_size (k _ _ (Heap.get?_push_size _ rfl)))).symm
 refine ⟨plainId_quiet plain_dict_loop _, dict_loop (A := A.in1) (knd := knd) (es := es) (show A.in1.handled = none from hh) nd (lt hl) (lt2 hl) hk hz xs.size 0 _ [] (by omega) (by simp) ⟨_, Heap.get?_push_size _ rfl, rfl, rfl⟩ ⟨_, up2 _ _ hl, rfl, n, rfl⟩ (fun j p hj => ?_) ?_ ?_⟩
 ·obtain ⟨T, kx, o, m, q1, q2, q3, q4, q5⟩ := P j p hj
  exact ⟨T, kx, o, m, q1, lt q3, lt2 q3, q2, up2 _ _ q3, q4, q5⟩
 ·obtain ⟨o, es, ep, ho, r⟩ := Heap.DictOf.new (knd := knd) hp
  exact ⟨o, es, ep, Heap.get?_push_of_some _ (k _ _ ho), r⟩
 ·intro h2 t2 d2 k2
  refine ⟨rfl, q h2 t2 ?_ fun c o e => k2 c o (lt e) (lt2 e) (up2 c o e)⟩
  simpa using d2
end
end DL
namespace L2
open PySem PySem.Spec PyProof.Rows
def cDictP (_ : PySem.W.Frag) : List V → Hp → VK → Prop := fun vs H Q => match vs with
 | [.ref a] => ∃ (ys : List V) (ps : List (Key × V)), H a = some (.lst ys) ∧ ys.length = ps.length ∧ ps.length ≤ 2000 ∧ (∀ (j : Nat) p, ps[j]? = some p → ∃ T, ys[j]? = some (.ref T) ∧ H T = some (.tup [kV p.1, p.2])) ∧ ∀ p H', New H p (.dK (mergeK [] ps)) H' → Q (.ref p) H'
 | _ => False
theorem pairsKV {F : Nat → Key × V → Key × Value → Prop} : ∀ (ps : List (Key × V)) (m : Nat), (∀ (j : Nat) p, ps[j]? = some p → ∃ u, RelV p.2 u ∧ F (m + j) p (p.1, u)) →
  ∃ es : List (Key × Value), es.length = ps.length ∧ (∀ (j : Nat) e, es[j]? = some e → ∃ p, ps[j]? = some p ∧ F (m + j) p e) ∧ ∀ (kvs : List (Key × V)) (ws : List (Key × Value)), KV kvs ws → KV (ps.foldl (fun acc kv => putK acc kv.1 kv.2) kvs) (es.foldl (fun e p => stored e p.1 p.2) ws)
 | [], m, _ => ⟨[], rfl, fun j e h => by simp at h, fun kvs ws r => r⟩
 | p :: r, m, h => by
  obtain ⟨u, ru, fu⟩ := h 0 p rfl
  obtain ⟨es, hl, he, hk⟩ := pairsKV r (m + 1) fun j p' hj => by
   obtain ⟨u', h1, h2⟩ := h (j + 1) p' (by simpa using hj)
   exact ⟨u', h1, by rw [show m + 1 + j = m + (j + 1) by omega]; exact h2⟩
  refine ⟨(p.1, u) :: es, by simp [hl], fun j e hj => ?_, fun kvs ws rr => hk _ _ (rr.put p.1 ru)⟩
  cases j with
  | zero =>
   have : (p.1, u) = e := by simpa using hj
   subst this
   exact ⟨p, rfl, fu⟩
  | succ j =>
   obtain ⟨p', h1, h2⟩ := he j e (by simpa using hj)
   exact ⟨p', by simpa using h1, by rw [show m + (j + 1) = m + 1 + j by omega]; exact h2⟩
theorem c_dictP {X : Cx} (hc : X.calm = true) : CallR X (.type "dict") (cDictP X.K) := by
 intro pins s σ H xs us Q I r h
 match xs, h with
 | [.ref a], h =>
  obtain ⟨ys, ps, hL, hl, hz, hp, q⟩ := h
  obtain ⟨u1, rfl, e1⟩ := vals1 r
  cases e1
  obtain ⟨z, its, n, rv, hlen, hget⟩ := I.lstM hL
  have item : ∀ (j : Nat) p, ps[j]? = some p → ∃ u, RelV p.2 u ∧ ∃ T kx o m, its[j]? = some (.ref T) ∧ (mixKind X.prog X.w).is p.1 kx = true ∧ s.heap.get? T = some o ∧ o.cls = .type "tuple" ∧ o.data = .seq #[kx, u] m := fun j p hj => by
   obtain ⟨T, hT, hH⟩ := hp j p hj
   obtain ⟨uT, h1, h2⟩ := rv.get hT
   cases h2
   obtain ⟨itt, rt, ⟨o, ho, hcl, m, hda⟩, _⟩ := I.tuple (SqT.of hH)
   obtain ⟨w1, w2, rfl, r1, r2⟩ := Vals.two rt
   exact ⟨w2, r2, T, w1, o, m, h1, kV_is r1, ho, hcl, hda⟩
  obtain ⟨es, hel, hes, hkv⟩ := pairsKV (F := fun j p e => ∃ T kx o m, its[j]? = some (.ref T) ∧ (mixKind X.prog X.w).is e.1 kx = true ∧ s.heap.get? T = some o ∧ o.cls = .type "tuple" ∧ o.data = .seq #[kx, e.2] m) ps 0 fun j p hj => by
   obtain ⟨u, h1, T, kx, o, m, h2⟩ := item j p hj
   exact ⟨u, h1, T, kx, o, m, by rw [Nat.zero_add]; exact h2⟩
  refine DL.call_dict (knd := mixKind X.prog X.w) (es := es) (I.ok.hd hc) hget (by rw [List.size_toArray]; omega) (by rw [List.size_toArray]; omega) (fun j p hj => ?_) fun h2 t2 dd k2 => ?_
  ·obtain ⟨p', _, T, kx, o, m, q1, q2, q3, q4, q5⟩ := hes j p hj
   exact ⟨T, kx, o, m, by rw [Nat.zero_add] at q1; simpa using q1, q2, q3, q4, q5⟩
  ·have hfree : H s.heap.objs.size = none := I.hok.fresh (Nat.le_refl _)
   have rel : KV (mergeK [] ps) (es.foldl (fun e p => stored e p.1 p.2) []) := hkv [] [] .nil
   have hlen2 : (mergeK [] ps).length ≤ sizeLine := by
    have h1 := length_mergeK ps []
    rw [List.length_nil] at h1
    rw [sizeLine_eq]; omega
   have hsm : ((s.heap.objs.size : Addr) == sysModules) = false := beq_eq_false_iff_ne.mpr (Ne.symm (Nat.ne_of_lt I.big))
   refine ⟨.ref s.heap.objs.size, upd H s.heap.objs.size (.dK (mergeK [] ps)), ?_, rfl, q _ _ ⟨hfree, rfl⟩⟩
   exact I.dz (ch := []) (h' := h2) (t' := t2) (fun b hb => nomatch hb) (Nat.le_refl _) (fun b o _ e => k2 b o e) (dk_new hlen2 hsm rel dd)
end L2
set_option maxHeartbeats 4000000
namespace EX
open PySem
structure Lv (S : List Addr) (e : Addr) (old : List Addr) (cls : Value) (h h' : Heap) (T : Addr) : Prop where
 ge : h.objs.size ≤ T
 exc : ∃ oe vs, h'.get? e = some oe ∧ oe.cls = cls ∧ oe.data = .fields vs ∧ vs[1]? = some (.ref T) ∧ oe.dict = none
 tb : ∃ oT ts, h'.get? T = some oT ∧ oT.data = .fields ts ∧ ts[3]? = some .none
 keep : ∀ b o, b ∉ S → b ≠ e → b ∉ old → h.get? b = some o → h'.get? b = some o
 slot : ∀ b o, b ∈ S → h.get? b = some o → ∃ sl, h'.get? b = some { o with slots := sl }
section
variable {M : Model} {A : Around} {E : Value → Shared → Prop} {s : Shared}
def Trc (h : Heap) (e : Addr) (vs : Array Value) (old : List Addr) : Prop :=
 (vs[1]? = some .none ∧ old = []) ∨ ∃ T0 oT ts, old = [T0] ∧ vs[1]? = some (.ref T0) ∧ T0 ≠ e ∧ h.get? T0 = some oT ∧ oT.data = .fields ts ∧ ts[3]? = some .none
end
end EX
set_option maxHeartbeats 4000000
namespace L2
open PySem PySem.Spec PyProof.Rows
theorem ObjOk.has {P : Program} {w : World} {H : Hp} {h : Heap} {a : Addr} {o : HO} (x : ObjOk P w H h a o) : ∃ u, h.get? a = some u := by
 cases o with
 | lst xs => obtain ⟨_, _, _, _, e⟩ := x; exact ⟨_, e⟩
 | tup xs => obtain ⟨_, _, _, _, e, _⟩ := x; exact ⟨_, e⟩
 | dK kvs => obtain ⟨_, _, _, _, o, _, _, e, _⟩ := x; exact ⟨_, e⟩
 | dT kvs => obtain ⟨_, _, _, _, o, _, _, e, _⟩ := x; exact ⟨_, e⟩
 | set S n => obtain ⟨o, _, _, _, e, _⟩ := x; exact ⟨_, e⟩
 | ins C dx fs => obtain ⟨_, _, _, e, _⟩ := x; exact ⟨_, e⟩
 | own y => exact x
 | xd fs => obtain ⟨_, ⟨_, _, _, e, _⟩, _⟩ := x; exact ⟨_, e⟩
 | rng lo hi => obtain ⟨_, _, _, e⟩ := x; exact ⟨_, e⟩
 | frz ob u => obtain ⟨e, _⟩ := x; exact ⟨_, e⟩
 | tbl ps => exact ⟨_, (show h.get? a = some _ from x)⟩
 | met f y => exact ⟨_, (show h.get? a = some _ from x)⟩
 | ext φ => obtain ⟨_, e, _⟩ := x; exact e
theorem HOk.unseen {P : Program} {w : World} {H : Hp} {h : Heap} {a : Addr} (x : HOk P w H h) (e : h.get? a = none) : H a = none := by
 cases q : H a with
 | none => rfl
 | some u =>
  obtain ⟨o, z⟩ := (x a u q).has
  rw [e] at z; cases z
def FlOk (X : Cx) (pins : List (Addr × Obj)) (H : Hp) (b : Addr) : Prop :=
 H b = none ∧ b ≠ X.env.locals ∧ b ∉ X.fs ∧ (b ∈ X.ex ∨ X.s₀.heap.get? b = none) ∧ (∀ x c, X.env.cells.lookup x = some c → c ≠ b) ∧ ∀ p ∈ X.pn ++ pins, p.1 ≠ b
structure Fly (X : Cx) (pins : List (Addr × Obj)) (H : Hp) (e C : Addr) (s : Shared) : Prop where
 fe : FlOk X pins H e
 obj : ∃ oe vs old, s.heap.get? e = some oe ∧ oe.cls = .ref C ∧ oe.data = .fields vs ∧ EX.Trc s.heap e vs old ∧ oe.dict = none ∧ ∀ b ∈ old, FlOk X pins H b
section
variable {P : Program} {w : World} {K : PySem.W.Frag} {mg : Str → Option Value} {base : Heap}
end
section
open PySem.W
end
def Cx.plus (X : Cx) (l : List Addr) : Cx := { X with ex := l ++ X.ex }
section
variable {X : Cx} {pins : List (Addr × Obj)} {σ : St} {H : Hp} {s : Shared} {l : List Addr}
theorem unseen_base (I : Inv X pins σ H s) {b : Addr} (hb : X.s₀.heap.get? b = none) (o : Obj) : X.base.get? b ≠ some o := fun z => by
 have := (I.ok.bs b o z).1
 rw [hb] at this; cases this
theorem Inv.plus (I : Inv X pins σ H s) (h : ∀ b ∈ l, FlOk X pins H b) : Inv (X.plus l) pins σ H s := by
 have K := I.ok
 refine ⟨⟨K.mod, K.kind, K.glob, K.blt, K.above, K.inj, K.has, K.cab, K.hd, K.frames, K.stk, fun b hb => ?_, K.bs, K.bsz, fun b o e hb => ?_, fun b hb => ?_, K.funs, K.frf⟩, I.os, I.bare, ?_, I.loc, I.cell, I.free, I.freeC, I.pin, I.hok, I.len⟩
 ·rcases List.mem_append.mp hb with z | z
  ·exact ⟨(h b z).2.1, (h b z).2.2.2.2.1⟩
  ·exact K.exf b z
 ·rcases List.mem_append.mp hb with z | z
  ·rcases (h b z).2.2.2.1 with y | y
   ·exact K.noex b o e y
   ·exact unseen_base I y o e
  ·exact K.noex b o e z
 ·rcases List.mem_append.mp hb with z | z
  ·exact (h b z).2.2.1
  ·exact K.exfs b z
 ·have no : ∀ {b : Addr}, b ∉ l ++ X.ex → b ∉ X.ex := fun hb z => hb (List.mem_append_right _ z)
  exact ⟨fun b o e n hb hx => I.base.keep b o e n hb (no hx), fun b o e n hb hx => I.base.slot b o e n hb (no hx), fun b o e n hx => I.base.free b o e n (no hx), fun b o e hx => I.base.there b o e (no hx), I.base.tups, I.base.frzs, I.base.tbls⟩
theorem Inv.minus (I : Inv (X.plus l) pins σ H s) (K : X.Ok) (h : ∀ b ∈ l, b ∈ X.ex ∨ X.s₀.heap.get? b = none) : Inv X pins σ H s := by
 have no : ∀ {b : Addr} {o : Obj}, X.s₀.heap.get? b = some o → b ∉ X.ex → b ∉ l ++ X.ex := fun {b o} e hb z => by
  rcases List.mem_append.mp z with y | y
  ·rcases h b y with u | u
   ·exact hb u
   ·rw [u] at e; cases e
  ·exact hb y
 exact ⟨K, I.os, I.bare, ⟨fun b o e n hb hx => I.base.keep b o e n hb (no e hx), fun b o e n hb hx => I.base.slot b o e n hb (no e hx), fun b o e n hx => I.base.free b o e n (no e hx), fun b o e hx => I.base.there b o e (no e hx), I.base.tups, I.base.frzs, I.base.tbls⟩,
  I.loc, I.cell, I.free, I.freeC, I.pin, I.hok, I.len⟩
theorem Inv.turn {h' : Heap} (I : Inv X pins σ H s) (h : ∀ b ∈ l, FlOk X pins H b)
  (keep : ∀ b o, b ∉ frs X.stack → b ∉ l → s.heap.get? b = some o → h'.get? b = some o) (slot : ∀ b o, b ∈ frs X.stack → s.heap.get? b = some o → ∃ sl, h'.get? b = some { o with slots := sl }) : Inv X pins σ H { s with heap := h' } := by
 have I1 := I.plus h
 have st : ∀ b, H b ≠ none → b ∉ frs X.stack ∧ b ∉ l := fun b n => ⟨fun z => n (I.stkFree b z), fun z => n (h b z).1⟩
 have u : Un (frs X.stack) l H H s.heap h' := by
  refine ⟨fun b o e n hb hx => keep b o hb hx e, fun b o e n hb hx => slot b o hb e, fun b o e n hx => n, fun b o e hx => ?_, fun _ _ e => e, fun _ _ _ e => e, fun b ps e => ⟨#[], by rw [e]; simp⟩⟩
  by_cases hb : b ∈ frs X.stack
  ·obtain ⟨sl, q⟩ := slot b o hb e
   exact ⟨_, q⟩
  ·exact ⟨o, keep b o hb hx e⟩
 have hok : HOk X.prog X.w H h' := fun b u e1 => by
  refine (I.hok b u e1).stay (fun c v hc hv => ?_) (fun _ z => z) fun _ _ z => z
  have n : H c ≠ none := fun z => by
   rcases hc with y | y
   ·rw [y, e1] at z; cases z
   ·rw [y] at z; cases z
  exact keep c v (st c n).1 (st c n).2 hv
 exact Inv.minus (l := l) (I1.call (g' := s.gens) (d' := s.drawn) (t' := s.toks) (ch := l) u hok I.bare fun b hb => ⟨.inl (List.mem_append_left _ hb), (h b hb).2.1, (h b hb).2.2.2.2.1, (h b hb).2.2.2.2.2⟩) I.ok fun b hb => (h b hb).2.2.2.1
structure Held (X : Cx) (pins : List (Addr × Obj)) (H : Hp) (e C T : Addr) (s : Shared) : Prop where
 fe : FlOk X pins H e
 fT : FlOk X pins H T
 ne : T ≠ e
 exc : ∃ oe vs, s.heap.get? e = some oe ∧ oe.cls = .ref C ∧ oe.data = .fields vs ∧ vs[1]? = some (.ref T) ∧ oe.dict = none
 tb : ∃ oT ts, s.heap.get? T = some oT ∧ oT.data = .fields ts ∧ ts[3]? = some .none
theorem again {e C T : Addr} {Q : Unit → Shared → Prop} {A : Around} (I : Inv X pins σ H s) (hd : Held X pins H e C T s)
  (q : ∀ h', Inv X pins σ H { s with heap := h' } → Held X pins H e C T { s with heap := h' } → Q () { s with heap := h' }) {E : Value → Shared → Prop} :
  wpAny (model X.prog X.w) A (setFlight (.ref e) none) Q E s := by
 obtain ⟨fe, fT, ne, ⟨oe, vs, h1, h2, h3, h4, h5⟩, ⟨oT, ts, t1, t2, t3⟩⟩ := hd
 unfold setFlight
 refine wpAny_bind (wpAny_field h1 h3 h4 ?_)
 rw [if_pos (show (Value.ref T != Value.none) = true by simp)]
 refine wpAny_setField t1 t2 (Array.getElem?_eq_some_iff.mp t3).1 ?_
 have d4 := Obj.data_mapFields t2 (·.setIfInBounds 3 ((none : Option Addr).elim Value.none fun f => rawInt f))
 have ot : ∀ b, b ≠ T → (s.heap.update T (Obj.mapFields (·.setIfInBounds 3 ((none : Option Addr).elim Value.none fun f => rawInt f)))).get? b = s.heap.get? b := fun b hb => Heap.get?_update_other _ _ (Ne.symm hb)
 have notT : ∀ b, b ∈ frs X.stack → b ≠ T := fun b hb z => by
  obtain ⟨_, o, ho, nf⟩ := I.stack.mem hb
  rw [z, t1] at ho; cases ho
  exact nf ts t2
 refine q _ (I.turn (l := [T]) (fun b hb => ?_) (fun b o hb hl ho => ?_) fun b o hb ho => ?_) ⟨fe, fT, ne, ⟨oe, vs, (ot e (Ne.symm ne)).trans h1, h2, h3, h4, h5⟩, ⟨_, _, Heap.get?_update_self _ t1 (Obj.isFreed_of_fields d4), d4, ?_⟩⟩
 ·rw [List.mem_singleton.mp hb]; exact fT
 ·exact (ot b (fun z => hl (by simp [z]))).trans ho
 ·exact ⟨o.slots, (ot b (notT b hb)).trans ho⟩
 ·simp [(Array.getElem?_eq_some_iff.mp t3).1]
end
def mroIn (K : PySem.W.Frag) (C : Addr) : List Value := match K.lookup C with
 | some ⟨_, _, .cls cd, _⟩ => cd.mro
 | _ => []
section
open PySem.W
end
def Cx.tr (X : Cx) (pins : List (Addr × Obj)) (Ex : St → XK) : Cx :=
 { X with pn := X.pn ++ pins, xe := fun er s => ∃ σ e C H, er = .ref e ∧ Inv X pins σ H s ∧ Fly X pins H e C s ∧ Ex σ (.ref e) (some C) H }
section
variable {X : Cx} {pins : List (Addr × Obj)} {σ : St} {H : Hp} {s : Shared} {e C T : Addr} {D : Ends} {f : Flow} {Ex : St → XK}
theorem Inv.tr (I : Inv X pins σ H s) (Ex : St → XK) : Inv (X.tr pins Ex) [] σ H s :=
 ⟨⟨I.ok.mod, I.ok.kind, I.ok.glob, I.ok.blt, I.ok.above, I.ok.inj, I.ok.has, I.ok.cab, I.ok.hd, I.ok.frames, I.ok.stk, I.ok.exf, I.ok.bs, I.ok.bsz, I.ok.noex, I.ok.exfs, I.ok.funs, I.ok.frf⟩, I.os, I.bare, I.base, I.loc, I.cell, I.free, I.freeC, fun p hp => I.pin p (by rw [List.append_nil] at hp; exact hp), I.hok, I.len⟩
end
section
variable {X : Cx} {x : Str} {np pos : Pos} {Dc : Addr} {b₀ : Stmt} {body : List Stmt} {rest : List ExceptHandler} {hd : Addr → Addr → TS} {ts : TS}
end
section
variable {X : Cx} {k : Nat} {f C : Addr} {fd : FuncData} {ps : List Str} {sp : Sp} {dvs : List V} {ds : List Value} {Ex : St → XK} {x m : Str} {p pos apos : Pos} {e o : Expr} {es : List Expr} {ta : TE} {t : TA}
end
def excAt (a C : Addr) : Heap → Prop := fun h => ∃ o vs, h.get? a = some o ∧ o.cls = .ref C ∧ o.data = .fields vs ∧ o.dict = none
def xo (a C : Addr) : HO := .ext (excAt a C)
section
variable {X : Cx} {pins : List (Addr × Obj)} {σ : St} {H : Hp} {s : Shared} {e C T : Addr}
theorem Inv.seen {oe : Obj} (I : Inv X pins σ H s) (fe : FlOk X pins H e) (ho : s.heap.get? e = some oe) (hc : oe.cls = .ref C) {vs : Array Value} (hf : oe.data = .fields vs) (hdn : oe.dict = none) : Inv X pins σ (upd H e (xo e C)) s := by
 have ne : ∀ {b u}, H b = some u → b ≠ e := fun {b u} h z => by rw [z, fe.1] at h; cases h
 have up : ∀ {b u}, H b = some u → upd H e (xo e C) b = some u := fun {b u} h => (upd_ne (ne h)).trans h
 refine ⟨I.ok, I.os, I.bare, ⟨I.base.keep, I.base.slot, fun b o e1 n hx => ?_, I.base.there, fun b xs h => up (I.base.tups b xs h), fun b o u h => up (I.base.frzs b o u h), fun b ps h => ?_⟩, I.loc, I.cell, (upd_ne (Ne.symm fe.2.1)).trans I.free, fun x c h => (upd_ne (fe.2.2.2.2.1 x c h)).trans (I.freeC x c h), fun p hp => ?_, fun b u h => ?_, I.len⟩
 ·refine (upd_ne fun z => ?_).trans (I.base.free b o e1 n hx)
  rcases fe.2.2.2.1 with y | y
  ·exact hx (z ▸ y)
  ·rw [z, y] at e1; cases e1
 ·obtain ⟨more, q⟩ := I.base.tbls b ps h
  exact ⟨more, up q⟩
 ·obtain ⟨a1, a2, a3⟩ := I.pin p hp
  exact ⟨a1, (upd_ne (fe.2.2.2.2.2 p hp)).trans a2, a3⟩
 ·by_cases hb : b = e
  ·rw [hb, upd_same] at h
   cases h
   rw [hb]
   exact ⟨⟨oe, vs, ho, hc, hf, hdn⟩, ⟨oe, ho⟩, fun h1 h2 ⟨o, vs, p1, p2⟩ k => ⟨o, vs, k o p1, p2⟩⟩
  ·rw [upd_ne hb] at h
   exact (I.hok b u h).stay (fun c v _ q => q) (fun c q => up q) fun c xs q => up q
end
section
open PySem.W PySem.Calls
variable {prog : Program} {w : World} {A : Around} {E : Value → Shared → Prop} {s : Shared} {K : Frag} {a C : Addr}
end
structure RoomM (k : Nat) (A : Around) : Prop where
 dp : A.depth + 3 * k + 5 < recursionLimit
 un : A.units + 16 * k + 200 < cLine
theorem Room.m {k : Nat} {A : Around} (r : Room k A) : RoomM k A := ⟨r.dp, r.un⟩
structure FnOkM (P : Program) (w : World) (K : PySem.W.Frag) (mg : Str → Option Value) (base : Heap) (CX : CXT) (k : Nat) (f : Addr) (fd : FuncData) (ps : List Str) (sp : Sp) : Prop where
 len : ∀ vs H Q E, sp vs H Q E → vs.length = ps.length
 run : ∀ (A : Around) (outer : List Env) (s : Shared) (H : Hp) (args : Args) (us : List Value) (vs : List V) (Q : VK) (E : XK), RoomM k A → Env0 P w K mg base A outer s H → BindsTo s fd args (ps.zip us) → Vals vs us → sp vs H Q E →
  codeAny (model P w) A (.call (.ref f) args) (CR CX outer P w H s Q E) s
section
variable {X : Cx} {CX : CXT} {k : Nat} {f C : Addr} {fd : FuncData} {ps : List Str} {sp : Sp} {dvs : List V} {ds : List Value} {E : XK} {x m : Str} {p pos apos : Pos} {e o : Expr} {es : List Expr} {ta : TE} {t : TA}
end
end L2
set_option maxHeartbeats 4000000
namespace DT
open PySem
section
variable {prog : Program} {w : World} {A : Around} {E : Value → Shared → Prop} {s : Shared} {d it : Addr} {od : Obj} {es : Array DictEntry} {ep i : Nat}
theorem tyD (gd : s.heap.get? d = some od) (xd : od.ExactDict) : s.TypeIs (.ref d) "dict" := ⟨od, gd, xd.1⟩
theorem len_meets (d : Addr) (es : Array DictEntry) (nd : (d == sysModules) = false) : MeetsIn prog w (Builtin.«dict.__len__» ⟨[.ref d], []⟩) (fun _ R s => (∃ od ep, s.heap.get? d = some od ∧ od.data = .dict es ep) ∧ R (.ok (.ret (.int es.size s.toks))) { s with toks := s.toks + 1 }) :=
 .of_wp fun A R s ⟨⟨od, ep, gd, dd⟩, q⟩ => by
  show wpAny _ _ (dictSize d >>= _) _ _ s; unfold dictSize; refine wpAny_bind (wpAny_bind (wpAny_dictEntries gd dd (wpAny_pure ?_)))
  show wpAny _ _ (Builtin.Dict.pendingCount d >>= _) _ _ s; refine wpAny_bind (wpAny_pendingCount_other nd (wpAny_ret_mkInt ?_)); rw [Nat.add_zero]; exact q
theorem len_dict {Q : Value → Shared → Prop} (nd : (d == sysModules) = false) (gd : s.heap.get? d = some od) (xd : od.ExactDict) (dd : od.data = .dict es ep) (fit : (es.size : Int) < 2 ^ 63) (q : Q (.int es.size (s.toks + 1)) { s with toks := s.toks + 1 + 1 }) : wpAny (model prog w) A (call (.builtin "len") [.ref d]) Q E s := by
 refine Calls.call_function_entry kind_len plain_len entry_len (args_len1 _) ?_
 unfold Builtin.«len»; refine wpAny_bind (m := oneArg "len" _) (wpAny_pure ?_)
 refine wpAny_bind (m := callSpecial? (.ref d) (Str.ofString "__len__")) (wpAny_callSpecial?_slot (name := Str.ofString "__len__") (tyD gd xd) F.slot_dict_len (call_meetsIn F.slot_dict_len (tyD gd xd) F.entry_dict_len (F.args_dict_len_1 _) (len_meets d es nd) ⟨⟨od, ep, gd, dd⟩, ?_⟩))
 show wpAny _ _ _ _ _ { s with toks := s.toks + 1 }; refine wpAny_bind (wpAny_holding (wpAny_pure ?_)); refine wpAny_bind (wpAny_letGo ?_)
 show wpAny _ _ (if ((es.size : Nat) : Int) < 0 then _ else _) _ _ _; rw [if_neg (by omega)]
 show wpAny _ _ (if ((es.size : Nat) : Int) ≥ 2 ^ 63 then _ else _) _ _ _; rw [if_neg (by omega)]
 exact wpAny_bind (wpAny_mkInt (wpAny_pure ⟨_, rfl, q⟩))
theorem iter_dict {Q : Value → Shared → Prop} (nd : (d == sysModules) = false) (gd : s.heap.get? d = some od) (xd : od.ExactDict) (dd : od.data = .dict es ep)
  (q : Q (.ref s.heap.objs.size) { s with heap := s.heap.push { cls := .type "dict_keyiterator", data := .fields #[.ref d, .int 0 0, .int es.size 0, .int ep 0] } }) : wpAny (model prog w) A (pyIter (.ref d)) Q E s := by
 refine wpAny_pyIter_slot (tyD gd xd) F.slot_dict_iter (wpAny_call_entry F.slot_dict_iter (tyD gd xd) F.entry_dict_iter ?_ (F.args_dict_iter_1 _))
 unfold Builtin.«dict.__iter__»; refine wpAny_bind ?_; unfold Builtin.Dict.dictSlotNone; refine wpAny_bind (wpAny_notOrdered_dict (tyD gd xd) ?_)
 show wpAny _ _ (pure (Value.ref d)) _ _ s; refine wpAny_pure ?_
 show wpAny _ _ (Builtin.Dict.showsAll d >>= _) _ _ s; unfold Builtin.Dict.showsAll; rw [if_neg (by rw [nd]; exact Bool.false_ne_true)]
 refine wpAny_bind (wpAny_pure (wpAny_bind (wpAny_dictEntries gd dd (wpAny_bind (wpAny_dictEpoch gd dd ?_)))))
 refine wpAny_bind (wpAny_newObj_type (wpAny_pure ⟨_, rfl, "dict_keyiterator", _, ⟨_, Heap.get?_push_size _ rfl, rfl⟩, F.slot_dict_keyiterator_next.lookup, ?_⟩))
 simpa [rawInt] using q
theorem next_dict {e : DictEntry} {Q : Option Value → Shared → Prop} (st : s.heap.IsKeyIter it d i es.size ep) (gd : s.heap.get? d = some od) (dd : od.data = .dict es ep) (hx : es[i]? = some e)
  (q : ∀ h', h'.IsKeyIter it d (i + 1) es.size ep → Heap.SameBut it s.heap h' → Q (some e.key) { s with heap := h' }) : wpAny (model prog w) A (pyNext (.ref it)) Q E s := by
 obtain ⟨o, go, hc, hf⟩ := id st
 unfold pyNext; refine wpAny_bind (wpAny_attempt (wpAny_callSpecial?_slot (name := Str.ofString "__next__") st.typeIs F.slot_dict_keyiterator_next (wpAny_call_entry F.slot_dict_keyiterator_next st.typeIs F.entry_dict_keyiterator_next ?_ (F.args_dict_keyiterator_next_1 _))))
 refine wpAny_bind (wpAny_pure (wpAny_bind (wpAny_bind ?_)))
 first | refine wpAny_bind (wpAny_typeNameOfWhole_keyiter st.typeIs (wpAny_pure ?_)) | refine wpAny_bind (wpAny_typeNameOf_keyiter st.typeIs (wpAny_pure ?_))
 refine wpAny_bind (wpAny_fieldsOf go hf ?_)
 simp only [show Builtin.Dict_items.ownsTuple "dict_keyiterator" = false by decide, Bool.false_eq_true, if_false]
 show wpAny _ _ (if (Value.ref d == Value.none) = true then _ else _) _ _ s; rw [if_neg (show ¬ ((Value.ref d == Value.none) = true) from Bool.false_ne_true)]
 refine wpAny_bind (wpAny_pure (wpAny_bind (wpAny_dictEntries gd dd ?_))); rw [if_neg (by simp)]
 refine wpAny_bind (wpAny_pure (wpAny_bind (wpAny_dictEpoch gd dd ?_))); rw [if_neg (by simp)]; refine wpAny_pure ?_
 simp only [show ¬ ((i : Int) < 0) from by omega, if_false, Int.toNat_natCast, hx]; refine wpAny_bind ?_
 first | refine wpAny_bind (wpAny_typeNameOfWhole_keyiter st.typeIs (wpAny_pure ?_)) | refine wpAny_bind (wpAny_typeNameOf_keyiter st.typeIs (wpAny_pure ?_))
 refine wpAny_bind (wpAny_isOneOf_keyiter st.typeIs ?_)
 show wpAny _ _ (setField (.ref it) 1 (rawInt ((i : Int) + 1)) >>= _) _ _ s; refine wpAny_bind (wpAny_setField go hf (by simp) ?_)
 have st' : (s.heap.update it (Obj.mapFields (·.setIfInBounds 1 (rawInt ((i : Int) + 1))))).IsKeyIter it d (i + 1) es.size ep := ⟨_, Heap.get?_update_self _ go (Obj.isFreed_of_fields (Obj.data_mapFields hf _)), (Obj.cls_mapFields ..).trans hc, by rw [Obj.data_mapFields hf]; simp [rawInt]⟩
 refine wpAny_bind (wpAny_holding ?_); refine wpAny_bind (wpAny_isOneOf_keyiter (s := { s with heap := s.heap.update it (Obj.mapFields (·.setIfInBounds 1 (rawInt ((i : Int) + 1)))) }) st'.typeIs ?_)
 show wpAny _ _ (pure e.key) _ _ _; exact wpAny_pure (wpAny_pure ⟨_, rfl, wpAny_pure (q _ st' (Heap.SameBut.update ..))⟩)
theorem end_dict {Q : Option Value → Shared → Prop} (hh : A.handled = none) (st : s.heap.IsKeyIter it d i es.size ep) (gd : s.heap.get? d = some od) (dd : od.data = .dict es ep) (hx : es[i]? = none)
  (q : ∀ h', Heap.ExtBut it s.heap h' → Q none { s with heap := h' }) : wpAny (model prog w) A (pyNext (.ref it)) Q E s := by
 obtain ⟨o, go, hc, hf⟩ := id st
 unfold pyNext; refine wpAny_bind (wpAny_attempt (wpAny_callSpecial?_slot (name := Str.ofString "__next__") st.typeIs F.slot_dict_keyiterator_next (wpAny_call_entry F.slot_dict_keyiterator_next st.typeIs F.entry_dict_keyiterator_next ?_ (F.args_dict_keyiterator_next_1 _))))
 refine wpAny_bind (wpAny_pure (wpAny_bind (wpAny_bind ?_)))
 first | refine wpAny_bind (wpAny_typeNameOfWhole_keyiter st.typeIs (wpAny_pure ?_)) | refine wpAny_bind (wpAny_typeNameOf_keyiter st.typeIs (wpAny_pure ?_))
 refine wpAny_bind (wpAny_fieldsOf go hf ?_)
 simp only [show Builtin.Dict_items.ownsTuple "dict_keyiterator" = false by decide, Bool.false_eq_true, if_false]
 show wpAny _ _ (if (Value.ref d == Value.none) = true then _ else _) _ _ s; rw [if_neg (show ¬ ((Value.ref d == Value.none) = true) from Bool.false_ne_true)]
 refine wpAny_bind (wpAny_pure (wpAny_bind (wpAny_dictEntries gd dd ?_))); rw [if_neg (by simp)]
 refine wpAny_bind (wpAny_pure (wpAny_bind (wpAny_dictEpoch gd dd ?_))); rw [if_neg (by simp)]; refine wpAny_pure ?_
 simp only [show ¬ ((i : Int) < 0) from by omega, if_false, Int.toNat_natCast, hx]; refine wpAny_bind ?_
 first | refine wpAny_bind (wpAny_typeNameOfWhole_keyiter st.typeIs (wpAny_pure ?_)) | refine wpAny_bind (wpAny_typeNameOf_keyiter st.typeIs (wpAny_pure ?_))
 show wpAny _ _ (setField (.ref it) 0 .none >>= _) _ _ s; refine wpAny_bind (wpAny_setField go hf (by simp) ?_)
 show wpAny _ _ (newExc (.type "StopIteration") [] >>= _) _ _ _; refine wpAny_bind ?_; simp only [newExc, newTuple]; refine wpAny_bind (wpAny_newObj_type ?_ (by size_fits))
 refine wpAny_bind (m := firstArgMember _ _) (wpAny_of_eq (a := Value.none) (by first | rfl | (simp only [firstArgMember]; rfl)) (wpAny_newObj_type ?_ (by size_fits)))
 simp only [raiseNew]; refine wpAny_bind (wpAny_handled ?_); rw [show A.in1.handled = none from hh]; refine wpAny_bind (wpAny_pure (wpAny_throw ?_))
 refine wpAny_bind (wpAny_isInstance (T := "StopIteration") (b := true) ⟨_, Heap.get?_push_size _ rfl, rfl⟩ isSubtype_stop ?_); exact wpAny_pure (q _ (((Heap.SameBut.update ..).extBut.push _).push _))
theorem self_dict {n : Nat} {Q : Value → Shared → Prop} (st : s.heap.IsKeyIter it d i n ep) (q : Q (.ref it) s) : wpAny (model prog w) A (pyIter (.ref it)) Q E s := by
 refine wpAny_pyIter_slot st.typeIs F.slot_dict_keyiterator_iter (wpAny_call_entry F.slot_dict_keyiterator_iter st.typeIs F.entry_dict_keyiterator_iter ?_ (F.args_dict_keyiterator_iter_1 _))
 show wpAny _ _ (ret (.ref it)) _ _ s; exact wpAny_pure ⟨_, rfl, "dict_keyiterator", _, st.typeIs, F.slot_dict_keyiterator_next.lookup, q⟩
end
end DT
namespace L2
open PySem PySem.Spec PyProof.Rows
section
variable {X : Cx} {pins : List (Addr × Obj)} {σ : St} {H : Hp} {s : Shared} {d : Addr} {kvs : List (List Key × V)} {o : Obj}
theorem Inv.dT (I : Inv X pins σ H s) (e : Rd H d (.dT kvs)) : kvs.length ≤ sizeLine ∧ (d == sysModules) = false ∧ ∃ (xs : List (List Key × Addr × Value)) (od : Obj) (es : Array DictEntry) (ep : Nat), KT H kvs xs ∧ s.heap.get? d = some od ∧ od.ExactDict ∧ od.data = .dict es ep ∧ es.size = kvs.length ∧
  ∀ (i : Nat) p, kvs[i]? = some p → ∃ (b : Addr) (h : Int) (v : Value), es[i]? = some ⟨h, .ref b, v⟩ ∧ H b = some (.tup (p.1.map kV)) := by
 obtain ⟨z, y, xs, r, od, es, ep, h1, h2, h3, h4, h5⟩ := (show ObjOk X.prog X.w H s.heap d (.dT kvs) from rd_of I.hok e)
 have hl : kvs.length = xs.length := Paired.length r
 have hs : es.size = kvs.length := by rw [hl, ← Array.length_toList, h4, List.length_map]
 refine ⟨z, y, xs, od, es, ep, r, h1, h2, h3, hs, fun i p hp => ?_⟩
 have at_ : ∀ {l : List (List Key × V)} {m : List (List Key × Addr × Value)} {j : Nat} {q : List Key × V}, KT H l m → l[j]? = some q → ∃ x, m[j]? = some x ∧ H x.2.1 = some (.tup (q.1.map kV)) := by
  intro l m j q t
  induction t generalizing j with
  | nil => intro z; simp at z
  | @cons a b as bs hq _ ih =>
   intro z
   cases j with
   | zero =>
    have : a = q := by simpa using z
    subst this
    exact ⟨b, rfl, hq.2.1⟩
   | succ j => exact ih (by simpa using z)
 obtain ⟨x, hx, hH⟩ := at_ r hp
 have : es[i]? = some (entryOfKey (tupleKind (mixKind X.prog X.w)) x) := by rw [← Array.getElem?_toList, h4, List.getElem?_map, hx]; rfl
 exact ⟨x.2.1, _, _, this, hH⟩
theorem Inv.freeze (I : Inv X pins σ H s) (e : H d = some (.dT kvs)) : ∃ od, s.heap.get? d = some od ∧ Inv X pins σ (upd H d (.frz od (.dT kvs))) s := by
 obtain ⟨z, y, xs, r, od, es, ep, h1, h2⟩ := (show ObjOk X.prog X.w H s.heap d (.dT kvs) from I.hok d _ e)
 refine ⟨od, h1, I.write (x := d) (e := d) (h' := s.heap) (t' := s.toks) (by rw [e]; exact trivial) (.inl rfl) (fun b u _ q => q) ⟨od, h1⟩ ⟨h1, z, y, xs, ?_, od, es, ep, h1, h2⟩⟩
 have go : ∀ {l : List (List Key × V)} {m : List (List Key × Addr × Value)}, KT H l m → KT (upd H d (.frz od (.dT kvs))) l m := by
  intro l m t
  induction t with
  | nil => exact .nil
  | cons hq _ ih => exact .cons ⟨hq.1, by rw [upd_ne (ne_of hq.2.1 e (fun z => nomatch z))]; exact hq.2.1, hq.2.2⟩ ih
 exact go r
theorem Inv.unfreeze (I : Inv X pins σ H s) (h0 : ∀ o u, X.H₀ d ≠ some (.frz o u)) (e : H d = some (.frz o (.dT kvs))) : Inv X pins σ (upd H d (.dT kvs)) s := by
 have nn : ∀ {b : Addr}, H b = none → upd H d (.dT kvs) b = none := fun {b} q => by rw [upd_ne (fun z => by rw [z, e] at q; cases q)]; exact q
 have nt : ∀ {b : Addr} {xs : List V}, H b = some (.tup xs) → upd H d (.dT kvs) b = some (.tup xs) := fun {b xs} q => by rw [upd_ne (ne_of q e (fun z => nomatch z))]; exact q
 have nw : ∀ {b x : Addr}, H b = some (.own x) → upd H d (.dT kvs) b = some (.own x) := fun {b xs} q => by rw [upd_ne (ne_of q e (fun z => nomatch z))]; exact q
 refine ⟨I.ok, I.os, I.bare, ⟨I.base.keep, I.base.slot, fun b u q n hx => nn (I.base.free b u q n hx), I.base.there, fun b xs q => nt (I.base.tups b xs q), fun b u v q => ?_, fun b ps q => ?_⟩, I.loc, I.cell, nn I.free, fun x c q => nn (I.freeC x c q), fun p hp => ?_, fun b u q => ?_, I.len⟩
 ·rw [upd_ne (fun z => h0 u v (by rw [← z]; exact q))]; exact I.base.frzs b u v q
 ·obtain ⟨more, hm⟩ := I.base.tbls b ps q
  exact ⟨more, by rw [upd_ne (ne_of hm e (fun z => nomatch z))]; exact hm⟩
 ·obtain ⟨a1, a2, a3⟩ := I.pin p hp
  exact ⟨a1, nn a2, a3⟩
 ·by_cases hb : b = d
  ·subst hb
   rw [upd_same] at q
   cases q
   obtain ⟨_, ok⟩ := (show ObjOk X.prog X.w H s.heap b (.frz o (.dT kvs)) from I.hok b _ e)
   exact ok.stay (fun c v _ r => r) (fun c r => nw r) fun c xs r => nt r
  ·rw [upd_ne hb] at q
   exact (I.hok b u q).stay (fun c v _ r => r) (fun c r => nw r) fun c xs r => nt r
end
def cLenT (_ : PySem.W.Frag) : List V → Hp → VK → Prop := fun vs H Q => match vs with
 | [.ref p] => ∃ kvs, Rd H p (.dT kvs) ∧ Q (.int kvs.length) H
 | _ => False
theorem c_lenT {X : Cx} : CallR X (.builtin "len") (cLenT X.K) := by
 intro pins s σ H xs us Q I r h
 match xs, h with
 | [.ref p], h =>
  obtain ⟨kvs, e, q⟩ := h
  obtain ⟨u1, rfl, e1⟩ := vals1 r
  cases e1
  obtain ⟨z, y, xs, od, es, ep, _, h1, h2, h3, h4, _⟩ := I.dT e
  refine DT.len_dict y h1 h2 h3 (by rw [h4, sizeLine_eq] at *; omega) ⟨.int kvs.length, H, I.tok _, ⟨_, by rw [h4]⟩, q⟩
def Itd (d : Addr) (kvs : List (List Key × V)) (o : Obj) : It :=
 ⟨fun i H => H d = some (.frz o (.dT kvs)) ∧ i < kvs.length, fun i H x H' => H' = H ∧ ∃ p b, kvs[i]? = some p ∧ x = .ref b ∧ H b = some (.tup (p.1.map kV)), fun i H => H d = some (.frz o (.dT kvs)) ∧ kvs.length ≤ i⟩
theorem turn_dT {P : Program} {w : World} {K : PySem.W.Frag} {tg : Expr} (d it : Addr) (kvs : List (List Key × V)) (o : Obj) (es : Array DictEntry) (ep : Nat) (hd : o.data = .dict es ep) (hs : es.size = kvs.length) :
  Turn P w K tg (Itd d kvs o) [it] it (fun i h => h.IsKeyIter it d i es.size ep) where
 mem := by simp
 obj := fun i h st b hb => by
  have e : b = it := by simpa using hb
  subst e
  obtain ⟨o, e, c, q⟩ := st
  exact ⟨o, e, fun v z => by rw [q] at z; cases z⟩
 keep := fun i h h' st k => by
  obtain ⟨o, e, c, q⟩ := st
  exact ⟨o, k it (by simp) o e, c, q⟩
 item := by
  intro X hP hw hK hc i pins s σ H E I hf st hg
  subst hP hw hK
  obtain ⟨f0, f1, f2, f3, f4, f5⟩ := hf it (by simp)
  obtain ⟨hz, hi⟩ := hg
  have g1 : s.heap.get? d = some o := (show ObjOk X.prog X.w H s.heap d (.frz o (.dT kvs)) from I.hok d _ hz).1
  obtain ⟨_, _, xs, od, es', ep', _, h1, h2, h3, h4, h5⟩ := I.dT (.inr ⟨o, hz⟩)
  rw [g1] at h1
  cases h1
  rw [hd] at h3
  cases h3
  obtain ⟨b, hh, v, hx, hb⟩ := h5 i kvs[i] (List.getElem?_eq_getElem hi)
  refine DT.next_dict st g1 hd hx fun h' st' sb => ?_
  have I1 : Inv X pins σ H { s with heap := h' } := I.turned (t' := s.toks) (fun b o hb e => (sb.2 b hb).trans e) f0 f1 f3 f4 f5
  obtain ⟨o', e, c, q⟩ := id st'
  exact ⟨_, rfl, go_of (s := { s with heap := h' }) e c q (by decide) ⟨.ref b, H, I1, rfl, ⟨rfl, _, b, List.getElem?_eq_getElem hi, rfl, hb⟩, st', fun b hb => (hf b hb).1⟩⟩
 done := by
  intro X hP hw hK hc i pins s σ H E I hf st hg
  subst hP hw hK
  obtain ⟨f0, f1, f2, f3, f4, f5⟩ := hf it (by simp)
  obtain ⟨hz, hi⟩ := hg
  have g1 : s.heap.get? d = some o := (show ObjOk X.prog X.w H s.heap d (.frz o (.dT kvs)) from I.hok d _ hz).1
  exact DT.end_dict (I.ok.hd hc) st g1 hd (Array.getElem?_eq_none (by omega)) fun h' eb => ⟨rfl, I.turned (t' := s.toks) (fun b o hb e => eb b o hb e) f0 f1 f3 f4 f5⟩
 self := fun _ _ _ _ _ st h => DT.self_dict st h
def iDT (tl : TE) : TI := fun σ H R => tl σ H fun x H1 => ∃ d kvs, x = .ref d ∧ H1 d = some (.dT kvs) ∧ ∀ o, R (Itd d kvs o) (upd H1 d (.frz o (.dT kvs)))
theorem pi_dT {X : Cx} {tg l : Expr} {tl : TE} (hl : PE X l tl) : PI X tg l (iDT tl) := by
 intro pins s σ H R I h
 refine thn (hl pins s σ H _ I h) fun v s1 ⟨x, H1, I1, r1, q1⟩ => ?_
 obtain ⟨d, kvs, e, hd, q⟩ := q1
 subst e
 cases r1
 obtain ⟨_, y, xs, od, es, ep, _, h1, h2, h3, h4, _⟩ := I1.dT (.inl hd)
 obtain ⟨od', g1, I2⟩ := I1.freeze hd
 rw [h1] at g1
 cases g1
 refine DT.iter_dict y h1 h2 h3 ?_
 refine ⟨s1.heap.objs.size, [s1.heap.objs.size], _, _, _, rfl, I2.kept (t' := s1.toks) fun b o e => Heap.get?_push_of_some _ e, turn_dT d _ kvs od es ep h3 h4, ⟨_, Heap.get?_push_size _ rfl, rfl, rfl⟩, fun b hb => ?_, q od⟩
 have e : b = s1.heap.objs.size := by simpa using hb
 subst e
 exact I2.fpOk (Nat.le_refl _) (I2.hok.fresh (Nat.le_refl _))
def tUnf (t : TS) : TS := fun D σ H => ∃ d kvs, H d = some (.dT kvs) ∧ t { D with nx := fun σ' H' => (∃ o, H' d = some (.frz o (.dT kvs))) ∧ D.nx σ' (upd H' d (.dT kvs)) } σ H
theorem ps_unf {X : Cx} {st : Stmt} {t : TS} (h : PS X st t) : PS X st (tUnf t) := by
 intro pins s σ H D I q
 obtain ⟨d, kvs, hd, q⟩ := q
 have h0 : ∀ o u, X.H₀ d ≠ some (.frz o u) := fun o u e => by
  have := I.base.frzs d o u e
  rw [hd] at this
  cases this
 refine wpAny_mono (h pins s σ H _ I q) (fun f s' z => ?_) fun _ _ z => z
 cases f with
 | next =>
  obtain ⟨σ', H', I', ⟨o, e⟩, q'⟩ := z
  exact ⟨σ', _, I'.unfreeze h0 e, q'⟩
 | ret v => exact z
 | brk => exact z
 | cont => exact z
theorem tFor_dT {te : TE} {g : TG} {tb : TS} {D : Ends} {σ : St} {H : Hp} : tFor (iDT te) g tb D σ H = te σ H (fun x H1 => ∃ d kvs, x = .ref d ∧ H1 d = some (.dT kvs) ∧ ∀ o, ForGoal (Itd d kvs o) g tb D σ (upd H1 d (.frz o (.dT kvs)))) := rfl
section
variable {X : Cx} {pins : List (Addr × Obj)} {σ : St} {H : Hp} {s : Shared}
theorem FpOk.fl {b : Addr} (h : FpOk X pins H b) : FlOk X pins H b := ⟨h.1, h.2.1, h.2.2.1, h.2.2.2.1.imp id fun z => by
 cases e : X.s₀.heap.get? b with
 | none => rfl
 | some o => exact absurd (Heap.lt_size e) (Nat.not_lt.mpr z), h.2.2.2.2.1, h.2.2.2.2.2⟩
theorem Inv.adopt {e : Addr} {o : HO} (I : Inv X pins σ H s) (fe : FlOk X pins H e) (ok : ObjOk X.prog X.w (upd H e o) s.heap e o) : Inv X pins σ (upd H e o) s := by
 have ne : ∀ {b u}, H b = some u → b ≠ e := fun {b u} h z => by rw [z, fe.1] at h; cases h
 have up : ∀ {b u}, H b = some u → upd H e o b = some u := fun {b u} h => (upd_ne (ne h)).trans h
 refine ⟨I.ok, I.os, I.bare, ⟨I.base.keep, I.base.slot, fun b o e1 n hx => ?_, I.base.there, fun b xs h => up (I.base.tups b xs h), fun b o u h => up (I.base.frzs b o u h), fun b ps h => ?_⟩, I.loc, I.cell, (upd_ne (Ne.symm fe.2.1)).trans I.free, fun x c h => (upd_ne (fe.2.2.2.2.1 x c h)).trans (I.freeC x c h), fun p hp => ?_, fun b u h => ?_, I.len⟩
 ·refine (upd_ne fun z => ?_).trans (I.base.free b o e1 n hx)
  rcases fe.2.2.2.1 with y | y
  ·exact hx (z ▸ y)
  ·rw [z, y] at e1; cases e1
 ·obtain ⟨more, q⟩ := I.base.tbls b ps h
  exact ⟨more, up q⟩
 ·obtain ⟨a1, a2, a3⟩ := I.pin p hp
  exact ⟨a1, (upd_ne (fe.2.2.2.2.2 p hp)).trans a2, a3⟩
 ·by_cases hb : b = e
  ·rw [hb, upd_same] at h
   cases h
   rw [hb]
   exact ok
  ·rw [upd_ne hb] at h
   exact (I.hok b u h).stay (fun c v _ q => q) (fun c q => up q) fun c xs q => up q
theorem Inv.turnedL {h' : Heap} {t' : Nat} {l : List Addr} (I : Inv X pins σ H s) (hl : ∀ b ∈ l, FpOk X pins H b) (k : ∀ b o, b ∉ l → s.heap.get? b = some o → h'.get? b = some o) : Inv X pins σ H { s with heap := h', toks := t' } := by
 have nit : ∀ b u, H b = some u → b ∉ l := fun b u e z => by rw [(hl b z).1] at e; cases e
 refine I.step (g' := s.gens) (d' := s.drawn) (ch := l) (fun b hb => ?_) (fun b o _ _ hc e _ => k b o hc e) (fun b o _ _ hc e _ => ⟨o.slots, k b o hc e⟩) (fun _ _ _ _ n => n)
  (fun b o hc e => ⟨o, k b o hc e⟩) (fun _ _ e => e) (fun _ _ _ e => e) (fun b ps e => ⟨#[], by rw [e]; simp⟩) (fun m hm => ?_) (fun b u e => ?_) I.bare
 ·obtain ⟨f0, f1, f2, f3, f4, f5⟩ := hl b hb
  exact ⟨f3, f1, f4, f5⟩
 ·obtain ⟨o, es, ep, ho, r⟩ := hm
  exact ⟨o, es, ep, k _ o (fun z => (hl _ z).2.1 rfl) ho, r⟩
 ·refine (I.hok b u e).stay (fun c v hc q => k c v ?_ q) (fun _ q => q) fun _ _ q => q
  rcases hc with z | z
  ·rw [z]; exact nit b u e
  ·exact nit c _ z
end
def Itdn (hi : Int) (n : Nat) : It := ⟨fun i _ => i < n, fun i H x H' => H' = H ∧ x = .int (hi - i), fun i _ => n ≤ i⟩
theorem turn_down {P : Program} {w : World} {K : PySem.W.Frag} {tg : Expr} (it : Addr) (hi : Int) (n : Nat) : Turn P w K tg (Itdn hi n) [it] it (fun i h => IsRangeIter h it (hi + (i : Nat) * (-1)) ((n : Int) - (i : Nat)) (-1)) where
 mem := by simp
 obj := fun i h st b hb => by
  have e : b = it := by simpa using hb
  subst e
  exact ⟨_, st, fun v z => by
   have z' : Data.fields _ = Data.cell v := z
   cases z'⟩
 keep := fun i h h' st k => k it (by simp) _ st
 item := by
  intro X hP hw hK hc i pins s σ H E I hf st hg
  subst hP hw hK
  obtain ⟨f0, f1, f2, f3, f4, f5⟩ := hf it (by simp)
  have W := Walks.range (prog := X.prog) (w := X.w) (I.ok.hd hc) it hi (-1) n
  refine W.item i s _ _ hg st fun v h' tk hv st' kk => ?_
  obtain ⟨t, rfl⟩ := hv
  have I1 : Inv X pins σ H { s with heap := h', toks := tk } := I.turned (fun b o hb e => kk b o (by simpa using hb) e) f0 f1 f3 f4 f5
  refine ⟨_, rfl, go_of (s := { s with heap := h', toks := tk }) (n := "range_iterator") st' rfl rfl (by decide) ⟨.int (hi - i), H, I1, ⟨t, ?_⟩, ⟨rfl, rfl⟩, st', fun b hb => (hf b hb).1⟩⟩
  congr 1
  omega
 done := by
  intro X hP hw hK hc i pins s σ H E I hf st hg
  subst hP hw hK
  obtain ⟨f0, f1, f2, f3, f4, f5⟩ := hf it (by simp)
  exact wpAny_pyNext_range_end (I.ok.hd hc) st (by have : n ≤ i := hg; omega) fun h' eb => ⟨rfl, I.turned (t' := s.toks) (fun b o hb e => eb b o hb e) f0 f1 f3 f4 f5⟩
 self := fun _ _ _ _ _ st h => wpAny_pyIter_rangeiter st h
theorem fitsL {a : Int} (h1 : -(2 ^ 63) ≤ a) (h2 : a < 2 ^ 63) : Builtin.Range.rangeFitsLong a = true := by
 unfold Builtin.Range.rangeFitsLong
 simp
 omega
theorem small_down {a b : Int} (h1 : -(2 ^ 62) ≤ a) (h2 : a < 2 ^ 62) (h3 : -(2 ^ 62) ≤ b) (h4 : b < 2 ^ 62) : Builtin.Range.small a b (-1) = true := by
 unfold Builtin.Range.small
 rw [PySem.W.rangeSize_downNat, fitsL (by omega) (by omega), fitsL (by omega) (by omega), fitsL (by decide) (by decide), fitsL (a := ((a - b).toNat : Int)) (by omega) (by omega), if_neg (by decide), fitsL (a := b + (-1 + 1)) (by omega) (by omega)]
 simp
section
variable {X : Cx} {tg : Expr}
def iRngD (ta : TA) : TI := fun σ H R => ta σ H fun vs H1 => ∃ i j : Int, vs = [.int i, .int j, .int (-1)] ∧ (-(2 ^ 62) ≤ i ∧ i < 2 ^ 62 ∧ -(2 ^ 62) ≤ j ∧ j < 2 ^ 62) ∧ R (Itdn i (i - j).toNat) H1
theorem pi_rangeD {a b c : Expr} {ta : TA} {p pos : Pos} (hg : Gl X "range") (hm : X.mg "range" = none) (ha : PA X [a, b, c] ta) (hs : starEach [a, b, c] X.env = [(false, eval a X.env), (false, eval b X.env), (false, eval c X.env)] := by rfl) (hs2 : starEach [b, c] X.env = [(false, eval b X.env), (false, eval c X.env)] := by rfl) :
  PI X tg (.Call (.Name "range" p) [a, b, c] [] pos) (iRngD ta) := by
 intro pins s σ H R I h
 refine Call_ (ld_blt I hg hm boot_range (PyProof.Rows.callWith_type1 (thn (ha pos pins s σ H _ I h) fun us s1 ⟨vs, H1, I1, r1, q1⟩ => ?_) (by rw [hs, hs2]) (by rw [hs2]; rfl)))
 obtain ⟨lo, hi, e, ⟨q1, q2, q3, q4⟩, q⟩ := q1
 subst e
 cases r1 with
 | cons r rr =>
 cases rr with
 | cons r' rr =>
 cases rr with
 | cons r'' rr =>
 cases rr
 obtain ⟨t, rfl⟩ := r
 obtain ⟨u, rfl⟩ := r'
 obtain ⟨v, rfl⟩ := r''
 refine call_range_3 (by decide) ?_ (.inl (by unfold Builtin.divisionGoesByPylong; simp; intro z; exact absurd z (by decide)))
 refine wpAny_pyIter_range (IsRange.new ..) (small_down q1 q2 q3 q4) ?_
 have I2 : Inv X pins σ H1 { s1 with heap := s1.heap.push { cls := .type "range", data := .fields #[.int lo t, .int hi u, .int (-1) v] }, toks := s1.toks } := I1.kept fun b o e => Heap.get?_push_of_some _ e
 refine ⟨(s1.heap.push { cls := .type "range", data := .fields #[.int lo t, .int hi u, .int (-1) v] }).objs.size, [(s1.heap.push { cls := .type "range", data := .fields #[.int lo t, .int hi u, .int (-1) v] }).objs.size], _, _, H1, rfl,
  I2.kept (t' := s1.toks) fun b o e => Heap.get?_push_of_some _ e, turn_down _ lo (lo - hi).toNat, ?_, fun b hb => ?_, q⟩
 ·show IsRangeIter _ _ (lo + ((0 : Nat) : Int) * (-1)) ((((lo - hi).toNat : Nat) : Int) - ((0 : Nat) : Int)) (-1)
  rw [PySem.W.rangeSize_downNat, show lo + ((0 : Nat) : Int) * (-1) = lo by omega, show ((((lo - hi).toNat : Nat) : Int) - ((0 : Nat) : Int)) = ((lo - hi).toNat : Int) by omega]
  exact Heap.get?_push_size _ rfl
 ·have e : b = (s1.heap.push { cls := .type "range", data := .fields #[.int lo t, .int hi u, .int (-1) v] }).objs.size := by simpa using hb
  subst e
  exact I2.fpOk (Nat.le_refl _) (I2.hok.fresh (Nat.le_refl _))
end
end L2
set_option maxHeartbeats 4000000
namespace RR
open PySem
theorem sub_ri_reversed : isSubtype (.type "range_iterator") (.type "reversed") = pure false := by rw [isSubtype_type]; kernel_rfl
section
variable {prog : Program} {w : World} {A : Around} {E : Value → Shared → Prop} {s : Shared}
theorem code_rev {r : Addr} {a b : Int} {t u v : Tok} {Q : Value → Shared → Prop} (hr : IsRange s.heap r a b 1 t u v)
  (h : Q (.ref s.heap.objs.size) { s with heap := s.heap.push { cls := .type "range_iterator", data := .fields #[rawInt (a + (Builtin.Range.rangeSize a b 1 - 1) * 1), rawInt (Builtin.Range.rangeSize a b 1), rawInt (-1)] } })
  (hs : (Builtin.Range.rangeFitsLong a && Builtin.Range.rangeFitsLong b && Builtin.Range.rangeFitsLong 1 && Builtin.Range.rangeFitsLong (-1) && Builtin.Range.rangeFitsLong (a - 1) && Builtin.Range.rangeFitsLong (Builtin.Range.rangeSize a b 1)) = true) :
  codeAny (model prog w) A (.call (.builtin "reversed.__new__") ⟨[.type "reversed", .ref r], []⟩) (wants Q E) s := by
 refine codeAny_of_tree ?_
 show wpAny _ A.in1 (do checkBuiltinCall "reversed.__new__" ⟨[.type "reversed", .ref r], []⟩; again (.builtin "reversed.__new__" ⟨[.type "reversed", .ref r], []⟩)) _ _ s
 refine wpAny_bind (wpAny_of_eq (F.newCall_reversed_1 _) (wpAny_pure ⟨plainId_quiet F.plain_reversed_new _, codeAny_builtin F.entry_reversed_new ?_⟩))
 rw [Around.under_plainId F.plain_reversed_new _]
 unfold Builtin.«reversed.__new__»
 refine wpAny_bind (wpAny_of_eq (newClass_reversed _) ?_)
 have ty : s.TypeIs (.ref r) "range" := ⟨_, hr, rfl⟩
 have hm := F.mro_reversed
 wp_walk
 refine wpAny_of_eq F.slot_range_reversed.lookup ?_
 show wpAny _ _ (bindSpecial (.builtin "range.__reversed__") (.ref r) >>= _) _ _ s
 have tb := F.type_range_reversed
 refine wpAny_bind ?_
 unfold bindSpecial
 wp_walk
 refine codeAny_call_builtin F.slot_range_reversed.plain F.entry_range_reversed (F.slot_range_reversed.check _ _ _ _ _ _ _ _ ty (F.args_range_reversed_1 _) ?_)
 unfold Builtin.«range.__reversed__»
 obtain ⟨hp, g, d, tk, os⟩ := s
 repeat (any_goals (first | assumption | wp_step))
 rw [if_pos hs]
 exact h
theorem call_rev {r : Addr} {a b : Int} {t u v : Tok} {Q : Value → Shared → Prop} (hr : IsRange s.heap r a b 1 t u v)
  (hs : (Builtin.Range.rangeFitsLong a && Builtin.Range.rangeFitsLong b && Builtin.Range.rangeFitsLong 1 && Builtin.Range.rangeFitsLong (-1) && Builtin.Range.rangeFitsLong (a - 1) && Builtin.Range.rangeFitsLong (Builtin.Range.rangeSize a b 1)) = true)
  (h : Q (.ref s.heap.objs.size) { s with heap := s.heap.push { cls := .type "range_iterator", data := .fields #[rawInt (a + (Builtin.Range.rangeSize a b 1 - 1) * 1), rawInt (Builtin.Range.rangeSize a b 1), rawInt (-1)] } }) :
  wpAny (model prog w) A (call (.type "reversed") [.ref r]) Q E s := by
 refine callType_other (U := "range_iterator") (Q₁ := fun obj s1 => s1.TypeIs obj "range_iterator" ∧ Q obj s1) (by decide) F.create_reversed ⟨_, _, F.mro_reversed⟩ F.made_reversed sub_ri_reversed (F.typeCall_reversed_1 _) (code_rev hr ⟨⟨_, Heap.get?_push_size _ rfl, rfl⟩, h⟩ hs) fun obj s1 z => z
end
end RR
namespace L2
open PySem PySem.Spec PyProof.Rows
section
variable {X : Cx} {tg : Expr}
def iRevR (ta : TA) : TI := fun σ H R => ta σ H fun vs H1 => ∃ i j : Int, vs = [.int i, .int j] ∧ (-(2 ^ 62) ≤ i ∧ i < 2 ^ 62 ∧ -(2 ^ 62) ≤ j ∧ j < 2 ^ 62) ∧ R (Itdn (i + ((j - i).toNat - 1)) (j - i).toNat) H1
theorem pi_revR {a b : Expr} {ta : TA} {p1 p2 p3 p4 : Pos} (hg1 : Gl X "reversed") (hm1 : X.mg "reversed" = none) (hg2 : Gl X "range") (hm2 : X.mg "range" = none) (ha : PA X [a, b] ta) (hs : starEach [a, b] X.env = [(false, eval a X.env), (false, eval b X.env)] := by rfl) (hs2 : starEach [b] X.env = [(false, eval b X.env)] := by rfl)
  (he2 : starEach [Expr.Call (.Name "range" p2) [a, b] [] p3] X.env = (false, eval (Expr.Call (.Name "range" p2) [a, b] [] p3) X.env) :: starEach [] X.env := by rfl) (hpl2 : (backTo p4 (starEach [] X.env)).any (·.1) = false := by rfl) :
  PI X tg (.Call (.Name "reversed" p1) [.Call (.Name "range" p2) [a, b] [] p3] [] p4) (iRevR ta) := by
 intro pins s σ H R I h
 refine wpAny_Call_Name_kw (ld_blt I hg1 hm1 PyProof.Rows.boot_reversed ?_ (by decide) (by decide))
 refine PyProof.Rows.callWith_type1 ?_ he2 hpl2
 rw [he2]
 show wpAny _ _ (spliced ((false, eval (Expr.Call (.Name "range" p2) [a, b] [] p3) X.env) :: backTo p4 (starEach [] X.env))) _ _ s
 refine Calls.spliced_cons ?_
 refine wpAny_Call_Name_kw (ld_blt I hg2 hm2 boot_range ?_ (by decide) (by decide))
 refine PyProof.Rows.callWith_type1 (thn (ha p3 pins s σ H _ I h) fun us s1 ⟨vs, H1, I1, r1, q1⟩ => ?_) (by rw [hs, hs2]) (by rw [hs2]; rfl)
 obtain ⟨lo, hi, e, ⟨q1, q2, q3, q4⟩, q⟩ := q1
 subst e
 obtain ⟨u1, u2, rfl, e1, e2⟩ := vals2 r1
 obtain ⟨t, rfl⟩ := e1
 obtain ⟨u, rfl⟩ := e2
 refine call_range_2 (Calls.spliced_nil ?_)
 have hsz : Builtin.Range.rangeSize lo hi 1 = ((hi - lo).toNat : Int) := by rw [rangeSize_one]; split <;> omega
 refine RR.call_rev (IsRange.new ..) ?_ ?_
 ·rw [hsz, fitsL (by omega) (by omega), fitsL (by omega) (by omega), fitsL (by decide) (by decide), fitsL (by decide) (by decide), fitsL (a := lo - 1) (by omega) (by omega), fitsL (a := ((hi - lo).toNat : Int)) (by omega) (by omega)]
  rfl
 rw [hsz]
 have I2 : Inv X pins σ H1 { s1 with heap := s1.heap.push { cls := .type "range", data := .fields #[.int lo t, .int hi u, .int 1 s1.toks] }, toks := s1.toks + 1 } := I1.kept fun b o e => Heap.get?_push_of_some _ e
 generalize hk : s1.heap.push { cls := .type "range", data := .fields #[.int lo t, .int hi u, .int 1 s1.toks] } = k2 at *
 have st : IsRangeIter (k2.push { cls := .type "range_iterator", data := .fields #[rawInt (lo + (((hi - lo).toNat : Int) - 1) * 1), rawInt ((hi - lo).toNat : Int), rawInt (-1)] }) k2.objs.size ((lo + (((hi - lo).toNat : Int) - 1)) + ((0 : Nat) : Int) * (-1)) ((((hi - lo).toNat : Nat) : Int) - ((0 : Nat) : Int)) (-1) := by
  rw [show (lo + (((hi - lo).toNat : Int) - 1)) + ((0 : Nat) : Int) * (-1) = lo + (((hi - lo).toNat : Int) - 1) * 1 by omega, show ((((hi - lo).toNat : Nat) : Int) - ((0 : Nat) : Int)) = ((hi - lo).toNat : Int) by omega]
  exact Heap.get?_push_size _ rfl
 refine wpAny_pyIter_rangeiter st ?_
 refine ⟨k2.objs.size, [k2.objs.size], _, _, H1, rfl, I2.kept (t' := s1.toks + 1) fun b o e => Heap.get?_push_of_some _ e, turn_down _ _ _, st, fun b hb => ?_, q⟩
 have e : b = k2.objs.size := by simpa using hb
 subst e
 exact I2.fpOk (Nat.le_refl _) (I2.hok.fresh (Nat.le_refl _))
end
section
variable {K : PySem.W.Frag} {ta : TA} {g : TG} {tb : TS} {D : Ends} {σ : St} {H : Hp}
theorem tFor_rngD : tFor (iRngD ta) g tb D σ H = ta σ H (fun vs H1 => ∃ i j : Int, vs = [.int i, .int j, .int (-1)] ∧ (-(2 ^ 62) ≤ i ∧ i < 2 ^ 62 ∧ -(2 ^ 62) ≤ j ∧ j < 2 ^ 62) ∧ ForGoal (Itdn i (i - j).toNat) g tb D σ H1) := rfl
theorem tFor_revR : tFor (iRevR ta) g tb D σ H = ta σ H (fun vs H1 => ∃ i j : Int, vs = [.int i, .int j] ∧ (-(2 ^ 62) ≤ i ∧ i < 2 ^ 62 ∧ -(2 ^ 62) ≤ j ∧ j < 2 ^ 62) ∧ ForGoal (Itdn (i + ((j - i).toNat - 1)) (j - i).toNat) g tb D σ H1) := rfl
theorem for_dnG {hi : Int} {n : Nat} (Pv : Nat → St → Hp → Prop) (h0 : Pv 0 σ H) (hs : ∀ (i : Nat) σ H, i < n → Pv i σ H → g (.int (hi - i)) σ H fun σ2 H2 => tb { D with nx := Pv (i + 1), ct := Pv (i + 1), bk := D.nx } σ2 H2) (hd : ∀ σ H, Pv n σ H → D.nx σ H) : ForGoal (Itdn hi n) g tb D σ H := by
 refine ⟨fun i m σ H => i + m = n ∧ Pv i σ H, ⟨n, by omega, h0⟩, fun i m σ H ⟨hm, hp⟩ => ?_⟩
 by_cases hi' : i < n
 ·refine .inr ⟨hi', Pv (i + 1), fun σ' H' h => ⟨m - 1, by omega, by omega, h⟩, fun x H' ⟨e1, e2⟩ => ?_⟩
  subst e1 e2
  exact hs i σ _ hi' hp
 ·have : i = n := by omega
  subst this
  exact .inl ⟨Nat.le_refl _, hd σ H hp⟩
end
def cMulL : R2 := fun x y H Q => match x, y with
 | .ref l, .int k => ∃ xs, H l = some (.lst xs) ∧ -(2 ^ 63) ≤ k ∧ k < 2 ^ 63 ∧ xs.length * k.toNat ≤ sizeLine ∧ ∀ p H', New H p (.lst (List.replicate k.toNat xs).flatten) H' → Q (.ref p) H'
 | _, _ => False
theorem o_mulL {X : Cx} : OpR X (binaryOp .Mult) cMulL := op_rep.imp fun x y H Q h => by
  cases x <;> cases y <;> first
    | exact False.elim h
    | (obtain ⟨xs, h1, h2, h3, h4, q⟩ := h
       exact ⟨_, _, xs, rfl, rfl, h1, h2, h3, h4, fun p hp => q p _ ⟨hp, rfl⟩⟩)
theorem rep_one (v : V) (n : Nat) : (List.replicate n [v]).flatten = List.replicate n v := by
 induction n with
 | zero => rfl
 | succ n ih => rw [List.replicate_succ, List.flatten_cons, ih, List.replicate_succ]; rfl
end L2
set_option maxHeartbeats 4000000
namespace RV
open PySem
section
variable {prog : Program} {w : World} {A : Around} {E : Value → Shared → Prop} {s : Shared}
end
end RV
namespace L2
open PySem PySem.Spec PyProof.Rows
end L2
set_option maxHeartbeats 4000000
namespace L2
open PySem PySem.Spec PyProof.Rows PySem.W
end L2
set_option maxRecDepth 20000
namespace L2
open PySem PySem.Spec PyProof.Rows
variable {X : Cx}
structure PL (H : Hp) (p : Addr) (es : List En) : Prop where
 lst : H p = some (.lst (es.map fun e => V.ref e.1))
 tup : ∀ e ∈ es, H e.1 = some (.tup [.int e.2.1, .int e.2.2])
theorem PL.same {H H' : Hp} {p : Addr} {es : List En} (h : PL H p es) (s : Same H H') : PL H' p es := ⟨s _ _ h.lst, fun e he => s _ _ (h.tup e he)⟩
theorem PL.un {H H' : Hp} {p pl kl : Addr} {es : List En} {xs : List V} {kv : List (List Key × V)} (h : PL H p es) (hp : H pl = some (.lst xs)) (hk : H kl = some (.dT kv)) (n : p ≠ pl) (u : Un2 pl kl H H') : PL H' p es :=
 ⟨u _ _ n (ne_of h.lst hk (fun z => nomatch z)) h.lst, fun e he => u _ _ (ne_of (h.tup e he) hp (fun z => nomatch z)) (ne_of (h.tup e he) hk (fun z => nomatch z)) (h.tup e he)⟩
theorem PL.put {H : Hp} {p tp : Addr} {es : List En} {q : MF.Pr} (h : PL H p es) (ht : H tp = some (.tup [.int q.1, .int q.2])) : PL (upd H p (.lst ((es.map fun e => V.ref e.1) ++ [.ref tp]))) p (es ++ [(tp, q)]) := by
 have nt : ∀ {b : Addr} {ys : List V}, H b = some (.tup ys) → b ≠ p := fun e => ne_of e h.lst (fun z => nomatch z)
 refine ⟨by rw [upd_same, List.map_append]; rfl, fun e he => ?_⟩
 rcases List.mem_append.mp he with he | he
 ·rw [upd_ne (nt (h.tup e he))]; exact h.tup e he
 ·rw [List.mem_singleton] at he
  subst he
  rw [upd_ne (nt ht)]; exact ht
theorem tComp_dT {te : TE} {k : Nat} {sel : List Nat} {g : TG} {tt : TT} {el : TE} {σ : L2.St} {H : Hp} {Q : VK} : tComp (iDT te) k sel g tt el σ H Q = te σ H (fun x H1 => ∃ d kvs, x = .ref d ∧ H1 d = some (.dT kvs) ∧ ∀ o, CompG (Itd d kvs o) σ k sel g tt el Q (upd H1 d (.frz o (.dT kvs)))) := rfl
theorem comp_dG {σ : L2.St} {k : Nat} {sel : List Nat} {g : TG} {tt : TT} {te : TE} {Q : VK} {H : Hp} {p d : Addr} {kvs : List (List Key × V)} {o : Obj} (Sv : L2.St → Prop) (Pv : Nat → Hp → Prop) (hS : Sv (cst σ k sel)) (h0 : Pv 0 (upd H p (.lst [])))
  (hk : ∀ i H2, Pv i H2 → H2 d = some (.frz o (.dT kvs)))
  (step : ∀ i kv b σ2 H2 (R : L2.St → Hp → Prop), kvs[i]? = some kv → H2 b = some (.tup (kv.1.map kV)) → Sv σ2 → Pv i H2 → (∀ σ' H', Sv σ' → Pv (i + 1) H' → R σ' H') → g (.ref b) σ2 H2 fun σ4 H4 => tt σ4 H4 fun bb H5 =>
   if bb = true then te σ4 H5 fun v H6 => ∃ ys, H6 p = some (.lst ys) ∧ ys.length < sizeLine ∧ R σ4 (upd H6 p (.lst (ys ++ [v]))) else R σ4 H5)
  (hQ : ∀ H2, Pv kvs.length H2 → Q (.ref p) H2) : CompGoal (Itd d kvs o) σ k sel g tt te Q H p := by
 refine ⟨fun i m σ2 H2 => i ≤ kvs.length ∧ m = kvs.length - i + 1 ∧ Sv σ2 ∧ Pv i H2, ⟨kvs.length + 1, Nat.zero_le _, rfl, hS, h0⟩, ?_⟩
 rintro i m σ2 H2 ⟨hi, rfl, hs, hP⟩
 by_cases hlt : i < kvs.length
 ·right
  refine ⟨⟨hk i H2 hP, hlt⟩, ?_⟩
  rintro x H3 ⟨rfl, kv, b, hkv, rfl, hb⟩
  exact step i kv b σ2 H3 (fun σ' H' => ∃ m', m' < kvs.length - i + 1 ∧ (i + 1 ≤ kvs.length ∧ m' = kvs.length - (i + 1) + 1 ∧ Sv σ' ∧ Pv (i + 1) H')) hkv hb hs hP fun σ' H' h1 h2 => ⟨_, by omega, hlt, rfl, h1, h2⟩
 ·left
  have e : i = kvs.length := by omega
  subst e
  exact ⟨⟨hk _ H2 hP, Nat.le_refl _⟩, hQ H2 hP⟩
end L2
set_option maxHeartbeats 4000000
namespace DT
open PySem
end DT
namespace L2
open PySem PySem.Spec PyProof.Rows
theorem compG_rngF {σ : St} {sel : List Nat} {rest : St} {H : Hp} {tt : TT} {te : TE} {Q : VK} {lo : Int} {n : Nat} (q : Nat → Bool) (f : Nat → V) (hr : sel.map (fun j => (σ[j]?).join) = rest) (hz : n ≤ sizeLine)
  (ht : ∀ (i : Nat) H' (Q' : Bool → Hp → Prop), i < n → Same H H' → Q' (q i) H' → tt (some (.int (lo + i)) :: rest) H' Q')
  (he : ∀ (i : Nat) H' (Q' : VK), i < n → q i = true → Same H H' → Q' (f i) H' → te (some (.int (lo + i)) :: rest) H' Q') (hQ : ∀ p H', New H p (.lst (((List.range n).filter q).map f)) H' → Q (.ref p) H') : CompG (Itr lo n) σ 1 sel (gName 0) tt te Q H := by
 intro p hp
 refine comp_inv (n := n) (item := fun i => .int (lo + i)) (fun i H2 => H2 = upd H p (.lst (((List.range i).filter q).map f))) hr (by simp) src_rng ?_ ?_ ?_
 ·rintro H2 rfl
  exact Nat.le_refl _
 ·rintro i H2 R hi rfl hR
  refine ht i _ _ hi (same_upd hp) ?_
  cases hq : q i with
  | true =>
   rw [if_pos rfl]
   refine he i _ _ hi hq (same_upd hp) ⟨_, upd_same, ?_, hR _ ?_⟩
   ·rw [List.length_map]
    have := List.length_filter_le q (List.range i)
    rw [List.length_range] at this
    omega
   ·rw [upd_upd, List.range_succ, List.filter_append, List.map_append, List.filter_cons, if_pos hq]
    rfl
  | false =>
   rw [if_neg (by simp)]
   refine hR _ ?_
   rw [List.range_succ, List.filter_append, List.map_append, List.filter_cons, if_neg (by rw [hq]; simp), List.filter_nil, List.map_nil, List.append_nil]
 ·rintro H2 rfl
  exact hQ p _ ⟨hp, rfl⟩
theorem filter_get {q : Nat → Bool} {n N i : Nat} (h : ((List.range n).filter q).length = i) (hn : n < N) (hq : q n = true) : ((List.range N).filter q)[i]? = some n := by
 have e : List.range N = List.range n ++ (List.range (N - n)).map (n + ·) := by rw [← List.range_add, show n + (N - n) = N by omega]
 rw [e, List.filter_append, List.getElem?_append_right (by omega), h, Nat.sub_self]
 obtain ⟨k, hk⟩ : ∃ k, N - n = k + 1 := ⟨N - n - 1, by omega⟩
 rw [hk, List.range_succ_eq_map, List.map_cons, List.filter_cons, if_pos (by simpa using hq)]
 simp
theorem for_filterG {K : PySem.W.Frag} {p : Addr} {N : Nat} {q : Nat → Bool} {f : Nat → V} {g : TG} {tb : TS} {D : Ends} {σ : St} {H : Hp} (Pv : Nat → St → Hp → Prop) (h0 : Pv 0 σ H) (hk : ∀ n σ H, n ≤ N → Pv n σ H → SqL K H p (((List.range N).filter q).map f))
  (hn : ∀ n σ H, n < N → q n = false → Pv n σ H → Pv (n + 1) σ H)
  (hs : ∀ n σ H (M : St → Hp → Prop), n < N → q n = true → Pv n σ H → (∀ σ' H', Pv (n + 1) σ' H' → M σ' H') → g (f n) σ H fun σ2 H2 => tb { D with nx := M, ct := M, bk := D.nx } σ2 H2) (hd : ∀ σ H, Pv N σ H → D.nx σ H) : ForGoal (Itl K p) g tb D σ H := by
 have up : ∀ (d n : Nat) (σ : St) (H : Hp) (i : Nat), N - n = d → n ≤ N → ((List.range n).filter q).length = i → Pv n σ H → (∃ n', n' < N ∧ q n' = true ∧ ((List.range n').filter q).length = i ∧ Pv n' σ H) ∨ (((List.range N).filter q).length = i ∧ Pv N σ H) := by
  intro d
  induction d with
  | zero =>
   intro n σ H i e hl hf hP
   have : n = N := by omega
   subst this
   exact .inr ⟨hf, hP⟩
  | succ d ih =>
   intro n σ H i e hl hf hP
   cases hq : q n with
   | true => exact .inl ⟨n, by omega, hq, hf, hP⟩
   | false =>
    refine ih (n + 1) σ H i (by omega) (by omega) ?_ (hn n σ H (by omega) hq hP)
    rw [List.range_succ, List.filter_append, List.filter_cons, if_neg (by rw [hq]; simp), List.filter_nil, List.append_nil]
    exact hf
 refine for_listG (xs := ((List.range N).filter q).map f) (fun i σ H => ∃ n, n ≤ N ∧ ((List.range n).filter q).length = i ∧ Pv n σ H) ⟨0, Nat.zero_le _, rfl, h0⟩ ?_ ?_ ?_
 ·rintro i σ H _ ⟨n, hl, _, hP⟩
  exact hk n σ H hl hP
 ·rintro i x σ H hx ⟨n, hl, hf, hP⟩
  rcases up _ n σ H i rfl hl hf hP with ⟨n', l', q', f', P'⟩ | ⟨f', _⟩
  ·rw [List.getElem?_map, filter_get f' l' q'] at hx
   cases hx
   refine hs n' σ H _ l' q' P' fun σ' H' h' => ⟨n' + 1, l', ?_, h'⟩
   rw [List.range_succ, List.filter_append, List.filter_cons, if_pos q', List.length_append, f']
   rfl
  ·rw [List.getElem?_map, List.getElem?_eq_none (by omega)] at hx
   cases hx
 ·rintro σ H ⟨n, hl, hf, hP⟩
  rw [List.length_map] at hf
  rcases up _ n σ H _ rfl hl hf hP with ⟨n', l', q', f', P'⟩ | ⟨_, P'⟩
  ·have := filter_get f' l' q'
   rw [List.getElem?_eq_none (Nat.le_refl _)] at this
   cases this
  ·exact hd σ H P'
end L2
namespace EN
open PySem PyProof.Rows
open AutoSeq1 (wpAny_loadPart')
section
variable {prog : Program} {w : World} {A : Around} {E : Value → Shared → Prop} {s : Shared}
theorem nx_tup {it t : Addr} {i : Nat} {its : Array Value} {x : Value} {Q : Value → Shared → Prop} (a : s.heap.IsTupleIter it t i) (b : s.heap.IsTuple t its) (hx : its[i]? = some x)
  (q : ∀ h', h'.IsTupleIter it t (i + 1) → Heap.SameBut it s.heap h' → Q x { s with heap := h' }) : wpAny (model prog w) A (Builtin.SmallTypes.nextOf (.ref it)) Q E s := by
 obtain ⟨o, ho, hc, hd⟩ := id a
 obtain ⟨ol, hl, _, nl, el⟩ := b
 unfold Builtin.SmallTypes.nextOf
 refine wpAny_bind (wpAny_callSpecial?_slot (name := Str.ofString "__next__") a.typeIs F.slot_tuple_iterator_next (wpAny_call_entry F.slot_tuple_iterator_next a.typeIs F.entry_tuple_iterator_next ?_ (F.args_tuple_iterator_next_1 _)))
 show wpAny _ _ (field (.ref it) 0 >>= fun _ => _) _ _ s
 refine wpAny_bind (wpAny_field (x := .ref t) ho hd rfl ?_)
 show wpAny _ _ (if (Value.ref t == Value.none) = true then _ else _) _ _ _
 rw [if_neg (show ¬ (Value.ref t == Value.none) = true from Bool.false_ne_true)]
 show wpAny _ _ (field (.ref it) 1 >>= fun _ => _) _ _ s
 refine wpAny_bind (wpAny_field (x := .int i 0) ho hd rfl ?_)
 show wpAny _ _ (seqItems? (.ref t) >>= fun _ => _) _ _ s
 refine wpAny_bind (wpAny_seqItems hl el ?_)
 simp only [hx, Int.toNat_natCast]
 refine wpAny_bind (wpAny_setField ho hd (by simp) (wpAny_pure ⟨x, rfl, wpAny_pure (q _ ⟨_, Heap.get?_update_self _ ho (Obj.isFreed_of_fields (Obj.data_mapFields hd _)), (Obj.cls_mapFields ..).trans hc, ?_⟩ (Heap.SameBut.update ..))⟩))
 rw [Obj.data_mapFields hd]; simp [rawInt]
theorem nx_end {it t : Addr} {i : Nat} {its : Array Value} {Q : Value → Shared → Prop} (hh : A.handled = none) (a : s.heap.IsTupleIter it t i) (b : s.heap.IsTuple t its) (hx : its[i]? = none)
  (q : ∀ h' e, Heap.ExtBut it s.heap h' → (∃ o, h'.get? e = some o ∧ o.cls = .type "StopIteration") → E (.ref e) { s with heap := h' }) : wpAny (model prog w) A (Builtin.SmallTypes.nextOf (.ref it)) Q E s := by
 obtain ⟨o, ho, hc, hd⟩ := id a
 obtain ⟨ol, hl, _, nl, el⟩ := b
 unfold Builtin.SmallTypes.nextOf
 refine wpAny_bind (wpAny_callSpecial?_slot (name := Str.ofString "__next__") a.typeIs F.slot_tuple_iterator_next (wpAny_call_entry F.slot_tuple_iterator_next a.typeIs F.entry_tuple_iterator_next ?_ (F.args_tuple_iterator_next_1 _)))
 show wpAny _ _ (field (.ref it) 0 >>= fun _ => _) _ _ s
 refine wpAny_bind (wpAny_field (x := .ref t) ho hd rfl ?_)
 show wpAny _ _ (if (Value.ref t == Value.none) = true then _ else _) _ _ _
 rw [if_neg (show ¬ (Value.ref t == Value.none) = true from Bool.false_ne_true)]
 show wpAny _ _ (field (.ref it) 1 >>= fun _ => _) _ _ s
 refine wpAny_bind (wpAny_field (x := .int i 0) ho hd rfl ?_)
 show wpAny _ _ (seqItems? (.ref t) >>= fun _ => _) _ _ s
 refine wpAny_bind (wpAny_seqItems hl el ?_)
 simp only [hx, Int.toNat_natCast]
 refine wpAny_bind (wpAny_rule (wpAny_bind (wpAny_setField ho hd (by simp) ?_)))
 show wpAny _ _ (newExc (.type "StopIteration") [] >>= fun _ => _) _ _ _
 refine wpAny_bind ?_
 simp only [newTuple, newExc]
 refine wpAny_bind (wpAny_newObj_type ?_ (by size_fits))
 refine wpAny_bind (m := firstArgMember _ _) (wpAny_of_eq (a := Value.none) (by first | rfl | (simp only [firstArgMember]; rfl)) (wpAny_newObj_type ?_ (by size_fits)))
 simp only [raiseNew]
 refine wpAny_bind (wpAny_handled ?_)
 first | rw [show A.in1.handled = none from hh] | rw [hh]
 refine wpAny_bind (wpAny_pure (wpAny_throw (q _ _ (((Heap.SameBut.update ..).extBut.push _).push _) ⟨_, Heap.get?_push_size _ rfl, rfl⟩)))
end
theorem drawsT {prog : Program} {w : World} {A : Around} (hh : A.handled = none) (it t : Addr) (hne : t ≠ it) (its : Array Value) :
  Draws prog w A it [it, t] (its.size + 1) (fun i v => ∃ j, i = j + 1 ∧ its[j]? = some v) (fun i h => ∃ j, i = j + 1 ∧ h.IsTupleIter it t j ∧ h.IsTuple t its) where
 live := fun i h ⟨j, _, ⟨o, ho, _⟩, _⟩ => ⟨o, ho⟩
 frame := fun i h h' ⟨j, e, ⟨o, ho, r⟩, ⟨o2, ho2, r2⟩⟩ k => ⟨j, e, ⟨o, k it (by simp) o ho, r⟩, ⟨o2, k t (by simp) o2 ho2, r2⟩⟩
 item := fun i s Q E hi ⟨j, e, a, b⟩ q => by
  subst e
  have hj : j < its.size := by omega
  refine nx_tup a b (x := its[j]) (by simp [hj]) fun h' a' k => q _ h' s.toks ⟨j, rfl, by simp [hj]⟩ ⟨j + 1, rfl, a', b.extBut k.extBut hne⟩ k
 done := fun s Q E ⟨j, e, a, b⟩ q => by
  have hj : j = its.size := by omega
  subst hj
  exact nx_end hh a b (by simp) q
section
variable {prog : Program} {w : World} {A : Around} {E : Value → Shared → Prop} {s : Shared}
theorem meets_new (l : Addr) (its : Array Value) (n : Int) (tk : Tok) (hn : Builtin.SmallTypes.fitsIndex n = true) :
  Meets (Builtin.«enumerate.__new__» ⟨[.type "enumerate", .ref l], [("start", .int n tk)]⟩) (fun _ R s => s.heap.IsTuple l its ∧
   R (.ok (.ret (.ref (s.heap.push { cls := .type "tuple_iterator", data := .fields #[.ref l, .int 0 0] }).objs.size)))
    { s with heap := (s.heap.push { cls := .type "tuple_iterator", data := .fields #[.ref l, .int 0 0] }).push { cls := .type "enumerate", data := .fields #[.none, .bool false, .ref s.heap.objs.size, rawInt n, .none, .none] } }) := by
 refine .of_wp fun prog w A R s h => ?_
 obtain ⟨hp, g, d, tk', os⟩ := s; obtain ⟨hL, h⟩ := h
 have hsub := sub_enumerate
 wp_walk using wpAny_pyIter_tuple hL
 refine wpAny_stack_any fun st => wpAny_pure ?_
 split
 ·rename_i c _ _ _ _ _
  cases (c == Value.type "enumerate")
  ·simp only [Bool.false_eq_true, if_false]
   refine wpAny_bind (wpAny_of_eq (a := (Value.ref l, some (Value.int n tk))) (by first | rfl | kernel_rfl) ?_)
   wp_walk using wpAny_pyIter_tuple hL
   exact ⟨_, rfl, h⟩
  ·simp only [if_true]
   refine wpAny_bind (wpAny_of_eq (a := (Value.ref l, some (Value.int n tk))) (by first | rfl | kernel_rfl) ?_)
   wp_walk using wpAny_pyIter_tuple hL
   exact ⟨_, rfl, h⟩
 ·simp only [Bool.false_eq_true, if_false]
  refine wpAny_bind (wpAny_of_eq (a := (Value.ref l, some (Value.int n tk))) (by first | rfl | kernel_rfl) ?_)
  wp_walk using wpAny_pyIter_tuple hL
  exact ⟨_, rfl, h⟩
theorem init_kw {T newId : String} {self : Value} {rest : List Value} {kw : List (Str × Value)} (hl : typeLookup (.type T) "__init__" = pure (some (.builtin "object.__init__")))
  (hm : Bind.madeBy (.type T) = pure (some newId)) (hne : (some newId != some "object.__new__") = true) : Meets (Builtin.«object.__init__» ⟨self :: rest, kw⟩) (fun _ R s => s.TypeIs self T ∧ R (.ok (.ret .none)) s) := by
 refine Meets.of_wp fun prog w A R s ⟨hT, hq⟩ => ?_
 cases rest with
 | nil =>
  cases kw with
  | nil => exact wpAny_pure ⟨_, rfl, hq⟩
  | cons k r =>
   repeat (any_goals (first | assumption | wp_step))
   exact ⟨_, rfl, hq⟩
 | cons a rest =>
  repeat (any_goals (first | assumption | wp_step))
  exact ⟨_, rfl, hq⟩
theorem callType_kw {T newId : String} {Bn : Builtin} {args : List Value} {kw : List (Str × Value)} {S : PySem.Spec} {Q : Value → Shared → Prop} (ft : TypeCalled T newId "object.__init__") (hne : (some newId != some "object.__new__") = true)
  (c1 : checkTypeCall T ⟨args, kw⟩ = pure ()) (c2 : checkBuiltinCall newId ⟨.type T :: args, kw⟩ = pure ()) (ok : ∀ obj, argsOk "object.__init__" ⟨obj :: args, kw⟩) (en : entryFor table newId = some Bn) (g : Meets (Bn ⟨.type T :: args, kw⟩) S)
  (h : S A.in1 (wants (fun obj s₁ => s₁.TypeIs obj T ∧ Q obj s₁) E) s) : wpAny (model prog w) A (call (.type T) args kw) Q E s := by
 obtain ⟨c, tl, m0⟩ := ft.mro
 have m1 := ft.made
 have m2 := ft.sub
 refine wpAny_call (codeAny_of_tree ?_)
 show wpAny _ _ (callAny (.type T) ⟨args, kw⟩) _ _ _
 refine wpAny_pure ⟨Code.quiet_builtin _ (by decide +kernel), codeAny_builtin F.entry_type_call ?_⟩
 rw [Around.under_plain (weight_type_call_type T args kw) (units_type_call_type T args kw)]
 have m3 := ft.notType
 have m4 := ft.canCreate
 repeat (any_goals (first | assumption | wp_step))
 refine codeAny_mono (codeAny_call_builtin ft.plain en (wpAny_of_eq c2 (g prog w A.in1 _ s h))) fun r s1 hr => ?_
 cases r with
 | error e => exact hr
 | ok fl =>
  cases fl with
  | ret obj =>
   obtain ⟨hT, hq⟩ := hr
   have li := ft.init.lookup
   have bi := ft.init.bind obj
   repeat (any_goals (first | assumption | wp_step))
   refine codeAny_mono (codeAny_call_builtin ft.init.plain F.entry_object_init (ft.init.check _ _ _ _ _ _ _ _ hT (ok obj) (init_kw (newId := newId) li m1 hne prog w A.in1 (wants (fun r s2 => r = .none ∧ Q obj s2) E) s1 ⟨hT, rfl, hq⟩))) fun r2 s2 hr2 => ?_
   cases r2 with
   | error e => exact hr2
   | ok fl2 =>
    cases fl2 with
    | ret r =>
     obtain ⟨rfl, hq2⟩ := hr2
     repeat (any_goals (first | assumption | wp_step))
    | _ => exact hr2.elim
  | _ => exact hr.elim
theorem tc_kw (a b : Value) : checkTypeCall "enumerate" ⟨[a], [("start", b)]⟩ = pure () := by kernel_rfl
theorem nc_kw (a b : Value) : checkBuiltinCall "enumerate.__new__" ⟨[.type "enumerate", a], [("start", b)]⟩ = pure () := by kernel_rfl
theorem oi_kw (o a b : Value) : argsOk "object.__init__" ⟨[o, a], [("start", b)]⟩ := by first | kernel_rfl | (unfold argsOk; kernel_rfl)
theorem call_enum {l : Addr} {its : Array Value} {n : Int} {tk : Tok} {Q : Value → Shared → Prop} (hn : Builtin.SmallTypes.fitsIndex n = true) (hl : s.heap.IsTuple l its)
  (h : ∀ h', IsEnum h' (s.heap.objs.size + 1) s.heap.objs.size n .none → h'.IsTupleIter s.heap.objs.size l 0 → h'.objs.size = s.heap.objs.size + 2 → (∀ b o, s.heap.get? b = some o → h'.get? b = some o) → Q (.ref (s.heap.objs.size + 1)) { s with heap := h' }) :
  wpAny (model prog w) A (call (.type "enumerate") [.ref l] [("start", .int n tk)]) Q E s := by
 refine callType_kw F.called_enumerate (by decide) (tc_kw _ _) (nc_kw _ _) (fun obj => oi_kw obj _ _) F.entry_enumerate_new (meets_new l its n tk hn) ⟨hl, ?_⟩
 have hz : (s.heap.push { cls := .type "tuple_iterator", data := .fields #[.ref l, .int 0 0] }).objs.size = s.heap.objs.size + 1 := Heap.size_push ..
 show _ ∧ _
 have he := Heap.get?_push_size (s.heap.push { cls := .type "tuple_iterator", data := .fields #[.ref l, .int 0 0] }) (o := { cls := .type "enumerate", data := .fields #[.none, .bool false, .ref s.heap.objs.size, rawInt n, .none, .none] }) rfl
 rw [hz] at he ⊢
 exact ⟨⟨_, he, rfl⟩, h _ he ⟨_, Heap.get?_push_of_some _ (Heap.get?_push_size _ rfl), rfl, rfl⟩ (by rw [Heap.size_push, hz]) fun b o x => Heap.get?_push_of_some _ (Heap.get?_push_of_some _ x)⟩
end
end EN
set_option maxHeartbeats 4000000
namespace L2
open PySem PySem.Spec PyProof.Rows
def Ite (K : PySem.W.Frag) (l : Addr) : It :=
  ⟨fun i H => ∃ xs x, SqT K H l xs ∧ xs[i]? = some x,
   fun i H v H' => ∃ T x, v = .ref T ∧ H T = none ∧ H' = upd H T (.tup [.int ((i + 1 : Nat) : Int), x]) ∧ (∀ xs, SqT K H l xs → xs[i]? = some x),
   fun i H => ∃ xs, SqT K H l xs ∧ xs.length = i⟩
theorem turn_enum {P : Program} {w : World} {K : PySem.W.Frag} {elts : List Expr} {k : Nat} {pos : Pos} (l e it : Addr) (n1 : e ≠ it) (n2 : e ≠ l) (n3 : l ≠ it) :
    Turn P w K (.Tuple elts k pos) (Ite K l) [e, it] e (fun i h => (∃ old, IsEnum h e it ((i + 1 : Nat) : Int) old) ∧ h.IsTupleIter it l i) where
  mem := by simp
  obj := fun i h ⟨⟨old, a1⟩, a2⟩ b hb => by
    simp only [List.mem_cons, List.not_mem_nil, or_false] at hb
    rcases hb with rfl | rfl
    · exact ⟨_, a1, fun v z => nomatch z⟩
    · obtain ⟨o, e, c, d⟩ := a2
      exact ⟨o, e, fun v z => by rw [d] at z; cases z⟩
  keep := fun i h h' ⟨⟨old, a1⟩, ⟨o, a2, r⟩⟩ k => ⟨⟨old, k _ (by simp) _ a1⟩, ⟨o, k _ (by simp) _ a2, r⟩⟩
  item := by
    intro X hP hw hK hc i pins s σ H E I hf st hg
    subst hP hw hK
    obtain ⟨xs, x, hq1, hx⟩ := hg
    obtain ⟨its1, rv1, p1, hz1⟩ := I.tuple hq1
    obtain ⟨u1, hu1, ru1⟩ := rv1.get hx
    obtain ⟨⟨old, sa⟩, sb⟩ := st
    have W := WalksT.enumerateD (prog := X.prog) (w := X.w) (A := X.A) (EN.drawsT (A := X.A.in1) (I.ok.hd hc) it l n3 its1.toArray) e n1 (by simp [n1, n2]) (by simp)
    have n1' : i < its1.length := (List.getElem?_eq_some_iff.mp hu1).1
    have hw : ∀ b ∈ [e, it], FpOk X pins H b := hf
    refine W.item (i + 1) s _ _ (by simp; omega) ⟨⟨old, sa⟩, i, rfl, sb, p1⟩ fun T vals h' tk hv hT itt mid kp => ?_
    obtain ⟨t0, x', ⟨j, ej, e1⟩, rfl⟩ := hv
    have ej' : j = i := by omega
    subst ej'
    have q1 : x' = u1 := by have : its1[j]? = some x' := by simpa using e1
                            rw [hu1] at this; cases this; rfl
    subst q1
    have aT := W.apart (j + 1) T h' mid
    refine ⟨.ref T, rfl, W.go elts k pos (j + 1) T _ _ _ mid fun h'' st'' kp'' => ?_⟩
    have I1 : Inv X pins σ H { s with heap := h'', toks := tk } := I.turnedL hw fun b o hb e => kp'' b o hb (kp b o hb e)
    have fT : H T = none := I.hok.fresh hT
    obtain ⟨oT, gT, cT, dT⟩ := itt
    have ok : ObjOk X.prog X.w (upd H T (.tup [.int ((j + 1 : Nat) : Int), x])) h'' T (.tup [.int ((j + 1 : Nat) : Int), x]) := ⟨by show 2 ≤ sizeLine; decide, [.int ((j + 1 : Nat) : Int) t0, x'], .cons ⟨_, rfl⟩ (.cons ru1 .nil), show h''.IsTuple T #[.int ((j + 1 : Nat) : Int) t0, x'] from ⟨oT, kp'' T oT aT gT, cT, dT⟩⟩
    obtain ⟨⟨old2, b1⟩, j2, ej2, b2, b3⟩ := st''
    have ej3 : j2 = j + 1 := by omega
    subst ej3
    refine ⟨.ref T, _, I1.adopt (s := { s with heap := h'', toks := tk }) (I.fpOk hT fT).fl ok, rfl, ⟨T, x, rfl, fT, rfl, fun zs hz => by rw [I.tuple_inj hz hq1]; exact hx⟩, ⟨⟨old2, b1⟩, b2⟩, fun b hb => ?_⟩
    have hbT : b ≠ T := fun ee => by
      obtain ⟨o4, s4, _⟩ := sb
      have : ∃ o, s.heap.get? b = some o := by
        simp only [List.mem_cons, List.not_mem_nil, or_false] at hb
        rcases hb with rfl | rfl
        · exact ⟨_, sa⟩
        · exact ⟨_, s4⟩
      obtain ⟨o, ho⟩ := this
      have := Heap.lt_size ho
      rw [ee] at this
      exact absurd this (Nat.not_lt.mpr hT)
    rw [upd_ne hbT]
    exact (hf b hb).1
  done := by
    intro X hP hw hK hc i pins s σ H E I hf st hg
    subst hP hw hK
    obtain ⟨xs, hq1, hlen⟩ := hg
    obtain ⟨its1, rv1, p1, hz1⟩ := I.tuple hq1
    obtain ⟨⟨old, sa⟩, sb⟩ := st
    have l1 := rv1.length
    have W := WalksT.enumerateD (prog := X.prog) (w := X.w) (A := X.A) (EN.drawsT (A := X.A.in1) (I.ok.hd hc) it l n3 its1.toArray) e n1 (by simp [n1, n2]) (by simp)
    have hi : i = its1.toArray.size := by simp; omega
    subst hi
    refine W.done s _ _ ⟨⟨old, sa⟩, _, rfl, sb, p1⟩ fun h' tk kp => ⟨rfl, I.turnedL (t' := tk) hf fun b o hb e => kp b o hb e⟩
  self := fun _ _ _ _ _ st h => wpAny_pyIter_enum st.1.choose_spec h
theorem callWith_type_kw {M : Model} {A : Around} {E : Value → Shared → Prop} {s : Shared} {env : Env} {pos : Pos} {T : String} {e : Expr} {kws : List Keyword} {Q : Value → Shared → Prop}
  (h : wpAny M A (spliced (backTo pos (starEach [e] env))) (fun vs s1 => wpAny M A (evalAll ((backToKw pos (keywordEach kws env)).map (·.2))) (fun kvs s2 => wpAny M A (call (.type T) vs (((backToKw pos (keywordEach kws env)).filterMap (·.1)).zip kvs)) Q E s2) E s1) E s)
  (he : backTo pos (starEach [e] env) = [(false, eval e env >>= fun v => standAt pos >>= fun _ => pure v)] ∨ (backTo pos (starEach [e] env)).any (·.1) = false) (hx : ∃ x rest, backTo pos (starEach [e] env) = (false, x) :: rest)
  (hp : (backTo pos (starEach [e] env)).any (·.1) = false := by rfl) (ha : (backToKw pos (keywordEach kws env)).all (·.1.isSome) = true := by rfl) (hk : (backToKw pos (keywordEach kws env)).any (·.1.isNone) = false := by rfl) :
  wpAny M A (callWith pos (.type T) [] (backTo pos (starEach [e] env)) (backToKw pos (keywordEach kws env))) Q E s := by
 obtain ⟨x, rest, ex⟩ := hx
 have g : wpAny M A (evalArgs (.type T) true (backTo pos (starEach [e] env)) (backToKw pos (keywordEach kws env))) (fun a s1 => wpAny M A (call (.type T) ([] ++ a.pos) a.kw) Q E s1) E s := by
  rw [ex] at h ⊢
  exact evalArgs_kwB ha h
 unfold callWith
 refine wpAny_bind (wpAny_holding (wpAny_mono g (fun a s1 h1 => wpAny_bind (wpAny_standAt ?_)) fun _ _ x => x))
 simp only [hp, hk, Bool.or_false]
 refine wpAny_bind (wpAny_pure (wpAny_bind (wpAny_mono h1 (fun r s2 hr => wpAny_bind (wpAny_holding (wpAny_point (wpAny_pure hr)))) fun _ _ x => x)))
def iEnum (K : PySem.W.Frag) (ta : TA) (tv : TE) : TI := fun σ H R => ta σ H fun vs H1 => tv σ H1 fun v H2 => ∃ l : Addr, vs = [.ref l] ∧ v = .int 1 ∧ (∃ xs, SqT K H2 l xs) ∧ R (Ite K l) H2
theorem pi_enum {X : Cx} {elts : List Expr} {k : Nat} {tp : Pos} {a v : Expr} {ta : TA} {tv : TE} {p kp pos : Pos} (hg : Gl X "enumerate") (hm : X.mg "enumerate" = none) (ha : PA X [a] ta) (hv : PE X v tv) (hs : starEach [a] X.env = [(false, eval a X.env)] := by rfl) :
  PI X (.Tuple elts k tp) (.Call (.Name "enumerate" p) [a] [⟨some "start", v, kp⟩] pos) (iEnum X.K ta tv) := by
 intro pins s σ H R I h
 refine wpAny_bind (ld_blt I hg hm PyProof.Rows.boot_enumerate (callWith_type_kw (thn (ha pos pins s σ H _ I h) fun us s1 ⟨vs, H1, I1, r1, q1⟩ => kws_cons (thn (hv pins s1 σ H1 _ I1 q1) fun u s2 ⟨x, H2, I2, r2, q2⟩ => kws_nil ?_)) (.inr (by rw [hs]; rfl)) (by rw [hs]; exact ⟨_, _, rfl⟩) (by rw [hs]; rfl)))
 obtain ⟨l, e, e2, ⟨xs, h1⟩, q⟩ := q2
 subst e e2
 obtain ⟨u1, rfl, e1⟩ := vals1 r1
 cases e1
 obtain ⟨t, rfl⟩ := r2
 obtain ⟨its1, rv1, p1, hz1⟩ := I2.tuple h1
 show wpAny _ _ (call (.type "enumerate") [.ref l] [("start", .int 1 t)]) _ _ _
 refine EN.call_enum (by decide) p1 fun h' a1 a2 hsz kp => ?_
 have n1 : l < s2.heap.objs.size := by obtain ⟨o, e, _⟩ := p1; exact Heap.lt_size e
 refine wpAny_pyIter_enum a1 ?_
 generalize hn : s2.heap.objs.size = n at *
 refine ⟨n + 1, [n + 1, n], _, _, H2, rfl, I2.kept (t' := s2.toks) kp, turn_enum l (n + 1) n (Nat.ne_of_gt (Nat.lt_succ_self n)) (Nat.ne_of_gt (Nat.lt_succ_of_lt n1)) (Nat.ne_of_lt n1), ⟨⟨_, a1⟩, a2⟩, fun b hb => ?_, q⟩
 have hb' : n ≤ b := by
  simp only [List.mem_cons, List.not_mem_nil, or_false] at hb
  rcases hb with rfl | rfl
  ·exact Nat.le_add_right n 1
  ·exact Nat.le_refl _
 exact I2.fpOk (by rw [hn]; exact hb') (I2.hok.fresh (by rw [hn]; exact hb'))
theorem tFor_enum {K : PySem.W.Frag} {ta : TA} {tv : TE} {g : TG} {tb : TS} {D : Ends} {σ : St} {H : Hp} : tFor (iEnum K ta tv) g tb D σ H = ta σ H (fun vs H1 => tv σ H1 fun v H2 => ∃ l : Addr, vs = [.ref l] ∧ v = .int 1 ∧ (∃ xs, SqT K H2 l xs) ∧ ForGoal (Ite K l) g tb D σ H2) := rfl
theorem for_eG {K : PySem.W.Frag} {g : TG} {tb : TS} {D : Ends} {σ : St} {H : Hp} {a : Addr} {xs : List V} (Pv : Nat → St → Hp → Prop) (h0 : Pv 0 σ H) (hk : ∀ i σ H, i ≤ xs.length → Pv i σ H → SqT K H a xs)
  (hs : ∀ i x t σ H, xs[i]? = some x → H t = none → Pv i σ H → g (.ref t) σ (upd H t (.tup [.int ((i + 1 : Nat) : Int), x])) fun σ2 H2 => tb { D with nx := Pv (i + 1), ct := Pv (i + 1), bk := D.nx } σ2 H2) (hd : ∀ σ H, Pv xs.length σ H → D.nx σ H) : ForGoal (Ite K a) g tb D σ H := by
 refine ⟨fun i m σ H => i + m = xs.length ∧ Pv i σ H, ⟨xs.length, by omega, h0⟩, fun i m σ H ⟨hm, hp⟩ => ?_⟩
 have s1 := hk i σ H (by omega) hp
 by_cases hi : i < xs.length
 ·refine .inr ⟨⟨xs, xs[i], s1, List.getElem?_eq_getElem hi⟩, Pv (i + 1), fun σ' H' h => ⟨m - 1, by omega, by omega, h⟩, fun x H' ⟨T, x1, e1, e2, e3, e4⟩ => ?_⟩
  subst e1 e3
  exact hs i x1 T σ H (e4 xs s1) e2 hp
 ·have : i = xs.length := by omega
  subst this
  exact .inl ⟨⟨xs, s1, rfl⟩, hd σ H hp⟩
end L2
namespace MF
section sw
variable (m : Nat) (nd : Nat → Bool)
def cnt : Nat → Nat
 | 0 => 0
 | i + 1 => cnt i + (if nd (m + 1 + i) then 1 else 0)
def bec (k : Nat) : Nat := if k ≤ m then k else 1 + m + cnt m nd (k - m - 1)
def mt (t : Int) : Int := 2 * (bec m nd (t / 2).toNat : Nat) + t % 2
def mp (p : Pr) : Pr := (mt m nd p.1, mt m nd p.2)
def kept (P : List Pr) : Nat → List Pr
 | 0 => []
 | i + 1 => if nd (m + 1 + i) then kept P i ++ [mp m nd (P.getD i (0, 0))] else kept P i
variable {m nd}
theorem cnt_le : ∀ i, cnt m nd i ≤ i
 | 0 => Nat.le_refl _
 | i + 1 => by have := cnt_le i; unfold cnt; split <;> omega
theorem cnt_mono {i : Nat} : ∀ {j : Nat}, i ≤ j → cnt m nd i ≤ cnt m nd j
  | 0, h => by have : i = 0 := by omega
               subst this; exact Nat.le_refl _
  | j + 1, h => by
    rcases Nat.lt_or_ge i (j + 1) with h1 | h1
    · have := cnt_mono (i := i) (j := j) (by omega)
      show _ ≤ cnt m nd j + _
      omega
    · have : i = j + 1 := by omega
      subst this; exact Nat.le_refl _
theorem cnt_lt {i j : Nat} (h : i < j) (hn : nd (m + 1 + i) = true) : cnt m nd i < cnt m nd j := by
 have := cnt_mono (m := m) (nd := nd) (i := i + 1) (j := j) h
 have e : cnt m nd (i + 1) = cnt m nd i + 1 := by show cnt m nd i + _ = _; rw [if_pos hn]
 omega
theorem bec_low {k : Nat} (h : k ≤ m) : bec m nd k = k := if_pos h
theorem bec_high {i : Nat} : bec m nd (m + 1 + i) = 1 + m + cnt m nd i := by
 unfold bec; rw [if_neg (by omega), show m + 1 + i - m - 1 = i by omega]
theorem bec_lt {k k' : Nat} (h : k < k') (hk : k ≤ m ∨ nd k = true) : bec m nd k < bec m nd k' := by
 rcases Nat.lt_or_ge m k with h1 | h1
 ·obtain ⟨i, rfl⟩ : ∃ i, k = m + 1 + i := ⟨k - m - 1, by omega⟩
  obtain ⟨j, rfl⟩ : ∃ j, k' = m + 1 + j := ⟨k' - m - 1, by omega⟩
  rw [bec_high, bec_high]
  have hk' : nd (m + 1 + i) = true := hk.resolve_left (by omega)
  have := cnt_lt (m := m) (nd := nd) (i := i) (j := j) (by omega) hk'
  omega
 ·rw [bec_low h1]
  rcases Nat.lt_or_ge m k' with h2 | h2
  ·obtain ⟨j, rfl⟩ : ∃ j, k' = m + 1 + j := ⟨k' - m - 1, by omega⟩
   rw [bec_high]; omega
  ·rw [bec_low h2]; exact h
def Sty (m : Nat) (nd : Nat → Bool) (k : Nat) : Prop := k ≤ m ∨ nd k = true
theorem bec_inj {k k' : Nat} (h : Sty m nd k) (h' : Sty m nd k') (e : bec m nd k = bec m nd k') : k = k' := by
 rcases Nat.lt_trichotomy k k' with l | l | l
 ·have := bec_lt l h; omega
 ·exact l
 ·have := bec_lt l h'; omega
theorem mt_half {t : Int} : mt m nd t / 2 = (bec m nd (t / 2).toNat : Nat) := by unfold mt; omega
theorem mt_odd {t : Int} : mt m nd t % 2 = t % 2 := by unfold mt; omega
theorem mt_inj {t t' : Int} (p : 0 ≤ t) (p' : 0 ≤ t') (h : Sty m nd (t / 2).toNat) (h' : Sty m nd (t' / 2).toNat) (e : mt m nd t = mt m nd t') : t = t' := by
 have e1 := congrArg (· / 2) e
 have e2 := congrArg (· % 2) e
 simp only [mt_half, mt_odd] at e1 e2
 have e3 := bec_inj h h' (by omega)
 omega
theorem kept_len (P : List Pr) : ∀ i, (kept m nd P i).length = cnt m nd i
 | 0 => rfl
 | i + 1 => by
  have := kept_len P i
  unfold kept cnt
  split
  ·rw [List.length_append, this]; rfl
  ·rw [this]; rfl
theorem kept_of {P : List Pr} {r : Nat} {q : Pr} : ∀ {i}, i ≤ P.length → (kept m nd P i)[r]? = some q → ∃ j p, j < i ∧ nd (m + 1 + j) = true ∧ cnt m nd j = r ∧ P[j]? = some p ∧ q = mp m nd p
 | 0, _, h => by simp [kept] at h
 | i + 1, hl, h => by
  unfold kept at h
  split at h
  ·rename_i hn
   rcases Nat.lt_or_ge r (kept m nd P i).length with h1 | h1
   ·rw [List.getElem?_append_left h1] at h
    obtain ⟨j, p, a, b⟩ := kept_of (by omega) h
    exact ⟨j, p, by omega, b⟩
   ·rw [List.getElem?_append_right h1] at h
    have h0 : r - (kept m nd P i).length = 0 := by
     rcases Nat.eq_zero_or_pos (r - (kept m nd P i).length) with z | z
     ·exact z
     ·rw [List.getElem?_eq_none (by simp; omega)] at h; cases h
    rw [h0, List.getElem?_cons_zero] at h
    have hlt : i < P.length := by omega
    refine ⟨i, P[i], by omega, hn, by have := kept_len (m := m) (nd := nd) P i; omega, List.getElem?_eq_getElem hlt, ?_⟩
    rw [List.getD_eq_getElem?_getD, List.getElem?_eq_getElem hlt] at h
    exact (Option.some.inj h).symm
  ·obtain ⟨j, p, a, b⟩ := kept_of (by omega) h
   exact ⟨j, p, by omega, b⟩
def Clo (m : Nat) (nd : Nat → Bool) (P : List Pr) : Prop := ∀ j p, P[j]? = some p → nd (m + 1 + j) = true → nd (p.1 / 2).toNat = true ∧ nd (p.2 / 2).toNat = true
theorem mt_pair {P : List Pr} (ho : Ok m P) (hc : Clo m nd P) {j : Nat} {p : Pr} (hp : P[j]? = some p) (hn : nd (m + 1 + j) = true) :
  2 ≤ mt m nd p.1 ∧ mt m nd p.1 < mt m nd p.2 ∧ mt m nd p.1 / 2 ≠ mt m nd p.2 / 2 ∧ mt m nd p.2 < 2 * (m + 1 + (cnt m nd j : Nat)) := by
 obtain ⟨h1, h2, h3, h4⟩ := ho j p hp
 obtain ⟨c1, c2⟩ := hc j p hp hn
 have a1 := bec_lt (m := m) (nd := nd) (k := (p.1 / 2).toNat) (k' := (p.2 / 2).toNat) (by omega) (.inr c1)
 have a2 := bec_lt (m := m) (nd := nd) (k := 0) (k' := (p.1 / 2).toNat) (by omega) (.inl (Nat.zero_le _))
 have a3 := bec_lt (m := m) (nd := nd) (k := (p.2 / 2).toNat) (k' := m + 1 + j) (by omega) (.inr c2)
 rw [bec_high] at a3
 have e1 := mt_half (m := m) (nd := nd) (t := p.1)
 have e2 := mt_half (m := m) (nd := nd) (t := p.2)
 refine ⟨?_, ?_, ?_, ?_⟩ <;> omega
theorem lohi {s t : Int} (h : s < t) : lo s t = s ∧ hi s t = t := by
 unfold lo hi; rw [if_neg (by omega), if_pos (by omega)]; exact ⟨rfl, rfl⟩
theorem sure_lt {s t : Int} (h0 : 2 ≤ s) (h : s < t) (h2 : s / 2 ≠ t / 2) : sure s t = none := by
 unfold sure
 rw [(lohi h).1, (lohi h).2, if_neg (by omega), if_neg (by omega), if_neg]
 intro z
 have := congrArg (· / 2) z
 simp only [tn_half] at this
 exact h2 this
theorem fnd_not : ∀ {n : Int} {ps : List Pr} {p : Pr}, p ∉ ps → fnd n ps p = none
 | n, [], p, _ => rfl
 | n, q :: r, p, h => by
  unfold fnd
  rw [if_neg (fun e : q = p => h (e ▸ List.mem_cons_self ..))]
  exact fnd_not fun z => h (List.mem_cons_of_mem _ z)
theorem both_new {M : Int} {ps : List Pr} {s t : Int} (h0 : 2 ≤ s) (h : s < t) (h2 : s / 2 ≠ t / 2) (hn : (s, t) ∉ ps) : bt M ps s t = 2 * (M + 1 + ps.length) ∧ bp M ps s t = ps ++ [(s, t)] := by
 unfold bt bp kn kp
 rw [sure_lt h0 h h2]
 simp only [(lohi h).1, (lohi h).2, fnd_not hn]
 exact ⟨rfl, rfl⟩
theorem nodup_get {P : List Pr} (h : P.Nodup) {i j : Nat} {p : Pr} (hi : P[i]? = some p) (hj : P[j]? = some p) : i = j := by
 have a := fnd_idx (n := 0) h hi
 have b := fnd_idx (n := 0) h hj
 rw [a] at b
 have := Option.some.inj b
 omega
theorem mp_inj {P : List Pr} (ho : Ok m P) (hc : Clo m nd P) (hd : P.Nodup) {i j : Nat} {p q : Pr} (hp : P[i]? = some p) (hq : P[j]? = some q) (hi : nd (m + 1 + i) = true) (hj : nd (m + 1 + j) = true) (e : mp m nd p = mp m nd q) : i = j := by
 obtain ⟨p1, p2⟩ := hc i p hp hi
 obtain ⟨q1, q2⟩ := hc j q hq hj
 have h1 := ho i p hp
 have h2 := ho j q hq
 have e1 := mt_inj (by omega) (by omega) (.inr p1) (.inr q1) (congrArg Prod.fst e)
 have e2 := mt_inj (by omega) (by omega) (.inr p2) (.inr q2) (congrArg Prod.snd e)
 have : p = q := Prod.ext e1 e2
 subst this
 exact nodup_get hd hp hq
theorem kept_new {P : List Pr} (ho : Ok m P) (hc : Clo m nd P) (hd : P.Nodup) {i : Nat} {p : Pr} (hp : P[i]? = some p) (hi : nd (m + 1 + i) = true) : mp m nd p ∉ kept m nd P i := by
 intro h
 obtain ⟨r, hr⟩ := List.mem_iff_getElem?.mp h
 have hlt : i < P.length := by
  rcases Nat.lt_or_ge i P.length with z | z
  ·exact z
  ·rw [List.getElem?_eq_none z] at hp; cases hp
 obtain ⟨j, q, h1, h2, h3, h4, h5⟩ := kept_of (by omega) hr
 have := mp_inj ho hc hd hp h4 hi h2 h5
 omega
theorem both_kept {P : List Pr} (ho : Ok m P) (hc : Clo m nd P) (hd : P.Nodup) {i : Nat} {p : Pr} (hp : P[i]? = some p) (hi : nd (m + 1 + i) = true) :
  bt m (kept m nd P i) (mt m nd p.1) (mt m nd p.2) = 2 * (bec m nd (m + 1 + i) : Nat) ∧ bp m (kept m nd P i) (mt m nd p.1) (mt m nd p.2) = kept m nd P (i + 1) := by
 obtain ⟨a, b, c, d⟩ := mt_pair ho hc hp hi
 obtain ⟨e1, e2⟩ := both_new (M := m) a b c (kept_new ho hc hd hp hi)
 rw [e1, e2, kept_len, bec_high]
 refine ⟨by omega, ?_⟩
 show _ = if _ then _ else _
 rw [if_pos hi, List.getD_eq_getElem?_getD, hp]
 rfl
theorem kept_nodup {P : List Pr} (ho : Ok m P) (hc : Clo m nd P) (hd : P.Nodup) : ∀ {i}, i ≤ P.length → (kept m nd P i).Nodup
 | 0, _ => List.nodup_nil
 | i + 1, h => by
  have hr := kept_nodup ho hc hd (i := i) (by omega)
  have hp : P[i]? = some P[i] := List.getElem?_eq_getElem (by omega)
  unfold kept
  split
  ·rename_i hn
   rw [List.nodup_append]
   refine ⟨hr, by simp, fun a ha b hb => ?_⟩
   rw [List.mem_singleton] at hb
   subst hb
   have := kept_new ho hc hd hp hn
   rw [List.getD_eq_getElem?_getD, hp]
   exact fun z => this (z ▸ ha)
  ·exact hr
theorem kept_ok {P : List Pr} (ho : Ok m P) (hc : Clo m nd P) {i : Nat} (h : i ≤ P.length) : Ok m (kept m nd P i) := by
 intro r q hq
 obtain ⟨j, p, h1, h2, h3, h4, rfl⟩ := kept_of h hq
 have := mt_pair ho hc h4 h2
 subst h3
 exact this
theorem kept_none {P : List Pr} (h : ∀ i, nd (m + 1 + i) = false) : ∀ i, kept m nd P i = []
 | 0 => rfl
 | i + 1 => by unfold kept; rw [h i]; exact kept_none h i
end sw
def mark (L : List Bool) (t : Int) : List Bool := L.set (t / 2).toNat true
def marks (L : List Bool) (ts : List Int) : List Bool := ts.foldl mark L
def look (m : Nat) (P : List Pr) (L : List Bool) (j : Nat) : List Bool :=
 if L.getD (m + 1 + j) false then mark (mark L (P.getD j (0, 0)).1) (P.getD j (0, 0)).2 else L
def down (m : Nat) (P : List Pr) (L : List Bool) : Nat → List Bool
 | 0 => L
 | i + 1 => look m P (down m P L i) (P.length - 1 - i)
def needL (m : Nat) (P : List Pr) (ts : List Int) : List Bool := down m P (marks (List.replicate (1 + m + P.length) false) ts) P.length
def need (m : Nat) (P : List Pr) (ts : List Int) (k : Nat) : Bool := (needL m P ts).getD k false
theorem mark_len (L : List Bool) (t : Int) : (mark L t).length = L.length := List.length_set ..
theorem marks_len : ∀ (ts : List Int) (L : List Bool), (marks L ts).length = L.length
 | [], L => rfl
 | t :: r, L => (marks_len r (mark L t)).trans (mark_len L t)
theorem look_len (m : Nat) (P : List Pr) (L : List Bool) (j : Nat) : (look m P L j).length = L.length := by
 unfold look; split
 ·rw [mark_len, mark_len]
 ·rfl
theorem down_len (m : Nat) (P : List Pr) (L : List Bool) : ∀ i, (down m P L i).length = L.length
 | 0 => rfl
 | i + 1 => by unfold down; rw [look_len, down_len m P L i]
theorem needL_len (m : Nat) (P : List Pr) (ts : List Int) : (needL m P ts).length = 1 + m + P.length := by
 unfold needL; rw [down_len, marks_len, List.length_replicate]
theorem mark_get (L : List Bool) (t : Int) (k : Nat) : (mark L t).getD k false = true ↔ L.getD k false = true ∨ (k = (t / 2).toNat ∧ k < L.length) := by
 unfold mark
 rw [List.getD_eq_getElem?_getD, List.getD_eq_getElem?_getD, List.getElem?_set]
 by_cases e : (t / 2).toNat = k
 ·rw [if_pos e]
  subst e
  by_cases l : (t / 2).toNat < L.length
  ·rw [if_pos l]; simp [l]
  ·rw [if_neg l]; simp [l]
 ·rw [if_neg e]
  constructor
  ·exact .inl
  ·rintro (h | ⟨h, _⟩)
   ·exact h
   ·exact absurd h.symm e
theorem marks_get : ∀ (ts : List Int) (L : List Bool) (k : Nat), (marks L ts).getD k false = true ↔ L.getD k false = true ∨ ((∃ t ∈ ts, k = (t / 2).toNat) ∧ k < L.length)
 | [], L, k => by simp [marks]
 | t :: r, L, k => by
  show (marks (mark L t) r).getD k false = true ↔ _
  rw [marks_get r (mark L t) k, mark_get, mark_len]
  simp only [List.mem_cons, exists_eq_or_imp]
  constructor
  ·rintro ((h | ⟨h, l⟩) | ⟨h, l⟩)
   ·exact .inl h
   ·exact .inr ⟨.inl h, l⟩
   ·exact .inr ⟨.inr h, l⟩
  ·rintro (h | ⟨h | h, l⟩)
   ·exact .inl (.inl h)
   ·exact .inl (.inr ⟨h, l⟩)
   ·exact .inr ⟨h, l⟩
theorem look_get (m : Nat) (P : List Pr) (L : List Bool) (j k : Nat) : (look m P L j).getD k false = true ↔
  L.getD k false = true ∨ (L.getD (m + 1 + j) false = true ∧ (k = ((P.getD j (0, 0)).1 / 2).toNat ∨ k = ((P.getD j (0, 0)).2 / 2).toNat) ∧ k < L.length) := by
 unfold look
 split
 ·rename_i h
  rw [mark_get, mark_get, mark_len]
  constructor
  ·rintro ((a | ⟨a, b⟩) | ⟨a, b⟩)
   ·exact .inl a
   ·exact .inr ⟨h, .inl a, b⟩
   ·exact .inr ⟨h, .inr a, b⟩
  ·rintro (a | ⟨_, a | a, b⟩)
   ·exact .inl (.inl a)
   ·exact .inl (.inr ⟨a, b⟩)
   ·exact .inr ⟨a, b⟩
 ·rename_i h
  constructor
  ·exact .inl
  ·rintro (a | ⟨a, _⟩)
   ·exact a
   ·exact absurd a h
theorem down_keep (m : Nat) (P : List Pr) (L : List Bool) (k : Nat) {i : Nat} : ∀ {i'}, i ≤ i' → (down m P L i).getD k false = true → (down m P L i').getD k false = true
  | 0, h, a => by have : i = 0 := by omega
                  subst this; exact a
  | j + 1, h, a => by
    rcases Nat.lt_or_ge i (j + 1) with l | l
    · exact (look_get ..).mpr (.inl (down_keep m P L k (i' := j) (by omega) a))
    · have : i = j + 1 := by omega
      subst this; exact a
theorem down_high {m : Nat} {P : List Pr} (ho : Ok m P) (L : List Bool) {j : Nat} (hj : j < P.length) : ∀ {i}, P.length - j ≤ i → i ≤ P.length → (down m P L i).getD (m + 1 + j) false = true → (down m P L (P.length - 1 - j)).getD (m + 1 + j) false = true
 | 0, h, _, a => by omega
 | i + 1, h, hi, a => by
  have hp : P[P.length - 1 - i]? = some P[P.length - 1 - i] := List.getElem?_eq_getElem (by omega)
  have o := ho _ _ hp
  have e : P.getD (P.length - 1 - i) (0, 0) = P[P.length - 1 - i] := by rw [List.getD_eq_getElem?_getD, hp]; rfl
  rcases (look_get ..).mp a with a | ⟨a, b, _⟩
  ·rcases Nat.lt_or_ge i (P.length - j) with l | l
   ·have : i = P.length - 1 - j := by omega
    subst this; exact a
   ·exact down_high ho L hj l (by omega) a
  ·rw [e] at b
   omega
theorem need_ts {m : Nat} {P : List Pr} {ts : List Int} {t : Int} (ht : t ∈ ts) (h : 0 ≤ t ∧ t < 2 * ((m : Int) + 1 + P.length)) : need m P ts (t / 2).toNat = true :=
 down_keep m P _ _ (i := 0) (Nat.zero_le _) ((marks_get ..).mpr (.inr ⟨⟨t, ht, rfl⟩, by rw [List.length_replicate]; omega⟩))
theorem need_clo {m : Nat} {P : List Pr} (ho : Ok m P) (ts : List Int) : Clo m (need m P ts) P := by
 intro j p hp hn
 have hlt : j < P.length := by
  rcases Nat.lt_or_ge j P.length with z | z
  ·exact z
  ·rw [List.getElem?_eq_none z] at hp; cases hp
 have a := down_high ho _ hlt (i := P.length) (by omega) (Nat.le_refl _) hn
 have o := ho _ _ hp
 have e : P.getD (P.length - 1 - (P.length - 1 - j)) (0, 0) = p := by rw [show P.length - 1 - (P.length - 1 - j) = j by omega, List.getD_eq_getElem?_getD, hp]; rfl
 have key : ∀ k, (k = (p.1 / 2).toNat ∨ k = (p.2 / 2).toNat) → need m P ts k = true := by
  intro k hk
  refine down_keep m P _ _ (i := P.length - 1 - j + 1) (by omega) ((look_get ..).mpr (.inr ⟨?_, ?_, ?_⟩))
  ·rw [show P.length - 1 - (P.length - 1 - j) = j by omega]; exact a
  ·rw [e]; exact hk
  ·rw [down_len, marks_len, List.length_replicate]; omega
 exact ⟨key _ (.inl rfl), key _ (.inr rfl)⟩
theorem need_least {m : Nat} {P : List Pr} {ts : List Int} (S : Nat → Prop) (h1 : ∀ t ∈ ts, S (t / 2).toNat) (h2 : ∀ j p, P[j]? = some p → S (m + 1 + j) → S (p.1 / 2).toNat ∧ S (p.2 / 2).toNat) {k : Nat} (h : need m P ts k = true) : S k := by
 have key : ∀ i, i ≤ P.length → ∀ k, (down m P (marks (List.replicate (1 + m + P.length) false) ts) i).getD k false = true → S k := by
  intro i
  induction i with
  | zero =>
   intro _ k a
   rcases (marks_get ..).mp a with a | ⟨⟨t, ht, rfl⟩, _⟩
   ·rw [List.getD_eq_getElem?_getD, List.getElem?_replicate] at a
    split at a <;> cases a
   ·exact h1 t ht
  | succ i ih =>
   intro hi k a
   have hp : P[P.length - 1 - i]? = some P[P.length - 1 - i] := List.getElem?_eq_getElem (by omega)
   have e : P.getD (P.length - 1 - i) (0, 0) = P[P.length - 1 - i] := by rw [List.getD_eq_getElem?_getD, hp]; rfl
   rcases (look_get ..).mp a with a | ⟨a, b, _⟩
   ·exact ih (by omega) k a
   ·rw [e] at b
    have := h2 _ _ hp (ih (by omega) _ a)
    rcases b with rfl | rfl
    ·exact this.1
    ·exact this.2
 exact key P.length (Nat.le_refl _) k h
def swP (m : Nat) (P : List Pr) (ts : List Int) : List Pr := kept m (need m P ts) P P.length
def swT (m : Nat) (P : List Pr) (ts : List Int) : List Int := ts.map (mt m (need m P ts))
def Tis (m : Nat) (P : List Pr) (ts : List Int) : Prop := ∀ t ∈ ts, 0 ≤ t ∧ t < 2 * ((m : Int) + 1 + P.length)
theorem swP_ok {m : Nat} {P : List Pr} (ho : Ok m P) (ts : List Int) : Ok m (swP m P ts) := kept_ok ho (need_clo ho ts) (Nat.le_refl _)
theorem swP_nd {m : Nat} {P : List Pr} (ho : Ok m P) (hd : P.Nodup) (ts : List Int) : (swP m P ts).Nodup := kept_nodup ho (need_clo ho ts) hd (Nat.le_refl _)
theorem swP_len (m : Nat) (P : List Pr) (ts : List Int) : (swP m P ts).length ≤ P.length := by
 unfold swP; rw [kept_len]; exact cnt_le _
theorem bt_told {m : Int} {ps : List Pr} {p : Pr} {j : Nat} (ho : Ok m ps) (hn : ps.Nodup) (h : ps[j]? = some p) : bt m ps p.1 p.2 = 2 * (1 + m + j) ∧ bp m ps p.1 p.2 = ps ∧ bt m ps p.2 p.1 = 2 * (1 + m + j) ∧ bp m ps p.2 p.1 = ps := by
 obtain ⟨a, b⟩ := told_again ho hn h
 rw [bt_comm m ps p.2, bp_comm m ps p.2, b]
 exact ⟨by omega, rfl, by omega, rfl⟩
end MF
namespace MF
end MF
namespace MF
section rs
variable (st : Nat → Bool)
def lookS (m : Nat) (P : List Pr) (L : List Bool) (j : Nat) : List Bool :=
 if L.getD (m + 1 + j) false && !(st (m + 1 + j)) then mark (mark L (P.getD j (0, 0)).1) (P.getD j (0, 0)).2 else L
def downS (m : Nat) (P : List Pr) (L : List Bool) : Nat → List Bool
 | 0 => L
 | i + 1 => lookS st m P (downS m P L i) (P.length - 1 - i)
def reachL (m : Nat) (P : List Pr) (ts : List Int) : List Bool := downS st m P (marks (List.replicate (1 + m + P.length) false) ts) P.length
def reach (m : Nat) (P : List Pr) (ts : List Int) (k : Nat) : Bool := (reachL st m P ts).getD k false
def reached (m : Nat) (P : List Pr) (ts : List Int) : List Nat := (List.range (1 + m + P.length)).filter (reach st m P ts)
variable {st}
theorem lookS_len (m : Nat) (P : List Pr) (L : List Bool) (j : Nat) : (lookS st m P L j).length = L.length := by
 unfold lookS; split
 ·rw [mark_len, mark_len]
 ·rfl
theorem downS_len (m : Nat) (P : List Pr) (L : List Bool) : ∀ i, (downS st m P L i).length = L.length
 | 0 => rfl
 | i + 1 => by unfold downS; rw [lookS_len, downS_len m P L i]
theorem lookS_get (m : Nat) (P : List Pr) (L : List Bool) (j k : Nat) : (lookS st m P L j).getD k false = true ↔
  L.getD k false = true ∨ ((L.getD (m + 1 + j) false = true ∧ st (m + 1 + j) = false) ∧ (k = ((P.getD j (0, 0)).1 / 2).toNat ∨ k = ((P.getD j (0, 0)).2 / 2).toNat) ∧ k < L.length) := by
 unfold lookS
 split
 ·rename_i h
  have h' : L.getD (m + 1 + j) false = true ∧ st (m + 1 + j) = false := by simpa using h
  rw [mark_get, mark_get, mark_len]
  constructor
  ·rintro ((a | ⟨a, b⟩) | ⟨a, b⟩)
   ·exact .inl a
   ·exact .inr ⟨h', .inl a, b⟩
   ·exact .inr ⟨h', .inr a, b⟩
  ·rintro (a | ⟨_, a | a, b⟩)
   ·exact .inl (.inl a)
   ·exact .inl (.inr ⟨a, b⟩)
   ·exact .inr ⟨a, b⟩
 ·rename_i h
  constructor
  ·exact .inl
  ·rintro (a | ⟨a, _⟩)
   ·exact a
   ·exact absurd (by simpa using a) h
theorem downS_keep (m : Nat) (P : List Pr) (L : List Bool) (k : Nat) {i : Nat} : ∀ {i'}, i ≤ i' → (downS st m P L i).getD k false = true → (downS st m P L i').getD k false = true
  | 0, h, a => by have : i = 0 := by omega
                  subst this; exact a
  | j + 1, h, a => by
    rcases Nat.lt_or_ge i (j + 1) with l | l
    · exact (lookS_get ..).mpr (.inl (downS_keep m P L k (i' := j) (by omega) a))
    · have : i = j + 1 := by omega
      subst this; exact a
theorem reach_ts {m : Nat} {P : List Pr} {ts : List Int} {t : Int} (ht : t ∈ ts) (h : 0 ≤ t ∧ t < 2 * ((m : Int) + 1 + P.length)) : reach st m P ts (t / 2).toNat = true :=
 downS_keep m P _ _ (i := 0) (Nat.zero_le _) ((marks_get ..).mpr (.inr ⟨⟨t, ht, rfl⟩, by rw [List.length_replicate]; omega⟩))
theorem lookS_none (m : Nat) (P : List Pr) (L : List Bool) (j : Nat) : lookS (fun _ => false) m P L j = look m P L j := by
 unfold lookS look
 simp
theorem downS_none (m : Nat) (P : List Pr) (L : List Bool) : ∀ i, downS (fun _ => false) m P L i = down m P L i
 | 0 => rfl
 | i + 1 => by unfold downS down; rw [downS_none m P L i, lookS_none]
theorem reach_none (m : Nat) (P : List Pr) (ts : List Int) : reach (fun _ => false) m P ts = need m P ts := by
 funext k
 unfold reach reachL need needL
 rw [downS_none]
end rs
theorem tie2 (k : Nat) : (2 * (k : Int) / 2).toNat = k := by omega
theorem reach_self {st : Nat → Bool} {m : Nat} {P : List Pr} {n : Nat} (h : n < 1 + m + P.length) : reach st m P [2 * (n : Int)] n = true := by
 have := reach_ts (st := st) (m := m) (P := P) (ts := [2 * (n : Int)]) (List.mem_singleton.mpr rfl) (by omega)
 rwa [tie2] at this
structure HungAt (st : Nat → Bool) (m : Nat) (P : List Pr) (n i : Nat) (S : Nat → Prop) : Prop where
 self : S n
 low : ∀ k, S k → reach st m P [2 * (n : Int)] k = true
 clo : ∀ j p, P[j]? = some p → m + 1 + j ≤ n → n - (m + 1 + j) < i → S (m + 1 + j) → st (m + 1 + j) = false → S (p.1 / 2).toNat ∧ S (p.2 / 2).toNat
theorem HungAt.new {st : Nat → Bool} {m : Nat} {P : List Pr} {n : Nat} {S : Nat → Prop} (h : ∀ k, S k ↔ k = n) (hn : n < 1 + m + P.length) : HungAt st m P n 0 S :=
 ⟨(h n).mpr rfl, fun k hk => by rw [(h k).mp hk]; exact reach_self hn, fun j p _ _ hi => absurd hi (Nat.not_lt_zero _)⟩
end MF
set_option maxHeartbeats 4000000
namespace K16
open PySem PySem.Spec PyProof.Rows L2
def top (i : Nat) : Stmt := PySem.Challenge.pw_gatefold_k16_folded_tidy.main.body.getD i (.Pass ⟨0, 0, 0, 0⟩)
abbrev s_reached : Stmt := top 5
abbrev N_reached : List Str := ["fold", "knots", "stops", "seen", "knot", "tie"]
theorem sc_reached : FnScope N_reached ["fold", "knots", "stops"] (defScope s_reached) := ⟨rfl, rfl, rfl, by decide +kernel, rfl, by decide +kernel, by decide +kernel⟩
abbrev s_turned : Stmt := top 9
abbrev N_turned : List Str := ["tie"]
theorem sc_turned : FnScope N_turned ["tie"] (defScope s_turned) := ⟨rfl, rfl, rfl, by decide +kernel, rfl, by decide +kernel, by decide +kernel⟩
abbrev s_Fold___init__ : Stmt := inClass (top 10) 0
abbrev N_Fold___init__ : List Str := ["self", "many"]
theorem sc_Fold___init__ : FnScope N_Fold___init__ ["self", "many"] (defScope s_Fold___init__) := ⟨rfl, rfl, rfl, by decide +kernel, rfl, by decide +kernel, by decide +kernel⟩
abbrev s_Fold_total : Stmt := inClass (top 10) 1
abbrev N_Fold_total : List Str := ["self"]
theorem sc_Fold_total : FnScope N_Fold_total ["self"] (defScope s_Fold_total) := ⟨rfl, rfl, rfl, by decide +kernel, rfl, by decide +kernel, by decide +kernel⟩
abbrev s_Fold_has_tie : Stmt := inClass (top 10) 2
abbrev N_Fold_has_tie : List Str := ["self", "tie"]
theorem sc_Fold_has_tie : FnScope N_Fold_has_tie ["self", "tie"] (defScope s_Fold_has_tie) := ⟨rfl, rfl, rfl, by decide +kernel, rfl, by decide +kernel, by decide +kernel⟩
abbrev s_Fold_pair : Stmt := inClass (top 10) 3
abbrev N_Fold_pair : List Str := ["self", "knot"]
theorem sc_Fold_pair : FnScope N_Fold_pair ["self", "knot"] (defScope s_Fold_pair) := ⟨rfl, rfl, rfl, by decide +kernel, rfl, by decide +kernel, by decide +kernel⟩
abbrev s_Fold_both : Stmt := inClass (top 10) 4
abbrev N_Fold_both : List Str := ["self", "one", "other", "first", "second"]
theorem sc_Fold_both : FnScope N_Fold_both ["self", "one", "other"] (defScope s_Fold_both) := ⟨rfl, rfl, rfl, by decide +kernel, rfl, by decide +kernel, by decide +kernel⟩
abbrev s_Fold_and_knot : Stmt := inClass (top 10) 5
abbrev N_Fold_and_knot : List Str := ["self", "ties"]
theorem sc_Fold_and_knot : FnScope N_Fold_and_knot ["self", "ties"] (defScope s_Fold_and_knot) := ⟨rfl, rfl, rfl, by decide +kernel, rfl, by decide +kernel, by decide +kernel⟩
abbrev s_and_tie : Stmt := top 12
abbrev N_and_tie : List Str := ["fold", "ties", "told", "tie"]
theorem sc_and_tie : FnScope N_and_tie ["fold", "ties"] (defScope s_and_tie) := ⟨rfl, rfl, rfl, by decide +kernel, rfl, by decide +kernel, by decide +kernel⟩
abbrev s_or_tie : Stmt := top 13
abbrev N_or_tie : List Str := ["fold", "ties"]
theorem sc_or_tie : FnScope N_or_tie ["fold", "ties"] (defScope s_or_tie) := ⟨rfl, rfl, rfl, by decide +kernel, rfl, by decide +kernel, by decide +kernel⟩
abbrev s_either_of_two : Stmt := top 14
abbrev N_either_of_two : List Str := ["fold", "one", "other", "first", "second"]
theorem sc_either_of_two : FnScope N_either_of_two ["fold", "one", "other"] (defScope s_either_of_two) := ⟨rfl, rfl, rfl, by decide +kernel, rfl, by decide +kernel, by decide +kernel⟩
abbrev s_either_tie : Stmt := top 15
abbrev N_either_tie : List Str := ["fold", "ties", "told", "tie"]
theorem sc_either_tie : FnScope N_either_tie ["fold", "ties"] (defScope s_either_tie) := ⟨rfl, rfl, rfl, by decide +kernel, rfl, by decide +kernel, by decide +kernel⟩
abbrev s_choose_tie : Stmt := top 16
abbrev N_choose_tie : List Str := ["fold", "ties", "first", "second"]
theorem sc_choose_tie : FnScope N_choose_tie ["fold", "ties"] (defScope s_choose_tie) := ⟨rfl, rfl, rfl, by decide +kernel, rfl, by decide +kernel, by decide +kernel⟩
abbrev s_most_tie : Stmt := top 17
abbrev N_most_tie : List Str := ["fold", "ties", "first", "second", "third"]
theorem sc_most_tie : FnScope N_most_tie ["fold", "ties"] (defScope s_most_tie) := ⟨rfl, rfl, rfl, by decide +kernel, rfl, by decide +kernel, by decide +kernel⟩
abbrev s_gate_tie : Stmt := top 18
abbrev N_gate_tie : List Str := ["fold", "word", "ties"]
theorem sc_gate_tie : FnScope N_gate_tie ["fold", "word", "ties"] (defScope s_gate_tie) := ⟨rfl, rfl, rfl, by decide +kernel, rfl, by decide +kernel, by decide +kernel⟩
abbrev s_moved_tie : Stmt := top 19
abbrev N_moved_tie : List Str := ["moved", "tie"]
theorem sc_moved_tie : FnScope N_moved_tie ["moved", "tie"] (defScope s_moved_tie) := ⟨rfl, rfl, rfl, by decide +kernel, rfl, by decide +kernel, by decide +kernel⟩
abbrev s_swept : Stmt := top 20
abbrev N_swept : List Str := ["fold", "ties", "clean", "moved", "knot", "pair"]
theorem sc_swept : FnScope N_swept ["fold", "ties"] (defScope s_swept) := ⟨rfl, rfl, rfl, by decide +kernel, rfl, by decide +kernel, by decide +kernel⟩
abbrev s_folded : Stmt := top 21
abbrev N_folded : List Str := ["net", "fold", "known", "knot", "name", "word", "parts"]
theorem sc_folded : FnScope N_folded ["net"] (defScope s_folded) := ⟨rfl, rfl, rfl, by decide +kernel, rfl, by decide +kernel, by decide +kernel⟩
abbrev s_Net___init__ : Stmt := inClass (top 34) 0
abbrev N_Net___init__ : List Str := ["self", "inputs", "gates", "outputs"]
theorem sc_Net___init__ : FnScope N_Net___init__ ["self", "inputs", "gates", "outputs"] (defScope s_Net___init__) := ⟨rfl, rfl, rfl, by decide +kernel, rfl, by decide +kernel, by decide +kernel⟩
abbrev s_law_cell_at : Stmt := top 36
abbrev N_law_cell_at : List Str := ["_law_script", "_law_k"]
theorem sc_law_cell_at : FnScope N_law_cell_at ["_law_script", "_law_k"] (defScope s_law_cell_at) := ⟨rfl, rfl, rfl, by decide +kernel, rfl, by decide +kernel, by decide +kernel⟩
abbrev s_law_gate : Stmt := top 37
abbrev N_law_gate : List Str := ["_law_name", "_law_cell", "_law_names", "_law_word", "_law_size", "_law_late", "_law_parts", "_law_j", "_law_count"]
theorem sc_law_gate : FnScope N_law_gate ["_law_name", "_law_cell", "_law_names"] (defScope s_law_gate) := ⟨rfl, rfl, rfl, by decide +kernel, rfl, by decide +kernel, by decide +kernel⟩
abbrev s_law_both : Stmt := top 38
abbrev N_law_both : List Str := ["_law_book", "_law_one", "_law_other", "_law_low", "_law_high"]
theorem sc_law_both : FnScope N_law_both ["_law_book", "_law_one", "_law_other"] (defScope s_law_both) := ⟨rfl, rfl, rfl, by decide +kernel, rfl, by decide +kernel, by decide +kernel⟩
abbrev s_law_all : Stmt := top 39
abbrev N_law_all : List Str := ["_law_book", "_law_some", "_law_found", "_law_tie"]
theorem sc_law_all : FnScope N_law_all ["_law_book", "_law_some"] (defScope s_law_all) := ⟨rfl, rfl, rfl, by decide +kernel, rfl, by decide +kernel, by decide +kernel⟩
abbrev s_law_any : Stmt := top 40
abbrev N_law_any : List Str := ["_law_book", "_law_some"]
theorem sc_law_any : FnScope N_law_any ["_law_book", "_law_some"] (defScope s_law_any) := ⟨rfl, rfl, rfl, by decide +kernel, rfl, by decide +kernel, by decide +kernel⟩
abbrev s_law_due : Stmt := top 41
abbrev N_law_due : List Str := ["_law_book", "_law_word", "_law_some", "_law_found", "_law_tie", "_law_one", "_law_other"]
theorem sc_law_due : FnScope N_law_due ["_law_book", "_law_word", "_law_some"] (defScope s_law_due) := ⟨rfl, rfl, rfl, by decide +kernel, rfl, by decide +kernel, by decide +kernel⟩
abbrev s_law_folded : Stmt := top 42
abbrev N_law_folded : List Str := ["_law_many", "_law_gates", "_law_names", "_law_outputs_here", "_law_book", "_law_known", "_law_k", "_law_name", "_law_word", "_law_parts", "_law_pairs", "_law_need", "_law_became", "_law_left", "_law_low", "_law_high"]
theorem sc_law_folded : FnScope N_law_folded ["_law_many", "_law_gates", "_law_names", "_law_outputs_here"] (defScope s_law_folded) := ⟨rfl, rfl, rfl, by decide +kernel, rfl, by decide +kernel, by decide +kernel⟩
abbrev s_law_right : Stmt := top 43
abbrev N_law_right : List Str := ["_law_found", "_law_many", "_law_due_here", "_law_left", "_law_ties", "_law_k", "_law_pair", "_law_tie"]
theorem sc_law_right : FnScope N_law_right ["_law_found", "_law_many", "_law_due_here"] (defScope s_law_right) := ⟨rfl, rfl, rfl, by decide +kernel, rfl, by decide +kernel, by decide +kernel⟩
abbrev s_law_outputs : Stmt := top 44
abbrev N_law_outputs : List Str := ["_law_cell", "_law_count", "_law_names", "_law_outputs_here", "_law_j", "_law_late", "_law_size"]
theorem sc_law_outputs : FnScope N_law_outputs ["_law_cell", "_law_count", "_law_names"] (defScope s_law_outputs) := ⟨rfl, rfl, rfl, by decide +kernel, rfl, by decide +kernel, by decide +kernel⟩
abbrev s_law : Stmt := top 45
abbrev N_law : List Str := ["_law_script", "_law_many", "_law_some", "_law_names", "_law_inputs", "_law_gates", "_law_sure", "_law_k", "_law_cell", "_law_name", "_law_outputs_here", "_law_handed", "_law_found", "_law_fold", "_law_ties"]
theorem sc_law : FnScope N_law ["_law_script"] (defScope s_law) := ⟨rfl, rfl, rfl, by decide +kernel, rfl, by decide +kernel, by decide +kernel⟩
structure Adr where
 f_reached : Addr
 d_reached : FuncData
 f_turned : Addr
 d_turned : FuncData
 f_Fold___init__ : Addr
 d_Fold___init__ : FuncData
 f_Fold_total : Addr
 d_Fold_total : FuncData
 f_Fold_has_tie : Addr
 d_Fold_has_tie : FuncData
 f_Fold_pair : Addr
 d_Fold_pair : FuncData
 f_Fold_both : Addr
 d_Fold_both : FuncData
 f_Fold_and_knot : Addr
 d_Fold_and_knot : FuncData
 f_and_tie : Addr
 d_and_tie : FuncData
 f_or_tie : Addr
 d_or_tie : FuncData
 f_either_of_two : Addr
 d_either_of_two : FuncData
 f_either_tie : Addr
 d_either_tie : FuncData
 f_choose_tie : Addr
 d_choose_tie : FuncData
 f_most_tie : Addr
 d_most_tie : FuncData
 f_gate_tie : Addr
 d_gate_tie : FuncData
 f_moved_tie : Addr
 d_moved_tie : FuncData
 f_swept : Addr
 d_swept : FuncData
 f_folded : Addr
 d_folded : FuncData
 f_Net___init__ : Addr
 d_Net___init__ : FuncData
 f_law_cell_at : Addr
 d_law_cell_at : FuncData
 f_law_gate : Addr
 d_law_gate : FuncData
 f_law_both : Addr
 d_law_both : FuncData
 f_law_all : Addr
 d_law_all : FuncData
 f_law_any : Addr
 d_law_any : FuncData
 f_law_due : Addr
 d_law_due : FuncData
 f_law_folded : Addr
 d_law_folded : FuncData
 f_law_right : Addr
 d_law_right : FuncData
 f_law_outputs : Addr
 d_law_outputs : FuncData
 f_law : Addr
 d_law : FuncData
 c_Fold : Addr
 c_Net : Addr
def gv_ALWAYS (_ : Adr) : V := .int 1
def gv_NEVER (_ : Adr) : V := .int 0
structure Txt (K : PySem.W.Frag) (mg : Str → Option Value) (a : Adr) : Prop where
 mg_reached : mg "reached" = some (.ref a.f_reached)
 fn_reached : Fun K "reached" "reached" s_reached a.f_reached a.d_reached
 bi_reached : Binds K a.d_reached ["fold", "knots", "stops"] []
 mg_turned : mg "turned" = some (.ref a.f_turned)
 fn_turned : Fun K "turned" "turned" s_turned a.f_turned a.d_turned
 bi_turned : Binds K a.d_turned ["tie"] []
 fn_Fold___init__ : Fun K "__init__" "Fold.__init__" s_Fold___init__ a.f_Fold___init__ a.d_Fold___init__
 bi_Fold___init__ : Binds K a.d_Fold___init__ ["self", "many"] []
 fn_Fold_total : Fun K "total" "Fold.total" s_Fold_total a.f_Fold_total a.d_Fold_total
 bi_Fold_total : Binds K a.d_Fold_total ["self"] []
 me_Fold_total : Meth K a.c_Fold "total" a.f_Fold_total
 fn_Fold_has_tie : Fun K "has_tie" "Fold.has_tie" s_Fold_has_tie a.f_Fold_has_tie a.d_Fold_has_tie
 bi_Fold_has_tie : Binds K a.d_Fold_has_tie ["self", "tie"] []
 me_Fold_has_tie : Meth K a.c_Fold "has_tie" a.f_Fold_has_tie
 fn_Fold_pair : Fun K "pair" "Fold.pair" s_Fold_pair a.f_Fold_pair a.d_Fold_pair
 bi_Fold_pair : Binds K a.d_Fold_pair ["self", "knot"] []
 me_Fold_pair : Meth K a.c_Fold "pair" a.f_Fold_pair
 fn_Fold_both : Fun K "both" "Fold.both" s_Fold_both a.f_Fold_both a.d_Fold_both
 bi_Fold_both : Binds K a.d_Fold_both ["self", "one", "other"] []
 me_Fold_both : Meth K a.c_Fold "both" a.f_Fold_both
 fn_Fold_and_knot : Fun K "and_knot" "Fold.and_knot" s_Fold_and_knot a.f_Fold_and_knot a.d_Fold_and_knot
 bi_Fold_and_knot : Binds K a.d_Fold_and_knot ["self", "ties"] []
 me_Fold_and_knot : Meth K a.c_Fold "and_knot" a.f_Fold_and_knot
 mg_and_tie : mg "and_tie" = some (.ref a.f_and_tie)
 fn_and_tie : Fun K "and_tie" "and_tie" s_and_tie a.f_and_tie a.d_and_tie
 bi_and_tie : Binds K a.d_and_tie ["fold", "ties"] []
 mg_or_tie : mg "or_tie" = some (.ref a.f_or_tie)
 fn_or_tie : Fun K "or_tie" "or_tie" s_or_tie a.f_or_tie a.d_or_tie
 bi_or_tie : Binds K a.d_or_tie ["fold", "ties"] []
 mg_either_of_two : mg "either_of_two" = some (.ref a.f_either_of_two)
 fn_either_of_two : Fun K "either_of_two" "either_of_two" s_either_of_two a.f_either_of_two a.d_either_of_two
 bi_either_of_two : Binds K a.d_either_of_two ["fold", "one", "other"] []
 mg_either_tie : mg "either_tie" = some (.ref a.f_either_tie)
 fn_either_tie : Fun K "either_tie" "either_tie" s_either_tie a.f_either_tie a.d_either_tie
 bi_either_tie : Binds K a.d_either_tie ["fold", "ties"] []
 mg_choose_tie : mg "choose_tie" = some (.ref a.f_choose_tie)
 fn_choose_tie : Fun K "choose_tie" "choose_tie" s_choose_tie a.f_choose_tie a.d_choose_tie
 bi_choose_tie : Binds K a.d_choose_tie ["fold", "ties"] []
 mg_most_tie : mg "most_tie" = some (.ref a.f_most_tie)
 fn_most_tie : Fun K "most_tie" "most_tie" s_most_tie a.f_most_tie a.d_most_tie
 bi_most_tie : Binds K a.d_most_tie ["fold", "ties"] []
 mg_gate_tie : mg "gate_tie" = some (.ref a.f_gate_tie)
 fn_gate_tie : Fun K "gate_tie" "gate_tie" s_gate_tie a.f_gate_tie a.d_gate_tie
 bi_gate_tie : Binds K a.d_gate_tie ["fold", "word", "ties"] []
 mg_moved_tie : mg "moved_tie" = some (.ref a.f_moved_tie)
 fn_moved_tie : Fun K "moved_tie" "moved_tie" s_moved_tie a.f_moved_tie a.d_moved_tie
 bi_moved_tie : Binds K a.d_moved_tie ["moved", "tie"] []
 mg_swept : mg "swept" = some (.ref a.f_swept)
 fn_swept : Fun K "swept" "swept" s_swept a.f_swept a.d_swept
 bi_swept : Binds K a.d_swept ["fold", "ties"] []
 mg_folded : mg "folded" = some (.ref a.f_folded)
 fn_folded : Fun K "folded" "folded" s_folded a.f_folded a.d_folded
 bi_folded : Binds K a.d_folded ["net"] []
 fn_Net___init__ : Fun K "__init__" "Net.__init__" s_Net___init__ a.f_Net___init__ a.d_Net___init__
 bi_Net___init__ : Binds K a.d_Net___init__ ["self", "inputs", "gates", "outputs"] []
 mg_law_cell_at : mg "_law_cell_at" = some (.ref a.f_law_cell_at)
 fn_law_cell_at : Fun K "_law_cell_at" "_law_cell_at" s_law_cell_at a.f_law_cell_at a.d_law_cell_at
 bi_law_cell_at : Binds K a.d_law_cell_at ["_law_script", "_law_k"] []
 mg_law_gate : mg "_law_gate" = some (.ref a.f_law_gate)
 fn_law_gate : Fun K "_law_gate" "_law_gate" s_law_gate a.f_law_gate a.d_law_gate
 bi_law_gate : Binds K a.d_law_gate ["_law_name", "_law_cell", "_law_names"] []
 mg_law_both : mg "_law_both" = some (.ref a.f_law_both)
 fn_law_both : Fun K "_law_both" "_law_both" s_law_both a.f_law_both a.d_law_both
 bi_law_both : Binds K a.d_law_both ["_law_book", "_law_one", "_law_other"] []
 mg_law_all : mg "_law_all" = some (.ref a.f_law_all)
 fn_law_all : Fun K "_law_all" "_law_all" s_law_all a.f_law_all a.d_law_all
 bi_law_all : Binds K a.d_law_all ["_law_book", "_law_some"] []
 mg_law_any : mg "_law_any" = some (.ref a.f_law_any)
 fn_law_any : Fun K "_law_any" "_law_any" s_law_any a.f_law_any a.d_law_any
 bi_law_any : Binds K a.d_law_any ["_law_book", "_law_some"] []
 mg_law_due : mg "_law_due" = some (.ref a.f_law_due)
 fn_law_due : Fun K "_law_due" "_law_due" s_law_due a.f_law_due a.d_law_due
 bi_law_due : Binds K a.d_law_due ["_law_book", "_law_word", "_law_some"] []
 mg_law_folded : mg "_law_folded" = some (.ref a.f_law_folded)
 fn_law_folded : Fun K "_law_folded" "_law_folded" s_law_folded a.f_law_folded a.d_law_folded
 bi_law_folded : Binds K a.d_law_folded ["_law_many", "_law_gates", "_law_names", "_law_outputs_here"] []
 mg_law_right : mg "_law_right" = some (.ref a.f_law_right)
 fn_law_right : Fun K "_law_right" "_law_right" s_law_right a.f_law_right a.d_law_right
 bi_law_right : Binds K a.d_law_right ["_law_found", "_law_many", "_law_due_here"] []
 mg_law_outputs : mg "_law_outputs" = some (.ref a.f_law_outputs)
 fn_law_outputs : Fun K "_law_outputs" "_law_outputs" s_law_outputs a.f_law_outputs a.d_law_outputs
 bi_law_outputs : Binds K a.d_law_outputs ["_law_cell", "_law_count", "_law_names"] []
 mg_law : mg "law" = some (.ref a.f_law)
 fn_law : Fun K "law" "law" s_law a.f_law a.d_law
 bi_law : Binds K a.d_law ["_law_script"] []
 mg_Fold : mg "Fold" = some (.ref a.c_Fold)
 cl_Fold : Cls K a.c_Fold
 mk_Fold : Mk K a.c_Fold a.f_Fold___init__
 na_Fold_many : NoAttr K a.c_Fold "many"
 na_Fold_pairs : NoAttr K a.c_Fold "pairs"
 na_Fold_knots : NoAttr K a.c_Fold "knots"
 mg_Net : mg "Net" = some (.ref a.c_Net)
 cl_Net : Cls K a.c_Net
 mk_Net : Mk K a.c_Net a.f_Net___init__
 na_Net_inputs : NoAttr K a.c_Net "inputs"
 na_Net_gates : NoAttr K a.c_Net "gates"
 na_Net_outputs : NoAttr K a.c_Net "outputs"
 gx_ALWAYS : ∃ u, mg "ALWAYS" = some u ∧ RelV (gv_ALWAYS a) u
 gx_NEVER : ∃ u, mg "NEVER" = some u ∧ RelV (gv_NEVER a) u
 no_bool : mg "bool" = none
 no_dict : mg "dict" = none
 no_enumerate : mg "enumerate" = none
 no_int : mg "int" = none
 no_isinstance : mg "isinstance" = none
 no_len : mg "len" = none
 no_list : mg "list" = none
 no_max : mg "max" = none
 no_min : mg "min" = none
 no_range : mg "range" = none
 no_reversed : mg "reversed" = none
 no_tuple : mg "tuple" = none
seal PE PT PS PSs PA PG PGs PI PO PW PTs PPs PK PC PSet PIp OpR UnR CallR IxR SlR MtR MtM tMid
local macro_rules | `(tactic| walk_at "go") => `(tactic| try simp only [tSeq, tAsg, gName, gTup, gCons, gNil, gSub, tOp, tC, cVar, cI2, cI2c, cAdd, cMul, cEq, cNe, cIsNot, cBool, cTst, cTru, cChain, tRet, tDrop, tIfS, tIf, tCall, tCons, tNil, tNext, tCB, cLen, cInt, cIsinst, cMin, cMax, tNot, tOr, tAnd, cAndV, tUn, cNeg, tFor_list, tFor_tup, tFor_rng1, tFor_rng2, tComp_list, tComp_tup, tComp_rng1, cRef, cInt1, cInt2, cIx, tSl, cSlU, cPart, tNoPart, tVals, tLst_n, tTup_n, tDNewK_n, cList_n, cTuple_n, tDGet, tDNotIn, sDPut, tBM, tMake, tMeth, tFld, sFld, tyV, cListRange, tNo, cDictP, tUnf, tFor_dT, tComp_dT, cLenT, tFor_rngD, tFor_revR, cMulL, tFor_enum, tDNewT_n, List.append_nil, List.cons_append, List.nil_append, List.getElem?_cons_zero, List.getElem?_cons_succ, List.set_cons_zero, List.set_cons_succ, decide_eq_true_eq, if_true, if_false, Bool.false_eq_true, eq_self, decide_true, decide_false, Bool.not_true, Bool.not_false, Bool.not_eq_true', decide_eq_false_iff_not, Bool.and_true, Bool.true_and])
local macro_rules | `(tactic| walk_at "sd") => `(tactic| first | exact And.intro (by decide) (by decide) | decide | omega | exact Or.inl (And.intro (by omega) (by omega)) | exact Or.inr (And.intro (by omega) (by omega)) | exact And.intro (by omega) (And.intro (by omega) (by decide)) | exact And.intro (by omega) (by omega))
local macro_rules | `(tactic| walk_at "gs") => `(tactic| (walk_at "go"; repeat (first | (refine And.intro (by walk_at "sd") ?_; walk_at "go"))))
local macro_rules | `(tactic| walk_at "o") => `(tactic| first | exact Or.inl rfl | exact Or.inr rfl)
variable {P : Program} {w : World} {K : PySem.W.Frag} {mg : Str → Option Value} {base : Heap} {a : Adr}
def sp_turned (_ : PySem.W.Frag) : Sp := fun vs H Q _ => ∃ t : Int, vs = [.int t] ∧ 0 ≤ t ∧ Q (.int (MF.tn t)) H
def rd_turned (K : PySem.W.Frag) : TS := (tRet (tOp (cI2 fun i j => .int (Builtin.bitXor i j)) (cVar 0) (tC (.int 1))))
theorem tm_turned (T : Txt K mg a) {cdv : Value} {A : Around} {outer : List Env} {s : Shared} {H : Hp} {E : XK} (hr : Room 0 (A.deeper (envOfC "turned" (defScope s_turned) s.heap.objs.size a.f_turned cdv))) :
  PSs (cxOf CX0 P w K mg base N_turned "turned" (defScope s_turned) a.f_turned cdv A outer s H E).nox (defBody s_turned) (rd_turned K) :=
 (pss_one (ps_ret (pe_op o_xor (cv 0) pe_int)))
theorem ok_turned (T : Txt K mg a) : FnOk P w K mg base CX0 1 a.f_turned a.d_turned ["tie"] (sp_turned K) := by
 refine T.fn_turned.ok sc_turned (fun vs H Q E h => ?_) (fun cdv A outer s H vs Q E hr h => ⟨_, tm_turned T hr, ?_⟩)
 ·obtain ⟨t, rfl, _⟩ := h; rfl
 ·obtain ⟨t, rfl, h0, q⟩ := h
  show rd_turned K _ [some (.int t)] H
  unfold rd_turned
  walk_at "go"
  rw [xor_one h0]
  exact q
def sp_Fold___init__ (a : Adr) (K : PySem.W.Frag) : Sp := fun vs H Q _ => ∃ (x dx : Addr) (m : Int), vs = [.ref x, .int m] ∧ H x = some (.ins a.c_Fold dx []) ∧
 ∀ H' pl kl, (∀ b o, b ≠ x → H b = some o → H' b = some o) → H pl = none → H kl = none → FoldAt a.c_Fold H' x m [] dx pl kl → Q .non H'
def rd_Fold___init__ (K : PySem.W.Frag) : TS := (tSeq (sFld K (cVar 0) (cVar 1) "many")
  (tSeq (sFld K (cVar 0) (tLst tNil) "pairs")
  (sFld K (cVar 0) tDNewT "knots")))
theorem tm_Fold___init__ (T : Txt K mg a) {cdv : Value} {A : Around} {outer : List Env} {s : Shared} {H : Hp} {E : XK} (hr : Room 0 (A.deeper (envOfC "Fold.__init__" (defScope s_Fold___init__) s.heap.objs.size a.f_Fold___init__ cdv))) :
  PSs (cxOf CX0 P w K mg base N_Fold___init__ "Fold.__init__" (defScope s_Fold___init__) a.f_Fold___init__ cdv A outer s H E).nox (defBody s_Fold___init__) (rd_Fold___init__ K) :=
 (pss_cons (ps_fld (cv 0) (cv 1) rfl)
   (pss_cons (ps_fld (cv 0) (pe_lst pa_nil) rfl)
   (pss_one (ps_fld (cv 0) pe_dnewT rfl))))
theorem ok_Fold___init__ (T : Txt K mg a) : FnOk P w K mg base CX0 1 a.f_Fold___init__ a.d_Fold___init__ ["self", "many"] (sp_Fold___init__ a K) := by
 refine T.fn_Fold___init__.ok sc_Fold___init__ (fun vs H Q E h => ?_) (fun cdv A outer s H vs Q E hr h => ⟨_, tm_Fold___init__ T hr, ?_⟩)
 ·obtain ⟨x, dx, m, rfl, _⟩ := h; rfl
 ·obtain ⟨x, dx, m, rfl, hx, q⟩ := h
  show rd_Fold___init__ K _ [some (.ref x), some (.int m)] H
  unfold rd_Fold___init__
  walk_at "go"
  refine ⟨x, a.c_Fold, dx, [], rfl, hx, T.cl_Fold, T.na_Fold_many, by decide, ?_⟩
  walk_at "go"
  refine ⟨by decide, fun pl H2 n2 => ?_⟩
  have x2 := n2.same _ _ (upd_same (H := H) (a := x) (o := .ins a.c_Fold dx (putF "many" (.int m) [])))
  refine ⟨x, a.c_Fold, dx, _, rfl, x2, T.cl_Fold, T.na_Fold_pairs, by have := length_putF "many" (.int m) []; simp only [List.length_nil] at this; omega, ?_⟩
  walk_at "go"
  intro kl H4 n4
  have x4 := n4.same _ _ (upd_same (H := H2) (a := x) (o := .ins a.c_Fold dx (putF "pairs" (.ref pl) (putF "many" (.int m) []))))
  refine ⟨x, a.c_Fold, dx, _, rfl, x4, T.cl_Fold, T.na_Fold_knots, by have h7 := length_putF "many" (.int m) []; have h8 := length_putF "pairs" (.ref pl) (putF "many" (.int m) []); simp only [List.length_nil] at h7; omega, ?_⟩
  have hpx : pl ≠ x := fun e => by have := n2.was; rw [e, upd_same] at this; cases this
  have hkx : kl ≠ x := fun e => by have := n4.was; rw [e, upd_same] at this; cases this
  have hp4 : H4 pl = some (.lst []) := n4.same _ _ (by rw [upd_ne hpx]; exact n2.at_)
  have hk4 : H4 kl = some (.dT []) := n4.at_
  have st : ∀ b o, b ≠ x → H b = some o → H4 b = some o := fun b o nb e => n4.same _ _ (by rw [upd_ne nb]; exact n2.same _ _ (by rw [upd_ne nb]; exact e))
  have nop : H pl = none := by
   have := n2.was
   rw [upd_ne hpx] at this
   exact this
  have nok : H kl = none := by
   have h1 := n4.was
   rw [upd_ne hkx] at h1
   have h2 := n2.same.nil h1
   rw [upd_ne hkx] at h2
   exact h2
  refine q _ pl kl (fun b o nb e => by rw [upd_ne nb]; exact st b o nb e) nop nok ⟨?_, ?_, ?_, fun e he => nomatch he⟩
  ·rw [upd_same]
   have e1 : putF "knots" (.ref kl) (putF "pairs" (.ref pl) (putF "many" (.int m) [])) = ([("many", V.int m), ("pairs", V.ref pl), ("knots", V.ref kl)] : List (Str × V)) := by
    have z1 : ¬ ("many" : Str) = "pairs" := by decide +kernel
    have z2 : ¬ ("many" : Str) = "knots" := by decide +kernel
    have z3 : ¬ ("pairs" : Str) = "knots" := by decide +kernel
    simp [putF, z1, z2, z3]
   rw [e1]
  ·rw [upd_ne hpx]; exact hp4
  ·rw [upd_ne hkx]; exact hk4
def sp_Fold_total (a : Adr) (_ : PySem.W.Frag) : Sp := fun vs H Q _ => ∃ (f dx pl kl : Addr) (m : Int) (es : List En), vs = [.ref f] ∧ FoldAt a.c_Fold H f m es dx pl kl ∧ Q (.int (1 + m + es.length)) H
def rd_Fold_total (K : PySem.W.Frag) : TS := (tRet (tOp cAdd (tOp cAdd (tC (.int 1)) (tFld K (cVar 0) "many")) (tCB (cLen K) (tCons (tFld K (cVar 0) "pairs") tNil))))
theorem tm_Fold_total (T : Txt K mg a) {cdv : Value} {A : Around} {outer : List Env} {s : Shared} {H : Hp} {E : XK} (hr : Room 0 (A.deeper (envOfC "Fold.total" (defScope s_Fold_total) s.heap.objs.size a.f_Fold_total cdv))) :
  PSs (cxOf CX0 P w K mg base N_Fold_total "Fold.total" (defScope s_Fold_total) a.f_Fold_total cdv A outer s H E).nox (defBody s_Fold_total) (rd_Fold_total K) :=
 (pss_one (ps_ret (pe_op o_add (pe_op o_add pe_int (pe_fld (cv 0) rfl)) (pe_callB c_len (by rfl) T.no_len PySem.boot_len (pa_cons (pe_fld (cv 0) rfl) pa_nil)))))
theorem ok_Fold_total (T : Txt K mg a) : FnOk P w K mg base CX0 1 a.f_Fold_total a.d_Fold_total ["self"] (sp_Fold_total a K) := by
 refine T.fn_Fold_total.ok sc_Fold_total (fun vs H Q E h => ?_) (fun cdv A outer s H vs Q E hr h => ⟨_, tm_Fold_total T hr, ?_⟩)
 ·obtain ⟨f, dx, pl, kl, m, es, rfl, _⟩ := h; rfl
 ·obtain ⟨f, dx, pl, kl, m, es, rfl, hf, q⟩ := h
  show rd_Fold_total K _ [some (.ref f)] H
  unfold rd_Fold_total
  walk_at "go"
  refine ⟨f, a.c_Fold, dx, _, _, rfl, hf.ins, T.cl_Fold, T.na_Fold_many, rfl, ?_⟩
  walk_at "go"
  refine ⟨f, a.c_Fold, dx, _, _, rfl, hf.ins, T.cl_Fold, T.na_Fold_pairs, rfl, ?_⟩
  walk_at "go"
  refine .inl ⟨_, .inl (.of hf.prs.lst), ?_⟩
  rw [List.length_map]
  exact q
def sp_Fold_has_tie (a : Adr) (_ : PySem.W.Frag) : Sp := fun vs H Q _ => ∃ (f dx pl kl : Addr) (m t : Int) (es : List En), vs = [.ref f, .int t] ∧ FoldAt a.c_Fold H f m es dx pl kl ∧ Q (.bl (decide (0 ≤ t ∧ t < 2 * (1 + m + es.length)))) H
def rd_Fold_has_tie (a : Adr) (K : PySem.W.Frag) : TS := (tRet (cChain (cI2 fun i j => .bl (decide (i ≤ j))) (cI2 fun i j => .bl (decide (i < j))) (tC (.int 0)) (cVar 1) (tOp cMul (tC (.int 2)) (tMeth a.c_Fold "total" (sp_Fold_total a K) [] E0 (cVar 0) tNil))))
theorem tm_Fold_has_tie (T : Txt K mg a) {cdv : Value} {A : Around} {outer : List Env} {s : Shared} {H : Hp} {E : XK} (hr : Room 1 (A.deeper (envOfC "Fold.has_tie" (defScope s_Fold_has_tie) s.heap.objs.size a.f_Fold_has_tie cdv))) :
  PSs (cxOf CX0 P w K mg base N_Fold_has_tie "Fold.has_tie" (defScope s_Fold_has_tie) a.f_Fold_has_tie cdv A outer s H E).nox (defBody s_Fold_has_tie) (rd_Fold_has_tie a K) :=
 (pss_one (ps_ret (e_chain o_le o_lt pe_int (cv 1) (pe_op o_mul pe_int (pe_meth0 (cv 0) T.cl_Fold T.me_Fold_total (ok_Fold_total T) (hr.mono (by decide)) T.bi_Fold_total .nil pass0)))))
theorem ok_Fold_has_tie (T : Txt K mg a) : FnOk P w K mg base CX0 2 a.f_Fold_has_tie a.d_Fold_has_tie ["self", "tie"] (sp_Fold_has_tie a K) := by
 refine T.fn_Fold_has_tie.ok sc_Fold_has_tie (fun vs H Q E h => ?_) (fun cdv A outer s H vs Q E hr h => ⟨_, tm_Fold_has_tie T hr, ?_⟩)
 ·obtain ⟨f, dx, pl, kl, m, t, es, rfl, _⟩ := h; rfl
 ·obtain ⟨f, dx, pl, kl, m, t, es, rfl, hf, q⟩ := h
  show rd_Fold_has_tie a K _ [some (.ref f), some (.int t)] H
  unfold rd_Fold_has_tie
  walk_at "go"
  by_cases h0 : 0 ≤ t
  ·rw [if_pos h0]
   refine ⟨f, dx, _, rfl, hf.ins, rfl, f, dx, pl, kl, m, es, rfl, hf, ?_⟩
   walk_at "go"
   refine ⟨.inl ⟨by decide, by decide⟩, ?_⟩
   have e : decide (t < 2 * (1 + m + (es.length : Int))) = decide (0 ≤ t ∧ t < 2 * (1 + m + es.length)) := by rw [decide_eq_decide]; omega
   rw [e]
   exact q
  ·rw [if_neg h0]
   have e : false = decide (0 ≤ t ∧ t < 2 * (1 + m + (es.length : Int))) := by rw [decide_eq_false (by omega)]
   rw [e]
   exact q
def sp_Fold_pair (a : Adr) (_ : PySem.W.Frag) : Sp := fun vs H Q _ => ∃ (f dx pl kl : Addr) (m k : Int) (es : List En), vs = [.ref f, .int k] ∧ FoldAt a.c_Fold H f m es dx pl kl ∧ 0 ≤ k ∧ k < 1 + m + es.length ∧
 (k ≤ m → Q .non H) ∧ (∀ e, m < k → es[(k - m - 1).toNat]? = some e → Q (.ref e.1) H)
def rd_Fold_pair (a : Adr) (K : PySem.W.Frag) : TS := (tSeq (tIfS (tOr (cTst (tOp (cI2 fun i j => .bl (decide (i < j))) (cVar 1) (tC (.int 0)))) (cTst (tOp (cI2 fun i j => .bl (decide (j ≤ i))) (cVar 1) (tMeth a.c_Fold "total" (sp_Fold_total a K) [] E0 (cVar 0) tNil)))) tNo tNext)
  (tSeq (tIfS (cTst (tOp (cI2 fun i j => .bl (decide (i ≤ j))) (cVar 1) (tFld K (cVar 0) "many"))) (tRet (tC .non)) tNext)
  (tRet (tOp (cIx K) (tFld K (cVar 0) "pairs") (tOp (cI2 fun i j => .int (i - j)) (tOp (cI2 fun i j => .int (i - j)) (cVar 1) (tFld K (cVar 0) "many")) (tC (.int 1)))))))
theorem tm_Fold_pair (T : Txt K mg a) {cdv : Value} {A : Around} {outer : List Env} {s : Shared} {H : Hp} {E : XK} (hr : Room 1 (A.deeper (envOfC "Fold.pair" (defScope s_Fold_pair) s.heap.objs.size a.f_Fold_pair cdv))) :
  PSs (cxOf CX0 P w K mg base N_Fold_pair "Fold.pair" (defScope s_Fold_pair) a.f_Fold_pair cdv A outer s H E).nox (defBody s_Fold_pair) (rd_Fold_pair a K) :=
 (pss_cons (ps_if (PW.pt (pw_or (t_cmp o_lt (cv 1) pe_int (nomark _)) (pw_or1 (t_cmp o_ge (cv 1) (pe_meth0 (cv 0) T.cl_Fold T.me_Fold_total (ok_Fold_total T) (hr.mono (by decide)) T.bi_Fold_total .nil pass0) (nomark _))))) (pss_one ps_no) pss_nil)
   (pss_cons (ps_if (t_cmp o_le (cv 1) (pe_fld (cv 0) rfl) (nomark _)) (pss_one (ps_ret pe_non)) pss_nil)
   (pss_one (ps_ret (pe_ix i_seq (pe_fld (cv 0) rfl) (pe_op o_sub (pe_op o_sub (cv 1) (pe_fld (cv 0) rfl)) pe_int) (fun _ _ => rfl))))))
theorem ok_Fold_pair (T : Txt K mg a) : FnOk P w K mg base CX0 2 a.f_Fold_pair a.d_Fold_pair ["self", "knot"] (sp_Fold_pair a K) := by
 refine T.fn_Fold_pair.ok sc_Fold_pair (fun vs H Q E h => ?_) (fun cdv A outer s H vs Q E hr h => ⟨_, tm_Fold_pair T hr, ?_⟩)
 ·obtain ⟨f, dx, pl, kl, m, k, es, rfl, _⟩ := h; rfl
 ·obtain ⟨f, dx, pl, kl, m, k, es, rfl, hf, h0, h1, q1, q2⟩ := h
  show rd_Fold_pair a K _ [some (.ref f), some (.int k)] H
  unfold rd_Fold_pair
  walk_at "go"
  rw [if_neg (by omega)]
  refine ⟨f, dx, _, rfl, hf.ins, rfl, f, dx, pl, kl, m, es, rfl, hf, ?_⟩
  walk_at "go"
  rw [if_neg (by omega)]
  refine ⟨f, a.c_Fold, dx, _, _, rfl, hf.ins, T.cl_Fold, T.na_Fold_many, rfl, ?_⟩
  walk_at "go"
  by_cases hk : k ≤ m
  ·rw [if_pos hk]
   exact q1 hk
  ·rw [if_neg hk]
   refine ⟨f, a.c_Fold, dx, _, _, rfl, hf.ins, T.cl_Fold, T.na_Fold_pairs, rfl, f, a.c_Fold, dx, _, _, rfl, hf.ins, T.cl_Fold, T.na_Fold_many, rfl, ?_⟩
   walk_at "go"
   have hlt : (k - m - 1).toNat < es.length := by omega
   refine ⟨_, _, .inl (.of hf.prs.lst), atI_ok .non (by omega) (by rw [List.length_map]; omega), ?_⟩
   rw [getD_refs es _ hlt]
   exact q2 _ (by omega) (List.getElem?_eq_getElem hlt)
def sp_Fold_and_knot (a : Adr) (_ : PySem.W.Frag) : Sp := fun vs H Q _ => ∃ (f dx pl kl tp : Addr) (m : Int) (p : MF.Pr) (es : List En), vs = [.ref f, .ref tp] ∧ FoldAt a.c_Fold H f m es dx pl kl ∧ H tp = some (.tup [.int p.1, .int p.2]) ∧ es.length ≤ 5000 ∧
 ∀ H' es', Un2 pl kl H H' → FoldAt a.c_Fold H' f m es' dx pl kl → psOf es' = MF.kp m (psOf es) p → Q (.int (MF.kn m (psOf es) p)) H'
def rd_Fold_and_knot (a : Adr) (K : PySem.W.Frag) : TS := (tMid (tIfS (cTst (tDNotIn (cVar 1) (tFld K (cVar 0) "knots"))) (tSeq (sDPut (tFld K (cVar 0) "knots") (cVar 1) (tMeth a.c_Fold "total" (sp_Fold_total a K) [] E0 (cVar 0) tNil))
  (tDrop (tBM K "list" rAppend (tFld K (cVar 0) "pairs") (tCons (cVar 1) tNil)))) tNext)
  (tRet (tDGet (tFld K (cVar 0) "knots") (cVar 1))))
theorem tm_Fold_and_knot (T : Txt K mg a) {cdv : Value} {A : Around} {outer : List Env} {s : Shared} {H : Hp} {E : XK} (hr : Room 1 (A.deeper (envOfC "Fold.and_knot" (defScope s_Fold_and_knot) s.heap.objs.size a.f_Fold_and_knot cdv))) :
  PSs (cxOf CX0 P w K mg base N_Fold_and_knot "Fold.and_knot" (defScope s_Fold_and_knot) a.f_Fold_and_knot cdv A outer s H E).nox (defBody s_Fold_and_knot) (rd_Fold_and_knot a K) :=
 (pss_mid (ps_if (t_pc (pc_dnotin (hu_of hr) (cv 1) (pe_fld (cv 0) rfl))) (pss_cons (ps_dput (hu_of hr) (pe_fld (cv 0) rfl) (cv 1) (pe_meth0 (cv 0) T.cl_Fold T.me_Fold_total (ok_Fold_total T) (hr.mono (by decide)) T.bi_Fold_total .nil pass0) rfl)
   (pss_one (ps_expr (pe_bm PySem.F.plainAttrs_list PySem.F.slot_list_append PySem.F.type_list_append (mtr mt_append) (pe_fld (cv 0) rfl) (pa_cons (cv 1) pa_nil))))) pss_nil)
   (pss_one (ps_ret (pe_dget (hu_of hr) (pe_fld (cv 0) rfl) (cv 1) (fun _ _ => rfl)))))
theorem ok_Fold_and_knot (T : Txt K mg a) : FnOk P w K mg base CX0 2 a.f_Fold_and_knot a.d_Fold_and_knot ["self", "ties"] (sp_Fold_and_knot a K) := by
 refine T.fn_Fold_and_knot.ok sc_Fold_and_knot (fun vs H Q E h => ?_) (fun cdv A outer s H vs Q E hr h => ⟨_, tm_Fold_and_knot T hr, ?_⟩)
 ·obtain ⟨f, dx, pl, kl, tp, m, p, es, rfl, _⟩ := h; rfl
 ·obtain ⟨f, dx, pl, kl, tp, m, p, es, rfl, hf, ht, hz, q⟩ := h
  show rd_Fold_and_knot a K _ [some (.ref f), some (.ref tp)] H
  unfold rd_Fold_and_knot
  have big : (5001 : Nat) ≤ sizeLine := by decide
  refine mid (fun σ' H' => σ' = [some (.ref f), some (.ref tp)] ∧ Un2 pl kl H H' ∧ ∃ es', FoldAt a.c_Fold H' f m es' dx pl kl ∧ psOf es' = MF.kp m (psOf es) p ∧ MF.fnd (m + 1) (psOf es') p = some (MF.kn m (psOf es) p) ∧ H' tp = some (.tup [.int p.1, .int p.2])) ?_ ?_
  ·intro N hN
   walk_at "go"
   refine ⟨f, a.c_Fold, dx, _, _, rfl, hf.ins, T.cl_Fold, T.na_Fold_knots, rfl, kl, _, rfl, DGet.t (k := knK p) hf.prs.dct ht, ?_⟩
   rw [val_kvF]
   cases hfd : MF.fnd (m + 1) (psOf es) p with
   | some i =>
    walk_at "go"
    refine hN _ _ ⟨rfl, Un2.refl, es, hf, ?_, ?_, ht⟩
    ·unfold MF.kp; rw [hfd]; rfl
    ·unfold MF.kn; rw [hfd]; rfl
   | none =>
    walk_at "go"
    refine ⟨f, dx, _, rfl, hf.ins, rfl, f, dx, pl, kl, m, es, rfl, hf, ?_⟩
    walk_at "go"
    refine ⟨f, a.c_Fold, dx, _, _, rfl, hf.ins, T.cl_Fold, T.na_Fold_knots, rfl, ?_⟩
    walk_at "go"
    refine ⟨kl, _, rfl, DPut.t (k := knK p) hf.prs.dct ht (by rw [len_kvF, List.length_map]; omega), ?_⟩
    have e0 : (1 + m + (es.length : Int)) = (m + 1) + ((psOf es).length : Nat) := by rw [List.length_map]; omega
    rw [e0, put_kvF hfd]
    have nfk : f ≠ kl := ne_of hf.ins hf.prs.dct (fun z => nomatch z)
    have nfl : f ≠ pl := ne_of hf.ins hf.prs.lst (fun z => nomatch z)
    have i2 : upd H kl (.dT (kvF (m + 1) (psOf es ++ [p]))) f = some (.ins a.c_Fold dx [("many", .int m), ("pairs", .ref pl), ("knots", .ref kl)]) := by rw [upd_ne nfk]; exact hf.ins
    have l2 : upd H kl (.dT (kvF (m + 1) (psOf es ++ [p]))) pl = some (.lst (es.map fun e => V.ref e.1)) := by rw [upd_ne hf.prs.nlk]; exact hf.prs.lst
    walk_at "go"
    refine ⟨f, a.c_Fold, dx, _, _, rfl, i2, T.cl_Fold, T.na_Fold_pairs, rfl, ?_⟩
    walk_at "go"
    refine ⟨.inl ⟨by trivial, _, .of l2⟩, pl, _, _, rfl, rfl, l2, by rw [List.length_map]; omega, ?_⟩
    refine hN _ _ ⟨rfl, un_k.trans un_l, es ++ [(tp, p)], ⟨?_, hf.prs.put ht hfd⟩, ?_, ?_, ?_⟩
    ·rw [upd_ne nfl]; exact i2
    ·unfold MF.kp; rw [hfd, psOf, List.map_append]; rfl
    ·unfold MF.kn; rw [hfd, psOf, List.map_append]; exact MF.fnd_snoc hfd
    ·rw [upd_ne (ne_of ht hf.prs.lst (fun z => nomatch z)), upd_ne (ne_of ht hf.prs.dct (fun z => nomatch z))]; exact ht
  ·rintro σ' H' ⟨rfl, u, es', hf', hp', hfd, ht'⟩
   walk_at "go"
   refine ⟨f, a.c_Fold, dx, _, _, rfl, hf'.ins, T.cl_Fold, T.na_Fold_knots, rfl, kl, .int (MF.kn m (psOf es) p), rfl, ?_, q _ es' u hf' hp'⟩
   have := DGet.t (k := knK p) hf'.prs.dct ht'
   rw [val_kvF, hfd] at this
   exact this
def sp_Fold_both (a : Adr) (_ : PySem.W.Frag) : Sp := fun vs H Q _ => ∃ (f dx pl kl : Addr) (m s t : Int) (es : List En), vs = [.ref f, .int s, .int t] ∧ FoldAt a.c_Fold H f m es dx pl kl ∧ 0 ≤ s ∧ 0 ≤ t ∧ s < 2 * (1 + m + es.length) ∧ t < 2 * (1 + m + es.length) ∧ es.length ≤ 5000 ∧
 ∀ H' es', Un2 pl kl H H' → FoldAt a.c_Fold H' f m es' dx pl kl → psOf es' = MF.bp m (psOf es) s t → Q (.int (MF.bt m (psOf es) s t)) H'
def rd_Fold_both (a : Adr) (K : PySem.W.Frag) : TS := (tSeq (tIfS (tOr (tNot (cTru K (tMeth a.c_Fold "has_tie" (sp_Fold_has_tie a K) [] E0 (cVar 0) (tCons (cVar 1) tNil)))) (tNot (cTru K (tMeth a.c_Fold "has_tie" (sp_Fold_has_tie a K) [] E0 (cVar 0) (tCons (cVar 2) tNil))))) tNo tNext)
  (tSeq (tAsg (tCB cMin (tCons (cVar 1) (tCons (cVar 2) tNil))) (gName 3))
  (tSeq (tAsg (tCB cMax (tCons (cVar 1) (tCons (cVar 2) tNil))) (gName 4))
  (tSeq (tIfS (cTst (tOp (cEq K) (cVar 3) (tC (gv_NEVER a)))) (tRet (tC (gv_NEVER a))) tNext)
  (tSeq (tIfS (tOr (cTst (tOp (cEq K) (cVar 3) (tC (gv_ALWAYS a)))) (cTst (tOp (cEq K) (cVar 3) (cVar 4)))) (tRet (cVar 4)) tNext)
  (tSeq (tIfS (cTst (tOp (cEq K) (cVar 3) (tCall (sp_turned K) [] E0 (tCons (cVar 4) tNil)))) (tRet (tC (gv_NEVER a))) tNext)
  (tRet (tOp cMul (tC (.int 2)) (tMeth a.c_Fold "and_knot" (sp_Fold_and_knot a K) [] E0 (cVar 0) (tCons (tTup (tCons (cVar 3) (tCons (cVar 4) tNil))) tNil))))))))))
theorem tm_Fold_both (T : Txt K mg a) {cdv : Value} {A : Around} {outer : List Env} {s : Shared} {H : Hp} {E : XK} (hr : Room 2 (A.deeper (envOfC "Fold.both" (defScope s_Fold_both) s.heap.objs.size a.f_Fold_both cdv))) :
  PSs (cxOf CX0 P w K mg base N_Fold_both "Fold.both" (defScope s_Fold_both) a.f_Fold_both cdv A outer s H E).nox (defBody s_Fold_both) (rd_Fold_both a K) :=
 (pss_cons (ps_if (PW.pt (pw_or (pt_not (pt_tru (pe_meth (cv 0) T.cl_Fold T.me_Fold_has_tie (ok_Fold_has_tie T) (hr.mono (by decide)) T.bi_Fold_has_tie .nil pass0 (pa_cons (cv 1) pa_nil)))) (pw_or1 (pt_not (pt_tru (pe_meth (cv 0) T.cl_Fold T.me_Fold_has_tie (ok_Fold_has_tie T) (hr.mono (by decide)) T.bi_Fold_has_tie .nil pass0 (pa_cons (cv 2) pa_nil))))))) (pss_one ps_no) pss_nil)
   (pss_cons (ps_set (i := 3) sc_Fold_both.nd rfl (by walk_at "o") (pe_callB (c_min rfl) (by rfl) T.no_min PyProof.Rows.boot_min (pa_cons (cv 1) (pa_cons (cv 2) pa_nil))))
   (pss_cons (ps_set (i := 4) sc_Fold_both.nd rfl (by walk_at "o") (pe_callB (c_max rfl) (by rfl) T.no_max PyProof.Rows.boot_max (pa_cons (cv 1) (pa_cons (cv 2) pa_nil))))
   (pss_cons (ps_if (t_cmp (o_eq (hr8 hr)) (cv 3) (pe_globE rfl T.gx_NEVER) (nomark _)) (pss_one (ps_ret (pe_globE rfl T.gx_NEVER))) pss_nil)
   (pss_cons (ps_if (PW.pt (pw_or (t_cmp (o_eq (hr8 hr)) (cv 3) (pe_globE rfl T.gx_ALWAYS) (nomark _)) (pw_or1 (t_cmp (o_eq (hr8 hr)) (cv 3) (cv 4) (nomark _))))) (pss_one (ps_ret (cv 4))) pss_nil)
   (pss_cons (ps_if (t_cmp (o_eq (hr8 hr)) (cv 3) (pe_call (ok_turned T) (hr.mono (by decide)) rfl T.mg_turned T.fn_turned.kp T.bi_turned .nil pass0 (pa_cons (cv 4) pa_nil)) (nomark _)) (pss_one (ps_ret (pe_globE rfl T.gx_NEVER))) pss_nil)
   (pss_one (ps_ret (pe_op o_mul pe_int (pe_meth (cv 0) T.cl_Fold T.me_Fold_and_knot (ok_Fold_and_knot T) (hr.mono (by decide)) T.bi_Fold_and_knot .nil pass0 (pa_cons (pe_tup (pa_cons (cv 3) (pa_cons (cv 4) pa_nil))) pa_nil)))))))))))
theorem ok_Fold_both (T : Txt K mg a) : FnOk P w K mg base CX0 3 a.f_Fold_both a.d_Fold_both ["self", "one", "other"] (sp_Fold_both a K) := by
 refine T.fn_Fold_both.ok sc_Fold_both (fun vs H Q E h => ?_) (fun cdv A outer s H vs Q E hr h => ⟨_, tm_Fold_both T hr, ?_⟩)
 ·obtain ⟨f, dx, pl, kl, m, s, t, es, rfl, _⟩ := h; rfl
 ·obtain ⟨f, dx, pl, kl, m, x, y, es, rfl, hf, hx, hy, hx', hy', hz, q⟩ := h
  show rd_Fold_both a K _ [some (.ref f), some (.int x), some (.int y), none, none] H
  unfold rd_Fold_both gv_NEVER gv_ALWAYS
  walk_at "go"
  refine ⟨f, dx, _, rfl, hf.ins, rfl, f, dx, pl, kl, m, x, es, rfl, hf, ?_⟩
  rw [decide_eq_true (by omega)]
  walk_at "go"
  refine ⟨f, dx, _, rfl, hf.ins, rfl, f, dx, pl, kl, m, y, es, rfl, hf, ?_⟩
  rw [decide_eq_true (by omega)]
  walk_at "go"
  have q' := q
  unfold MF.bt MF.bp MF.sure at q'
  have e1 : (if y < x then y else x) = MF.lo x y := rfl
  have e2 : (if y > x then y else x) = MF.hi x y := rfl
  rw [e1, e2]
  by_cases h1 : MF.lo x y = 0
  ·rw [if_pos h1] at q' ⊢
   exact q' H es Un2.refl hf rfl
  rw [if_neg h1] at q' ⊢
  by_cases h2 : MF.lo x y = 1 ∨ MF.lo x y = MF.hi x y
  ·rw [if_pos h2] at q'
   have fin := q' H es Un2.refl hf rfl
   rcases h2 with h2 | h2
   ·rw [if_pos h2]; exact fin
   ·by_cases h3 : MF.lo x y = 1
    ·rw [if_pos h3]; exact fin
    ·rw [if_neg h3, if_pos h2]; exact fin
  rw [if_neg h2] at q'
  rw [if_neg (fun z => h2 (.inl z)), if_neg (fun z => h2 (.inr z))]
  have hhi : 0 ≤ MF.hi x y := by unfold MF.hi; split <;> omega
  refine ⟨MF.hi x y, rfl, hhi, ?_⟩
  walk_at "go"
  by_cases h3 : MF.lo x y = MF.tn (MF.hi x y)
  ·rw [if_pos h3] at q' ⊢
   exact q' H es Un2.refl hf rfl
  rw [if_neg h3] at q' ⊢
  refine ⟨f, dx, _, rfl, hf.ins, rfl, by show 2 ≤ sizeLine; decide, fun tp H2 n2 => ?_⟩
  have hf2 := hf.same n2.same
  refine ⟨f, dx, pl, kl, tp, m, (MF.lo x y, MF.hi x y), es, rfl, hf2, n2.at_, hz, fun H' es' u hf' hp' => ?_⟩
  walk_at "go"
  refine ⟨.inl ⟨by decide, by decide⟩, q' H' es' (n2.same.un.trans u) hf' hp'⟩
theorem mk_Fold {a : Adr} {K : PySem.W.Frag} {H : Hp} {m : Int} {F : Addr → Hp → Prop} {E : XK} (q : ∀ x dx pl kl H', Same H H' → H x = none → H pl = none → H kl = none → FoldAt a.c_Fold H' x m [] dx pl kl → F x H') :
  ∀ x dx, H x = none → H dx = none → dx ≠ x → sp_Fold___init__ a K [.ref x, .int m] (upd (upd H dx (.own x)) x (.ins a.c_Fold dx [])) (fun v H2 => v = .non ∧ F x H2) E := by
 intro x dx hx hd hne
 refine ⟨x, dx, m, rfl, upd_same, fun H' pl kl st hp hk hf => ⟨rfl, q x dx pl kl H' (fun b o e => ?_) hx ?_ ?_ hf⟩⟩
 ·have n1 : b ≠ x := ne_of_none e hx
  have n2 : b ≠ dx := ne_of_none e hd
  exact st b o n1 (by rw [upd_ne n1, upd_ne n2]; exact e)
 ·cases e : H pl with
  | none => rfl
  | some o =>
   rw [upd_ne (ne_of_none e hx), upd_ne (ne_of_none e hd), e] at hp
   cases hp
 ·cases e : H kl with
  | none => rfl
  | some o =>
   rw [upd_ne (ne_of_none e hx), upd_ne (ne_of_none e hd), e] at hk
   cases hk
def Scr (K : PySem.W.Frag) (H : Hp) (p : Addr) (xs : List V) (L : Addr → Prop) : Prop := (SqL K H p xs ∧ ¬ L p) ∨ ∀ H', SqL K H' p xs
theorem Scr.sq {K : PySem.W.Frag} {H : Hp} {p : Addr} {xs : List V} {L : Addr → Prop} (h : Scr K H p xs L) : SqL K H p xs := h.elim (fun h => h.1) fun h => h H
theorem Scr.keep {K : PySem.W.Frag} {H H' : Hp} {p : Addr} {xs : List V} {L : Addr → Prop} (h : Scr K H p xs L) (k : Keep (fun b => ¬ L b) H H') : Scr K H' p xs L :=
 h.elim (fun h => .inl ⟨k.seq h.2 h.1, h.2⟩) fun h => .inr h
theorem Scr.of {K : PySem.W.Frag} {H : Hp} {p : Addr} {xs : List V} {L : Addr → Prop} (h : SqL K H p xs) (hL : ∀ b, L b → H b = none) : Scr K H p xs L := by
 by_cases n : L p
 ·rcases h with (h | ⟨o, h⟩) | h
  ·rw [hL p n] at h; cases h
  ·rw [hL p n] at h; cases h
  ·exact .inr fun H' => .inr h
 ·exact .inl ⟨h, n⟩
def sp_and_tie (a : Adr) (K : PySem.W.Frag) : Sp := fun vs H Q _ => ∃ (f dx pl kl tp : Addr) (m t0 : Int) (ts : List Int) (es : List En), vs = [.ref f, .ref tp] ∧ FoldAt a.c_Fold H f m es dx pl kl ∧ SqL K H tp ((t0 :: ts).map V.int) ∧ 0 ≤ m ∧ (∀ t ∈ t0 :: ts, MF.InT m (psOf es) t) ∧ es.length ≤ 4000 ∧ ts.length ≤ 100 ∧
 ∀ H' es', Un2 pl kl H H' → FoldAt a.c_Fold H' f m es' dx pl kl → psOf es' = (MF.andR m t0 ts (psOf es)).2 → Q (.int (MF.andR m t0 ts (psOf es)).1) H'
theorem inT_of {m t : Int} {es : List En} (h : MF.InT m (psOf es) t) : 0 ≤ t ∧ t < 2 * (1 + m + es.length) := ⟨h.1, by have := h.2; rw [List.length_map] at this; omega⟩
theorem len_ps (es : List En) : (psOf es).length = es.length := List.length_map ..
theorem at0 (t : Int) (ts : List Int) : atI ((t :: ts).map V.int) 0 = some (.int t) := by rw [atI_ok .non (by omega) (by simp)]; rfl
def rd_and_tie (a : Adr) (K : PySem.W.Frag) : TS := (tSeq (tAsg (tOp (cIx K) (cVar 1) (tC (.int 0))) (gName 2))
  (tSeq (tFor (iList K (tSl (cSlU K) (cVar 1) (cPart (tC (.int 1))) tNoPart)) (gName 3) (tAsg (tMeth a.c_Fold "both" (sp_Fold_both a K) [] E0 (cVar 0) (tCons (cVar 2) (tCons (cVar 3) tNil))) (gName 2)))
  (tRet (cVar 2))))
theorem tm_and_tie (T : Txt K mg a) {cdv : Value} {A : Around} {outer : List Env} {s : Shared} {H : Hp} {E : XK} (hr : Room 3 (A.deeper (envOfC "and_tie" (defScope s_and_tie) s.heap.objs.size a.f_and_tie cdv))) :
  PSs (cxOf CX0 P w K mg base N_and_tie "and_tie" (defScope s_and_tie) a.f_and_tie cdv A outer s H E).nox (defBody s_and_tie) (rd_and_tie a K) :=
 (pss_cons (ps_set (i := 2) sc_and_tie.nd rfl (by walk_at "o") (pe_ix i_seq (cv 1) pe_int (fun _ _ => rfl)))
   (pss_cons (ps_for PassesOwn.never rfl (pi_list (pe_slice s_u (cv 1) (e_part pe_int) po_none)) (pg_name (i := 3) sc_and_tie.nd rfl (by walk_at "o")) (pss_one (ps_set (i := 2) sc_and_tie.nd rfl (by walk_at "o") (pe_meth (cv 0) T.cl_Fold T.me_Fold_both (ok_Fold_both T) (hr.mono (by decide)) T.bi_Fold_both .nil pass0 (pa_cons (cv 2) (pa_cons (cv 3) pa_nil))))))
   (pss_one (ps_ret (cv 2)))))
theorem ok_and_tie (T : Txt K mg a) : FnOk P w K mg base CX0 4 a.f_and_tie a.d_and_tie ["fold", "ties"] (sp_and_tie a K) := by
 refine T.fn_and_tie.ok sc_and_tie (fun vs H Q E h => ?_) (fun cdv A outer s H vs Q E hr h => ⟨_, tm_and_tie T hr, ?_⟩)
 ·obtain ⟨f, dx, pl, kl, tp, m, t0, ts, es, rfl, _⟩ := h; rfl
 ·obtain ⟨f, dx, pl, kl, tp, m, t0, ts, es, rfl, hf, hT, hm, hin, hz, hz2, q⟩ := h
  show rd_and_tie a K _ [some (.ref f), some (.ref tp), none, none] H
  unfold rd_and_tie
  walk_at "gs"
  refine ⟨_, V.int t0, .inl hT, at0 t0 _, ?_⟩
  walk_at "gs"
  refine ⟨_, hT, fun r H1 n1 => ?_⟩
  rw [cut_1] at n1
  have n1' : New H r (.lst (ts.map V.int)) H1 := n1
  have f1 := hf.same n1.same
  have nrp : r ≠ pl := (ne_of_none hf.prs.lst n1.was).symm
  have nrk : r ≠ kl := (ne_of_none hf.prs.dct n1.was).symm
  refine ⟨⟨_, n1'.sq⟩, for_listG (xs := ts.map V.int) (fun i σ H2 => ∃ es2 v, Un2 pl kl H1 H2 ∧ FoldAt a.c_Fold H2 f m es2 dx pl kl ∧ psOf es2 = (MF.andR m t0 (ts.take i) (psOf es)).2 ∧ σ = [some (.ref f), some (.ref tp), some (.int (MF.andR m t0 (ts.take i) (psOf es)).1), v]) ⟨es, _, Un2.refl, f1, rfl, rfl⟩ ?_ ?_ ?_⟩
  ·rintro i σ H2 _ ⟨es2, v, u2, _⟩
   exact .of (u2 _ _ nrp nrk n1'.at_)
  ·rintro i x σ H2 hx ⟨es2, v, u2, f2, q2, rfl⟩
   obtain ⟨t, ht, rfl⟩ := get_map_of hx
   have hi : i < ts.length := (List.getElem?_eq_some_iff.mp ht).1
   have st := MF.andR_st hm (ts.take i) t0 (psOf es) (hin t0 (List.mem_cons_self ..)) fun x hx => hin x (List.mem_cons_of_mem _ (List.mem_of_mem_take hx))
   have i1 := st.inn
   have i2 := (hin t (List.mem_cons_of_mem _ (List.mem_of_getElem? ht))).mono st.lo
   have l2 := st.hi
   rw [← q2] at i1 i2 l2
   rw [len_ps, len_ps, List.length_take] at l2
   have j1 := inT_of i1
   have j2 := inT_of i2
   walk_at "gs"
   refine ⟨f, dx, _, rfl, f2.ins, rfl, f, dx, pl, kl, m, _, t, es2, rfl, f2, j1.1, j2.1, j1.2, j2.2, by omega, fun H3 es3 u3 f3 q3 => ?_⟩
   walk_at "gs"
   have e : MF.andR m t0 (ts.take (i + 1)) (psOf es) = MF.bo m (MF.andR m t0 (ts.take i) (psOf es)).1 t (MF.andR m t0 (ts.take i) (psOf es)).2 := by
    rw [List.take_add_one, ht]
    exact MF.andR_snoc m (ts.take i) t0 t (psOf es)
   refine ⟨es3, some (.int t), u2.trans u3, f3, ?_, ?_⟩
   ·rw [q3, q2, e]; rfl
   ·rw [q2, e]; rfl
  ·rintro σ H2 ⟨es2, v, u2, f2, q2, rfl⟩
   rw [List.length_map, List.take_length] at q2 ⊢
   walk_at "gs"
   exact q H2 es2 (n1.same.un.trans u2) f2 q2
def tnV : V → V | .int i => .int (MF.tn i) | v => v
theorem tnV_map (ts : List Int) : (ts.map V.int).map tnV = (ts.map MF.tn).map V.int := by rw [List.map_map, List.map_map]; rfl
def sp_or_tie (a : Adr) (K : PySem.W.Frag) : Sp := fun vs H Q _ => ∃ (f dx pl kl tp : Addr) (m t0 : Int) (ts : List Int) (es : List En), vs = [.ref f, .ref tp] ∧ FoldAt a.c_Fold H f m es dx pl kl ∧ SqL K H tp ((t0 :: ts).map V.int) ∧ 0 ≤ m ∧ (∀ t ∈ t0 :: ts, MF.InT m (psOf es) t) ∧ es.length ≤ 4000 ∧ ts.length ≤ 100 ∧
 ∀ H' es', Un2 pl kl H H' → FoldAt a.c_Fold H' f m es' dx pl kl → psOf es' = (MF.orR m t0 ts (psOf es)).2 → Q (.int (MF.orR m t0 ts (psOf es)).1) H'
def rd_or_tie (a : Adr) (K : PySem.W.Frag) : TS := (tRet (tCall (sp_turned K) [] E0 (tCons (tCall (sp_and_tie a K) [] E0 (tCons (cVar 0) (tCons (tComp (iList K (cVar 1)) 1 [] (gName 0) tTrue (tCall (sp_turned K) [] E0 (tCons (cVar 0) tNil))) tNil))) tNil)))
theorem tm_or_tie (T : Txt K mg a) {cdv : Value} {A : Around} {outer : List Env} {s : Shared} {H : Hp} {E : XK} (hr : Room 4 (A.deeper (envOfC "or_tie" (defScope s_or_tie) s.heap.objs.size a.f_or_tie cdv))) :
  PSs (cxOf CX0 P w K mg base N_or_tie "or_tie" (defScope s_or_tie) a.f_or_tie cdv A outer s H E).nox (defBody s_or_tie) (rd_or_tie a K) :=
 (pss_one (ps_ret (pe_call (ok_turned T) (hr.mono (by decide)) rfl T.mg_turned T.fn_turned.kp T.bi_turned .nil pass0 (pa_cons (pe_call (ok_and_tie T) (hr.mono (by decide)) rfl T.mg_and_tie T.fn_and_tie.kp T.bi_and_tie .nil pass0 (pa_cons (cv 0) (pa_cons (pe_comp (N := ["tie"]) (k := 1) (sel := []) (CScope.of (defScope s_or_tie).names (by decide +kernel)) (CNames.of N_or_tie (by decide +kernel)) rfl (pi_list (cv 1)) (fun _ _ _ _ => (pg_name (i := 0) (show List.Nodup (["tie"] : List Str) by decide +kernel) rfl (by walk_at "o"))) (fun _ _ _ _ => pts_nil) (fun _ _ _ _ => (pe_call (ok_turned T) (hr.mono (by decide)) rfl T.mg_turned T.fn_turned.kp T.bi_turned .nil pass0 (pa_cons (cv 0) pa_nil)))) pa_nil))) pa_nil))))
theorem ok_or_tie (T : Txt K mg a) : FnOk P w K mg base CX0 5 a.f_or_tie a.d_or_tie ["fold", "ties"] (sp_or_tie a K) := by
 refine T.fn_or_tie.ok sc_or_tie (fun vs H Q E h => ?_) (fun cdv A outer s H vs Q E hr h => ⟨_, tm_or_tie T hr, ?_⟩)
 ·obtain ⟨f, dx, pl, kl, tp, m, t0, ts, es, rfl, _⟩ := h; rfl
 ·obtain ⟨f, dx, pl, kl, tp, m, t0, ts, es, rfl, hf, hT, hm, hin, hz, hz2, q⟩ := h
  show rd_or_tie a K _ [some (.ref f), some (.ref tp)] H
  unfold rd_or_tie
  have big : (1000 : Nat) ≤ sizeLine := by decide
  walk_at "gs"
  refine ⟨⟨_, hT⟩, compG_list tnV hT rfl (by rw [List.length_map, List.length_cons]; omega) ?_ ?_⟩
  ·intro x H' Q' hx _ q'
   obtain ⟨t, ht, rfl⟩ := List.mem_map.mp hx
   walk_at "gs"
   exact ⟨t, rfl, (hin t ht).1, q'⟩
  ·intro r H1 n1
   rw [tnV_map] at n1
   walk_at "gs"
   refine ⟨f, dx, pl, kl, r, m, MF.tn t0, ts.map MF.tn, es, rfl, hf.same n1.same, n1.sq, hm, fun t ht => ?_, hz, by rw [List.length_map]; exact hz2, fun H2 es2 u2 f2 q2 => ?_⟩
   ·obtain ⟨y, hy, rfl⟩ := List.mem_map.mp (show t ∈ (t0 :: ts).map MF.tn from ht)
    exact (hin y hy).tn
   walk_at "gs"
   have st := MF.andR_st hm (ts.map MF.tn) (MF.tn t0) (psOf es) (hin t0 (List.mem_cons_self ..)).tn fun x hx => by
    obtain ⟨y, hy, rfl⟩ := List.mem_map.mp hx
    exact (hin y (List.mem_cons_of_mem _ hy)).tn
   refine ⟨_, rfl, st.inn.1, ?_⟩
   walk_at "gs"
   exact q H2 es2 (n1.same.un.trans u2) f2 q2
def sp_either_of_two (a : Adr) (_ : PySem.W.Frag) : Sp := fun vs H Q _ => ∃ (f dx pl kl : Addr) (m s t : Int) (es : List En), vs = [.ref f, .int s, .int t] ∧ FoldAt a.c_Fold H f m es dx pl kl ∧ 0 ≤ m ∧ MF.InT m (psOf es) s ∧ MF.InT m (psOf es) t ∧ es.length ≤ 3900 ∧
 ∀ H' es', Un2 pl kl H H' → FoldAt a.c_Fold H' f m es' dx pl kl → psOf es' = (MF.eoR m s t (psOf es)).2 → Q (.int (MF.eoR m s t (psOf es)).1) H'
def rd_either_of_two (a : Adr) (K : PySem.W.Frag) : TS := (tSeq (tAsg (tMeth a.c_Fold "both" (sp_Fold_both a K) [] E0 (cVar 0) (tCons (cVar 1) (tCons (tCall (sp_turned K) [] E0 (tCons (cVar 2) tNil)) tNil))) (gName 3))
  (tSeq (tAsg (tMeth a.c_Fold "both" (sp_Fold_both a K) [] E0 (cVar 0) (tCons (tCall (sp_turned K) [] E0 (tCons (cVar 1) tNil)) (tCons (cVar 2) tNil))) (gName 4))
  (tRet (tCall (sp_or_tie a K) [] E0 (tCons (cVar 0) (tCons (tLst (tCons (cVar 3) (tCons (cVar 4) tNil))) tNil))))))
theorem tm_either_of_two (T : Txt K mg a) {cdv : Value} {A : Around} {outer : List Env} {s : Shared} {H : Hp} {E : XK} (hr : Room 5 (A.deeper (envOfC "either_of_two" (defScope s_either_of_two) s.heap.objs.size a.f_either_of_two cdv))) :
  PSs (cxOf CX0 P w K mg base N_either_of_two "either_of_two" (defScope s_either_of_two) a.f_either_of_two cdv A outer s H E).nox (defBody s_either_of_two) (rd_either_of_two a K) :=
 (pss_cons (ps_set (i := 3) sc_either_of_two.nd rfl (by walk_at "o") (pe_meth (cv 0) T.cl_Fold T.me_Fold_both (ok_Fold_both T) (hr.mono (by decide)) T.bi_Fold_both .nil pass0 (pa_cons (cv 1) (pa_cons (pe_call (ok_turned T) (hr.mono (by decide)) rfl T.mg_turned T.fn_turned.kp T.bi_turned .nil pass0 (pa_cons (cv 2) pa_nil)) pa_nil))))
   (pss_cons (ps_set (i := 4) sc_either_of_two.nd rfl (by walk_at "o") (pe_meth (cv 0) T.cl_Fold T.me_Fold_both (ok_Fold_both T) (hr.mono (by decide)) T.bi_Fold_both .nil pass0 (pa_cons (pe_call (ok_turned T) (hr.mono (by decide)) rfl T.mg_turned T.fn_turned.kp T.bi_turned .nil pass0 (pa_cons (cv 1) pa_nil)) (pa_cons (cv 2) pa_nil))))
   (pss_one (ps_ret (pe_call (ok_or_tie T) (hr.mono (by decide)) rfl T.mg_or_tie T.fn_or_tie.kp T.bi_or_tie .nil pass0 (pa_cons (cv 0) (pa_cons (pe_lst (pa_cons (cv 3) (pa_cons (cv 4) pa_nil))) pa_nil)))))))
theorem ok_either_of_two (T : Txt K mg a) : FnOk P w K mg base CX0 6 a.f_either_of_two a.d_either_of_two ["fold", "one", "other"] (sp_either_of_two a K) := by
 refine T.fn_either_of_two.ok sc_either_of_two (fun vs H Q E h => ?_) (fun cdv A outer s H vs Q E hr h => ⟨_, tm_either_of_two T hr, ?_⟩)
 ·obtain ⟨f, dx, pl, kl, m, s, t, es, rfl, _⟩ := h; rfl
 ·obtain ⟨f, dx, pl, kl, m, x, y, es, rfl, hf, hm, hx, hy, hz, q⟩ := h
  show rd_either_of_two a K _ [some (.ref f), some (.int x), some (.int y), none, none] H
  unfold rd_either_of_two
  walk_at "gs"
  have j1 := inT_of hx
  have j2 := inT_of hy.tn
  refine ⟨f, dx, _, rfl, hf.ins, rfl, y, rfl, hy.1, ?_⟩
  walk_at "gs"
  refine ⟨f, dx, pl, kl, m, x, MF.tn y, es, rfl, hf, j1.1, j2.1, j1.2, j2.2, by omega, fun H1 es1 u1 f1 q1 => ?_⟩
  walk_at "gs"
  have s1 := MF.bo_st hm hx hy.tn
  have l1 := s1.hi
  have i1 := hx.tn.mono s1.lo
  have i2 := hy.mono s1.lo
  have i3 := s1.inn
  simp only [MF.bo] at l1 i1 i2 i3
  rw [← q1] at l1 i1 i2 i3
  rw [len_ps, len_ps] at l1
  have k1 := inT_of i1
  have k2 := inT_of i2
  refine ⟨f, dx, _, rfl, f1.ins, rfl, x, rfl, hx.1, ?_⟩
  walk_at "gs"
  refine ⟨f, dx, pl, kl, m, MF.tn x, y, es1, rfl, f1, k1.1, k2.1, k1.2, k2.2, by omega, fun H2 es2 u2 f2 q2 => ?_⟩
  walk_at "gs"
  have s2 := MF.bo_st hm i1 i2
  have l2 := s2.hi
  have i4 := i3.mono s2.lo
  have i5 := s2.inn
  simp only [MF.bo] at l2 i4 i5
  rw [← q2] at l2 i4 i5
  rw [len_ps, len_ps] at l2
  refine ⟨by show 2 ≤ sizeLine; decide, fun r H3 n3 => ?_⟩
  refine ⟨f, dx, pl, kl, r, m, _, [_], es2, rfl, f2.same n3.same, n3.sq, hm, fun z hz' => ?_, by omega, by show 1 ≤ 100; decide, fun H4 es4 u4 f4 q4 => ?_⟩
  ·rcases List.mem_cons.mp hz' with rfl | hz'
   ·exact i4
   ·rw [List.mem_singleton] at hz'
    subst hz'
    exact i5
  walk_at "gs"
  rw [q2, q1] at q4 ⊢
  exact q H4 es4 ((u1.trans u2).trans (n3.same.un.trans u4)) f4 q4
def sp_either_tie (a : Adr) (K : PySem.W.Frag) : Sp := fun vs H Q _ => ∃ (f dx pl kl tp : Addr) (m t0 : Int) (ts : List Int) (es : List En), vs = [.ref f, .ref tp] ∧ FoldAt a.c_Fold H f m es dx pl kl ∧ SqL K H tp ((t0 :: ts).map V.int) ∧ 0 ≤ m ∧ (∀ t ∈ t0 :: ts, MF.InT m (psOf es) t) ∧ es.length ≤ 3500 ∧ ts.length ≤ 100 ∧
 ∀ H' es', Un2 pl kl H H' → FoldAt a.c_Fold H' f m es' dx pl kl → psOf es' = (MF.eiR m t0 ts (psOf es)).2 → Q (.int (MF.eiR m t0 ts (psOf es)).1) H'
def rd_either_tie (a : Adr) (K : PySem.W.Frag) : TS := (tSeq (tAsg (tOp (cIx K) (cVar 1) (tC (.int 0))) (gName 2))
  (tSeq (tFor (iList K (tSl (cSlU K) (cVar 1) (cPart (tC (.int 1))) tNoPart)) (gName 3) (tAsg (tCall (sp_either_of_two a K) [] E0 (tCons (cVar 0) (tCons (cVar 2) (tCons (cVar 3) tNil)))) (gName 2)))
  (tRet (cVar 2))))
theorem tm_either_tie (T : Txt K mg a) {cdv : Value} {A : Around} {outer : List Env} {s : Shared} {H : Hp} {E : XK} (hr : Room 6 (A.deeper (envOfC "either_tie" (defScope s_either_tie) s.heap.objs.size a.f_either_tie cdv))) :
  PSs (cxOf CX0 P w K mg base N_either_tie "either_tie" (defScope s_either_tie) a.f_either_tie cdv A outer s H E).nox (defBody s_either_tie) (rd_either_tie a K) :=
 (pss_cons (ps_set (i := 2) sc_either_tie.nd rfl (by walk_at "o") (pe_ix i_seq (cv 1) pe_int (fun _ _ => rfl)))
   (pss_cons (ps_for PassesOwn.never rfl (pi_list (pe_slice s_u (cv 1) (e_part pe_int) po_none)) (pg_name (i := 3) sc_either_tie.nd rfl (by walk_at "o")) (pss_one (ps_set (i := 2) sc_either_tie.nd rfl (by walk_at "o") (pe_call (ok_either_of_two T) (hr.mono (by decide)) rfl T.mg_either_of_two T.fn_either_of_two.kp T.bi_either_of_two .nil pass0 (pa_cons (cv 0) (pa_cons (cv 2) (pa_cons (cv 3) pa_nil)))))))
   (pss_one (ps_ret (cv 2)))))
theorem ok_either_tie (T : Txt K mg a) : FnOk P w K mg base CX0 7 a.f_either_tie a.d_either_tie ["fold", "ties"] (sp_either_tie a K) := by
 refine T.fn_either_tie.ok sc_either_tie (fun vs H Q E h => ?_) (fun cdv A outer s H vs Q E hr h => ⟨_, tm_either_tie T hr, ?_⟩)
 ·obtain ⟨f, dx, pl, kl, tp, m, t0, ts, es, rfl, _⟩ := h; rfl
 ·obtain ⟨f, dx, pl, kl, tp, m, t0, ts, es, rfl, hf, hT, hm, hin, hz, hz2, q⟩ := h
  show rd_either_tie a K _ [some (.ref f), some (.ref tp), none, none] H
  unfold rd_either_tie
  walk_at "gs"
  refine ⟨_, V.int t0, .inl hT, at0 t0 _, ?_⟩
  walk_at "gs"
  refine ⟨_, hT, fun r H1 n1 => ?_⟩
  rw [cut_1] at n1
  have n1' : New H r (.lst (ts.map V.int)) H1 := n1
  have f1 := hf.same n1.same
  have nrp : r ≠ pl := (ne_of_none hf.prs.lst n1.was).symm
  have nrk : r ≠ kl := (ne_of_none hf.prs.dct n1.was).symm
  refine ⟨⟨_, n1'.sq⟩, for_listG (xs := ts.map V.int) (fun i σ H2 => ∃ es2 v, Un2 pl kl H1 H2 ∧ FoldAt a.c_Fold H2 f m es2 dx pl kl ∧ psOf es2 = (MF.eiR m t0 (ts.take i) (psOf es)).2 ∧ σ = [some (.ref f), some (.ref tp), some (.int (MF.eiR m t0 (ts.take i) (psOf es)).1), v]) ⟨es, _, Un2.refl, f1, rfl, rfl⟩ ?_ ?_ ?_⟩
  ·rintro i σ H2 _ ⟨es2, v, u2, _⟩
   exact .of (u2 _ _ nrp nrk n1'.at_)
  ·rintro i x σ H2 hx ⟨es2, v, u2, f2, q2, rfl⟩
   obtain ⟨t, ht, rfl⟩ := get_map_of hx
   have hi : i < ts.length := (List.getElem?_eq_some_iff.mp ht).1
   have st := MF.eiR_st hm (ts.take i) t0 (psOf es) (hin t0 (List.mem_cons_self ..)) fun x hx => hin x (List.mem_cons_of_mem _ (List.mem_of_mem_take hx))
   have i1 := st.inn
   have i2 := (hin t (List.mem_cons_of_mem _ (List.mem_of_getElem? ht))).mono st.lo
   have l2 := st.hi
   rw [← q2] at i1 i2 l2
   rw [len_ps, len_ps, List.length_take] at l2
   walk_at "gs"
   refine ⟨f, dx, pl, kl, m, _, t, es2, rfl, f2, hm, i1, i2, by omega, fun H3 es3 u3 f3 q3 => ?_⟩
   walk_at "gs"
   have e : MF.eiR m t0 (ts.take (i + 1)) (psOf es) = MF.eoR m (MF.eiR m t0 (ts.take i) (psOf es)).1 t (MF.eiR m t0 (ts.take i) (psOf es)).2 := by
    rw [List.take_add_one, ht]
    exact MF.eiR_snoc m (ts.take i) t0 t (psOf es)
   refine ⟨es3, some (.int t), u2.trans u3, f3, ?_, ?_⟩
   ·rw [q3, q2, e]
   ·rw [q2, e]
  ·rintro σ H2 ⟨es2, v, u2, f2, q2, rfl⟩
   rw [List.length_map, List.take_length] at q2 ⊢
   walk_at "gs"
   exact q H2 es2 (n1.same.un.trans u2) f2 q2
def sp_choose_tie (a : Adr) (K : PySem.W.Frag) : Sp := fun vs H Q _ => ∃ (f dx pl kl tp : Addr) (m r s t : Int) (es : List En), vs = [.ref f, .ref tp] ∧ FoldAt a.c_Fold H f m es dx pl kl ∧ SqL K H tp ([r, s, t].map V.int) ∧ 0 ≤ m ∧ (∀ x ∈ [r, s, t], MF.InT m (psOf es) x) ∧ es.length ≤ 3500 ∧
 ∀ H' es', Un2 pl kl H H' → FoldAt a.c_Fold H' f m es' dx pl kl → psOf es' = (MF.chR m r s t (psOf es)).2 → Q (.int (MF.chR m r s t (psOf es)).1) H'
def rd_choose_tie (a : Adr) (K : PySem.W.Frag) : TS := (tSeq (tAsg (tMeth a.c_Fold "both" (sp_Fold_both a K) [] E0 (cVar 0) (tCons (tOp (cIx K) (cVar 1) (tC (.int 0))) (tCons (tOp (cIx K) (cVar 1) (tC (.int 1))) tNil))) (gName 2))
  (tSeq (tAsg (tMeth a.c_Fold "both" (sp_Fold_both a K) [] E0 (cVar 0) (tCons (tCall (sp_turned K) [] E0 (tCons (tOp (cIx K) (cVar 1) (tC (.int 0))) tNil)) (tCons (tOp (cIx K) (cVar 1) (tC (.int 2))) tNil))) (gName 3))
  (tRet (tCall (sp_or_tie a K) [] E0 (tCons (cVar 0) (tCons (tLst (tCons (cVar 2) (tCons (cVar 3) tNil))) tNil))))))
theorem tm_choose_tie (T : Txt K mg a) {cdv : Value} {A : Around} {outer : List Env} {s : Shared} {H : Hp} {E : XK} (hr : Room 5 (A.deeper (envOfC "choose_tie" (defScope s_choose_tie) s.heap.objs.size a.f_choose_tie cdv))) :
  PSs (cxOf CX0 P w K mg base N_choose_tie "choose_tie" (defScope s_choose_tie) a.f_choose_tie cdv A outer s H E).nox (defBody s_choose_tie) (rd_choose_tie a K) :=
 (pss_cons (ps_set (i := 2) sc_choose_tie.nd rfl (by walk_at "o") (pe_meth (cv 0) T.cl_Fold T.me_Fold_both (ok_Fold_both T) (hr.mono (by decide)) T.bi_Fold_both .nil pass0 (pa_cons (pe_ix i_seq (cv 1) pe_int (fun _ _ => rfl)) (pa_cons (pe_ix i_seq (cv 1) pe_int (fun _ _ => rfl)) pa_nil))))
   (pss_cons (ps_set (i := 3) sc_choose_tie.nd rfl (by walk_at "o") (pe_meth (cv 0) T.cl_Fold T.me_Fold_both (ok_Fold_both T) (hr.mono (by decide)) T.bi_Fold_both .nil pass0 (pa_cons (pe_call (ok_turned T) (hr.mono (by decide)) rfl T.mg_turned T.fn_turned.kp T.bi_turned .nil pass0 (pa_cons (pe_ix i_seq (cv 1) pe_int (fun _ _ => rfl)) pa_nil)) (pa_cons (pe_ix i_seq (cv 1) pe_int (fun _ _ => rfl)) pa_nil))))
   (pss_one (ps_ret (pe_call (ok_or_tie T) (hr.mono (by decide)) rfl T.mg_or_tie T.fn_or_tie.kp T.bi_or_tie .nil pass0 (pa_cons (cv 0) (pa_cons (pe_lst (pa_cons (cv 2) (pa_cons (cv 3) pa_nil))) pa_nil)))))))
theorem ok_choose_tie (T : Txt K mg a) : FnOk P w K mg base CX0 6 a.f_choose_tie a.d_choose_tie ["fold", "ties"] (sp_choose_tie a K) := by
 refine T.fn_choose_tie.ok sc_choose_tie (fun vs H Q E h => ?_) (fun cdv A outer s H vs Q E hr h => ⟨_, tm_choose_tie T hr, ?_⟩)
 ·obtain ⟨f, dx, pl, kl, tp, m, r, s, t, es, rfl, _⟩ := h; rfl
 ·obtain ⟨f, dx, pl, kl, tp, m, x, y, z, es, rfl, hf, hT, hm, hin, hz, q⟩ := h
  show rd_choose_tie a K _ [some (.ref f), some (.ref tp), none, none] H
  unfold rd_choose_tie
  have hx := hin x (by simp)
  have hy := hin y (by simp)
  have hw := hin z (by simp)
  have j1 := inT_of hx
  have j2 := inT_of hy
  walk_at "gs"
  refine ⟨f, dx, _, rfl, hf.ins, rfl, _, _, .inl hT, rfl, _, _, .inl hT, rfl, f, dx, pl, kl, m, x, y, es, rfl, hf, j1.1, j2.1, j1.2, j2.2, by omega, fun H1 es1 u1 f1 q1 => ?_⟩
  walk_at "gs"
  have hT1 := hT.un2 hf.prs.lst hf.prs.dct (ints_ne (by simp)) u1
  have s1 := MF.bo_st hm hx hy
  have l1 := s1.hi
  have i1 := hx.tn.mono s1.lo
  have i2 := hw.mono s1.lo
  have i3 := s1.inn
  simp only [MF.bo] at l1 i1 i2 i3
  rw [← q1] at l1 i1 i2 i3
  rw [len_ps, len_ps] at l1
  have k1 := inT_of i1
  have k2 := inT_of i2
  refine ⟨f, dx, _, rfl, f1.ins, rfl, _, _, .inl hT1, rfl, x, rfl, hx.1, ?_⟩
  walk_at "gs"
  refine ⟨_, _, .inl hT1, rfl, f, dx, pl, kl, m, MF.tn x, z, es1, rfl, f1, k1.1, k2.1, k1.2, k2.2, by omega, fun H2 es2 u2 f2 q2 => ?_⟩
  walk_at "gs"
  have s2 := MF.bo_st hm i1 i2
  have l2 := s2.hi
  have i4 := i3.mono s2.lo
  have i5 := s2.inn
  simp only [MF.bo] at l2 i4 i5
  rw [← q2] at l2 i4 i5
  rw [len_ps, len_ps] at l2
  refine ⟨by show 2 ≤ sizeLine; decide, fun rr H3 n3 => ?_⟩
  refine ⟨f, dx, pl, kl, rr, m, _, [_], es2, rfl, f2.same n3.same, n3.sq, hm, fun z hz' => ?_, by omega, by show 1 ≤ 100; decide, fun H4 es4 u4 f4 q4 => ?_⟩
  ·rcases List.mem_cons.mp hz' with rfl | hz'
   ·exact i4
   ·rw [List.mem_singleton] at hz'
    subst hz'
    exact i5
  walk_at "gs"
  rw [q2, q1] at q4 ⊢
  exact q H4 es4 ((u1.trans u2).trans (n3.same.un.trans u4)) f4 q4
def sp_most_tie (a : Adr) (K : PySem.W.Frag) : Sp := fun vs H Q _ => ∃ (f dx pl kl tp : Addr) (m r s t : Int) (es : List En), vs = [.ref f, .ref tp] ∧ FoldAt a.c_Fold H f m es dx pl kl ∧ SqL K H tp ([r, s, t].map V.int) ∧ 0 ≤ m ∧ (∀ x ∈ [r, s, t], MF.InT m (psOf es) x) ∧ es.length ≤ 3500 ∧
 ∀ H' es', Un2 pl kl H H' → FoldAt a.c_Fold H' f m es' dx pl kl → psOf es' = (MF.moR m r s t (psOf es)).2 → Q (.int (MF.moR m r s t (psOf es)).1) H'
def rd_most_tie (a : Adr) (K : PySem.W.Frag) : TS := (tSeq (tAsg (tMeth a.c_Fold "both" (sp_Fold_both a K) [] E0 (cVar 0) (tCons (tOp (cIx K) (cVar 1) (tC (.int 0))) (tCons (tOp (cIx K) (cVar 1) (tC (.int 1))) tNil))) (gName 2))
  (tSeq (tAsg (tMeth a.c_Fold "both" (sp_Fold_both a K) [] E0 (cVar 0) (tCons (tOp (cIx K) (cVar 1) (tC (.int 0))) (tCons (tOp (cIx K) (cVar 1) (tC (.int 2))) tNil))) (gName 3))
  (tSeq (tAsg (tMeth a.c_Fold "both" (sp_Fold_both a K) [] E0 (cVar 0) (tCons (tOp (cIx K) (cVar 1) (tC (.int 1))) (tCons (tOp (cIx K) (cVar 1) (tC (.int 2))) tNil))) (gName 4))
  (tRet (tCall (sp_or_tie a K) [] E0 (tCons (cVar 0) (tCons (tLst (tCons (cVar 2) (tCons (cVar 3) (tCons (cVar 4) tNil)))) tNil)))))))
theorem tm_most_tie (T : Txt K mg a) {cdv : Value} {A : Around} {outer : List Env} {s : Shared} {H : Hp} {E : XK} (hr : Room 5 (A.deeper (envOfC "most_tie" (defScope s_most_tie) s.heap.objs.size a.f_most_tie cdv))) :
  PSs (cxOf CX0 P w K mg base N_most_tie "most_tie" (defScope s_most_tie) a.f_most_tie cdv A outer s H E).nox (defBody s_most_tie) (rd_most_tie a K) :=
 (pss_cons (ps_set (i := 2) sc_most_tie.nd rfl (by walk_at "o") (pe_meth (cv 0) T.cl_Fold T.me_Fold_both (ok_Fold_both T) (hr.mono (by decide)) T.bi_Fold_both .nil pass0 (pa_cons (pe_ix i_seq (cv 1) pe_int (fun _ _ => rfl)) (pa_cons (pe_ix i_seq (cv 1) pe_int (fun _ _ => rfl)) pa_nil))))
   (pss_cons (ps_set (i := 3) sc_most_tie.nd rfl (by walk_at "o") (pe_meth (cv 0) T.cl_Fold T.me_Fold_both (ok_Fold_both T) (hr.mono (by decide)) T.bi_Fold_both .nil pass0 (pa_cons (pe_ix i_seq (cv 1) pe_int (fun _ _ => rfl)) (pa_cons (pe_ix i_seq (cv 1) pe_int (fun _ _ => rfl)) pa_nil))))
   (pss_cons (ps_set (i := 4) sc_most_tie.nd rfl (by walk_at "o") (pe_meth (cv 0) T.cl_Fold T.me_Fold_both (ok_Fold_both T) (hr.mono (by decide)) T.bi_Fold_both .nil pass0 (pa_cons (pe_ix i_seq (cv 1) pe_int (fun _ _ => rfl)) (pa_cons (pe_ix i_seq (cv 1) pe_int (fun _ _ => rfl)) pa_nil))))
   (pss_one (ps_ret (pe_call (ok_or_tie T) (hr.mono (by decide)) rfl T.mg_or_tie T.fn_or_tie.kp T.bi_or_tie .nil pass0 (pa_cons (cv 0) (pa_cons (pe_lst (pa_cons (cv 2) (pa_cons (cv 3) (pa_cons (cv 4) pa_nil)))) pa_nil))))))))
theorem ok_most_tie (T : Txt K mg a) : FnOk P w K mg base CX0 6 a.f_most_tie a.d_most_tie ["fold", "ties"] (sp_most_tie a K) := by
 refine T.fn_most_tie.ok sc_most_tie (fun vs H Q E h => ?_) (fun cdv A outer s H vs Q E hr h => ⟨_, tm_most_tie T hr, ?_⟩)
 ·obtain ⟨f, dx, pl, kl, tp, m, r, s, t, es, rfl, _⟩ := h; rfl
 ·obtain ⟨f, dx, pl, kl, tp, m, x, y, z, es, rfl, hf, hT, hm, hin, hz, q⟩ := h
  show rd_most_tie a K _ [some (.ref f), some (.ref tp), none, none, none] H
  unfold rd_most_tie
  have hx := hin x (by simp)
  have hy := hin y (by simp)
  have hw := hin z (by simp)
  have j1 := inT_of hx
  have j2 := inT_of hy
  walk_at "gs"
  refine ⟨f, dx, _, rfl, hf.ins, rfl, _, _, .inl hT, rfl, _, _, .inl hT, rfl, f, dx, pl, kl, m, x, y, es, rfl, hf, j1.1, j2.1, j1.2, j2.2, by omega, fun H1 es1 u1 f1 q1 => ?_⟩
  walk_at "gs"
  have hT1 := hT.un2 hf.prs.lst hf.prs.dct (ints_ne (by simp)) u1
  have s1 := MF.bo_st hm hx hy
  have l1 := s1.hi
  have i1 := hx.mono s1.lo
  have i2 := hw.mono s1.lo
  have i3 := s1.inn
  have i2y := hy.mono s1.lo
  simp only [MF.bo] at l1 i1 i2 i3 i2y
  rw [← q1] at l1 i1 i2 i3 i2y
  rw [len_ps, len_ps] at l1
  have k1 := inT_of i1
  have k2 := inT_of i2
  refine ⟨f, dx, _, rfl, f1.ins, rfl, _, _, .inl hT1, rfl, _, _, .inl hT1, rfl, f, dx, pl, kl, m, x, z, es1, rfl, f1, k1.1, k2.1, k1.2, k2.2, by omega, fun H2 es2 u2 f2 q2 => ?_⟩
  walk_at "gs"
  have hT2 := hT1.un2 f1.prs.lst f1.prs.dct (ints_ne (by simp)) u2
  have s2 := MF.bo_st hm i1 i2
  have l2 := s2.hi
  have i4 := i3.mono s2.lo
  have i5 := s2.inn
  have i6 := i2y.mono s2.lo
  have i7 := i2.mono s2.lo
  simp only [MF.bo] at l2 i4 i5 i6 i7
  rw [← q2] at l2 i4 i5 i6 i7
  rw [len_ps, len_ps] at l2
  have k3 := inT_of i6
  have k4 := inT_of i7
  refine ⟨f, dx, _, rfl, f2.ins, rfl, _, _, .inl hT2, rfl, _, _, .inl hT2, rfl, f, dx, pl, kl, m, y, z, es2, rfl, f2, k3.1, k4.1, k3.2, k4.2, by omega, fun H3 es3 u3 f3 q3 => ?_⟩
  walk_at "gs"
  have s3 := MF.bo_st hm i6 i7
  have l3 := s3.hi
  have i8 := i4.mono s3.lo
  have i9 := i5.mono s3.lo
  have i10 := s3.inn
  simp only [MF.bo] at l3 i8 i9 i10
  rw [← q3] at l3 i8 i9 i10
  rw [len_ps, len_ps] at l3
  refine ⟨by show 3 ≤ sizeLine; decide, fun rr H4 n4 => ?_⟩
  refine ⟨f, dx, pl, kl, rr, m, _, [_, _], es3, rfl, f3.same n4.same, n4.sq, hm, fun z hz' => ?_, by omega, by show 2 ≤ 100; decide, fun H5 es5 u5 f5 q5 => ?_⟩
  ·rcases List.mem_cons.mp hz' with rfl | hz'
   ·exact i8
   rcases List.mem_cons.mp hz' with rfl | hz'
   ·exact i9
   ·rw [List.mem_singleton] at hz'
    subst hz'
    exact i10
  walk_at "gs"
  rw [q3, q2, q1] at q5 ⊢
  exact q H5 es5 (((u1.trans u2).trans u3).trans (n4.same.un.trans u5)) f5 q5
def WdOk (w : Str) (ts : List Int) : Prop := ((w = "and" ∨ w = "or" ∨ w = "either" ∨ w = "not") → ts ≠ []) ∧ ((w = "choose" ∨ w = "most") → ts.length = 3) ∧ ts.length ≤ 6
def gtR (m : Int) (w : Str) (ts : List Int) (ps : List MF.Pr) : MF.RS :=
 if w = "and" then MF.andR m (ts.headD 0) ts.tail ps else if w = "or" then MF.orR m (ts.headD 0) ts.tail ps else if w = "either" then MF.eiR m (ts.headD 0) ts.tail ps else
 if w = "not" then (MF.tn (ts.headD 0), ps) else if w = "choose" then MF.chR m (ts.getD 0 0) (ts.getD 1 0) (ts.getD 2 0) ps else if w = "most" then MF.moR m (ts.getD 0 0) (ts.getD 1 0) (ts.getD 2 0) ps else
 ((if w = "yes" then 1 else 0), ps)
theorem gtR_st {m : Int} (hm : 0 ≤ m) {w : Str} {ts : List Int} {ps : List MF.Pr} (hw : WdOk w ts) (h : ∀ t ∈ ts, MF.InT m ps t) : MF.St m ps 15 (gtR m w ts ps) := by
 have hd : ts ≠ [] → MF.InT m ps (ts.headD 0) ∧ ∀ x ∈ ts.tail, MF.InT m ps x := fun hn => by
  cases ts with
  | nil => exact absurd rfl hn
  | cons t r => exact ⟨h t (List.mem_cons_self ..), fun x hx => h x (List.mem_cons_of_mem _ hx)⟩
 have h3 : ts.length = 3 → MF.InT m ps (ts.getD 0 0) ∧ MF.InT m ps (ts.getD 1 0) ∧ MF.InT m ps (ts.getD 2 0) := fun hn => by
  match ts, hn with
  | [x, y, z], _ => exact ⟨h x (by simp), h y (by simp), h z (by simp)⟩
 have hl := hw.2.2
 have htl : ts.tail.length ≤ 5 := by rw [List.length_tail]; omega
 unfold gtR
 by_cases h1 : w = "and"
 ·rw [if_pos h1]
  obtain ⟨a1, a2⟩ := hd (hw.1 (.inl h1))
  exact (MF.andR_st hm _ _ ps a1 a2).weak (by omega)
 rw [if_neg h1]
 by_cases h2 : w = "or"
 ·rw [if_pos h2]
  obtain ⟨a1, a2⟩ := hd (hw.1 (.inr (.inl h2)))
  exact (MF.orR_st hm _ _ ps a1 a2).weak (by omega)
 rw [if_neg h2]
 by_cases h4 : w = "either"
 ·rw [if_pos h4]
  obtain ⟨a1, a2⟩ := hd (hw.1 (.inr (.inr (.inl h4))))
  exact (MF.eiR_st hm _ _ ps a1 a2).weak (by omega)
 rw [if_neg h4]
 by_cases h5 : w = "not"
 ·rw [if_pos h5]
  obtain ⟨a1, a2⟩ := hd (hw.1 (.inr (.inr (.inr h5))))
  exact (MF.St.refl a1).tn.weak (by omega)
 rw [if_neg h5]
 by_cases h6 : w = "choose"
 ·rw [if_pos h6]
  obtain ⟨a1, a2, a3⟩ := h3 (hw.2.1 (.inl h6))
  exact (MF.chR_st hm a1 a2 a3).weak (by omega)
 rw [if_neg h6]
 by_cases h7 : w = "most"
 ·rw [if_pos h7]
  obtain ⟨a1, a2, a3⟩ := h3 (hw.2.1 (.inr h7))
  exact (MF.moR_st hm a1 a2 a3).weak (by omega)
 rw [if_neg h7]
 refine (MF.St.refl ⟨?_, ?_⟩).weak (by omega)
 ·split <;> omega
 ·split <;> omega
def sp_gate_tie (a : Adr) (K : PySem.W.Frag) : Sp := fun vs H Q _ => ∃ (f dx pl kl tp : Addr) (w : Str) (m : Int) (ts : List Int) (es : List En), vs = [.ref f, .str w, .ref tp] ∧ FoldAt a.c_Fold H f m es dx pl kl ∧ SqL K H tp (ts.map V.int) ∧ WdOk w ts ∧ 0 ≤ m ∧ (∀ t ∈ ts, MF.InT m (psOf es) t) ∧ es.length ≤ 3500 ∧
 ∀ H' es', Un2 pl kl H H' → FoldAt a.c_Fold H' f m es' dx pl kl → psOf es' = (gtR m w ts (psOf es)).2 → Q (.int (gtR m w ts (psOf es)).1) H'
def rd_gate_tie (a : Adr) (K : PySem.W.Frag) : TS := (tSeq (tIfS (cTst (tOp (cEq K) (cVar 1) (tC (.str "and")))) (tRet (tCall (sp_and_tie a K) [] E0 (tCons (cVar 0) (tCons (cVar 2) tNil)))) tNext)
  (tSeq (tIfS (cTst (tOp (cEq K) (cVar 1) (tC (.str "or")))) (tRet (tCall (sp_or_tie a K) [] E0 (tCons (cVar 0) (tCons (cVar 2) tNil)))) tNext)
  (tSeq (tIfS (cTst (tOp (cEq K) (cVar 1) (tC (.str "either")))) (tRet (tCall (sp_either_tie a K) [] E0 (tCons (cVar 0) (tCons (cVar 2) tNil)))) tNext)
  (tSeq (tIfS (cTst (tOp (cEq K) (cVar 1) (tC (.str "not")))) (tRet (tCall (sp_turned K) [] E0 (tCons (tOp (cIx K) (cVar 2) (tC (.int 0))) tNil))) tNext)
  (tSeq (tIfS (cTst (tOp (cEq K) (cVar 1) (tC (.str "choose")))) (tRet (tCall (sp_choose_tie a K) [] E0 (tCons (cVar 0) (tCons (cVar 2) tNil)))) tNext)
  (tSeq (tIfS (cTst (tOp (cEq K) (cVar 1) (tC (.str "most")))) (tRet (tCall (sp_most_tie a K) [] E0 (tCons (cVar 0) (tCons (cVar 2) tNil)))) tNext)
  (tRet (tIf (cTst (tOp (cEq K) (cVar 1) (tC (.str "yes")))) (tC (gv_ALWAYS a)) (tC (gv_NEVER a))))))))))
theorem tm_gate_tie (T : Txt K mg a) {cdv : Value} {A : Around} {outer : List Env} {s : Shared} {H : Hp} {E : XK} (hr : Room 7 (A.deeper (envOfC "gate_tie" (defScope s_gate_tie) s.heap.objs.size a.f_gate_tie cdv))) :
  PSs (cxOf CX0 P w K mg base N_gate_tie "gate_tie" (defScope s_gate_tie) a.f_gate_tie cdv A outer s H E).nox (defBody s_gate_tie) (rd_gate_tie a K) :=
 (pss_cons (ps_if (t_cmp (o_eq (hr8 hr)) (cv 1) pe_str (nomark _)) (pss_one (ps_ret (pe_call (ok_and_tie T) (hr.mono (by decide)) rfl T.mg_and_tie T.fn_and_tie.kp T.bi_and_tie .nil pass0 (pa_cons (cv 0) (pa_cons (cv 2) pa_nil))))) pss_nil)
   (pss_cons (ps_if (t_cmp (o_eq (hr8 hr)) (cv 1) pe_str (nomark _)) (pss_one (ps_ret (pe_call (ok_or_tie T) (hr.mono (by decide)) rfl T.mg_or_tie T.fn_or_tie.kp T.bi_or_tie .nil pass0 (pa_cons (cv 0) (pa_cons (cv 2) pa_nil))))) pss_nil)
   (pss_cons (ps_if (t_cmp (o_eq (hr8 hr)) (cv 1) pe_str (nomark _)) (pss_one (ps_ret (pe_call (ok_either_tie T) (hr.mono (by decide)) rfl T.mg_either_tie T.fn_either_tie.kp T.bi_either_tie .nil pass0 (pa_cons (cv 0) (pa_cons (cv 2) pa_nil))))) pss_nil)
   (pss_cons (ps_if (t_cmp (o_eq (hr8 hr)) (cv 1) pe_str (nomark _)) (pss_one (ps_ret (pe_call (ok_turned T) (hr.mono (by decide)) rfl T.mg_turned T.fn_turned.kp T.bi_turned .nil pass0 (pa_cons (pe_ix i_seq (cv 2) pe_int (fun _ _ => rfl)) pa_nil)))) pss_nil)
   (pss_cons (ps_if (t_cmp (o_eq (hr8 hr)) (cv 1) pe_str (nomark _)) (pss_one (ps_ret (pe_call (ok_choose_tie T) (hr.mono (by decide)) rfl T.mg_choose_tie T.fn_choose_tie.kp T.bi_choose_tie .nil pass0 (pa_cons (cv 0) (pa_cons (cv 2) pa_nil))))) pss_nil)
   (pss_cons (ps_if (t_cmp (o_eq (hr8 hr)) (cv 1) pe_str (nomark _)) (pss_one (ps_ret (pe_call (ok_most_tie T) (hr.mono (by decide)) rfl T.mg_most_tie T.fn_most_tie.kp T.bi_most_tie .nil pass0 (pa_cons (cv 0) (pa_cons (cv 2) pa_nil))))) pss_nil)
   (pss_one (ps_ret (pe_ifExp (t_cmp (o_eq (hr8 hr)) (cv 1) pe_str (nomark _)) (pe_globE rfl T.gx_ALWAYS) (pe_globE rfl T.gx_NEVER))))))))))
theorem ok_gate_tie (T : Txt K mg a) : FnOk P w K mg base CX0 8 a.f_gate_tie a.d_gate_tie ["fold", "word", "ties"] (sp_gate_tie a K) := by
 refine T.fn_gate_tie.ok sc_gate_tie (fun vs H Q E h => ?_) (fun cdv A outer s H vs Q E hr h => ⟨_, tm_gate_tie T hr, ?_⟩)
 ·obtain ⟨f, dx, pl, kl, tp, w, m, ts, es, rfl, _⟩ := h; rfl
 ·obtain ⟨f, dx, pl, kl, tp, w, m, ts, es, rfl, hf, hT, hw, hm, hin, hz, q⟩ := h
  show rd_gate_tie a K _ [some (.ref f), some (.str w), some (.ref tp)] H
  unfold rd_gate_tie gv_ALWAYS gv_NEVER
  have hl := hw.2.2
  unfold gtR at q
  walk_at "gs"
  by_cases h1 : w = "and"
  ·rw [if_pos h1] at q ⊢
   obtain ⟨t0, tr, rfl⟩ := List.exists_cons_of_ne_nil (hw.1 (.inl h1))
   rw [List.length_cons] at hl
   walk_at "gs"
   exact ⟨f, dx, pl, kl, tp, m, t0, tr, es, rfl, hf, hT, hm, hin, by omega, by omega, q⟩
  rw [if_neg h1] at q ⊢
  by_cases h2 : w = "or"
  ·rw [if_pos h2] at q ⊢
   obtain ⟨t0, tr, rfl⟩ := List.exists_cons_of_ne_nil (hw.1 (.inr (.inl h2)))
   rw [List.length_cons] at hl
   walk_at "gs"
   exact ⟨f, dx, pl, kl, tp, m, t0, tr, es, rfl, hf, hT, hm, hin, by omega, by omega, q⟩
  rw [if_neg h2] at q ⊢
  by_cases h4 : w = "either"
  ·rw [if_pos h4] at q ⊢
   obtain ⟨t0, tr, rfl⟩ := List.exists_cons_of_ne_nil (hw.1 (.inr (.inr (.inl h4))))
   rw [List.length_cons] at hl
   walk_at "gs"
   exact ⟨f, dx, pl, kl, tp, m, t0, tr, es, rfl, hf, hT, hm, hin, by omega, by omega, q⟩
  rw [if_neg h4] at q ⊢
  by_cases h5 : w = "not"
  ·rw [if_pos h5] at q ⊢
   obtain ⟨t0, tr, rfl⟩ := List.exists_cons_of_ne_nil (hw.1 (.inr (.inr (.inr h5))))
   walk_at "gs"
   refine ⟨_, V.int t0, .inl hT, at0 t0 _, t0, rfl, (hin t0 (List.mem_cons_self ..)).1, ?_⟩
   exact q H es Un2.refl hf rfl
  rw [if_neg h5] at q ⊢
  by_cases h6 : w = "choose"
  ·rw [if_pos h6] at q ⊢
   match ts, hw.2.1 (.inl h6), hT, hin, q with
   | [x, y, z], _, hT, hin, q =>
    walk_at "gs"
    exact ⟨f, dx, pl, kl, tp, m, x, y, z, es, rfl, hf, hT, hm, hin, by omega, q⟩
  rw [if_neg h6] at q ⊢
  by_cases h7 : w = "most"
  ·rw [if_pos h7] at q ⊢
   match ts, hw.2.1 (.inr h7), hT, hin, q with
   | [x, y, z], _, hT, hin, q =>
    walk_at "gs"
    exact ⟨f, dx, pl, kl, tp, m, x, y, z, es, rfl, hf, hT, hm, hin, by omega, q⟩
  rw [if_neg h7] at q ⊢
  have fin := q H es Un2.refl hf rfl
  by_cases h8 : w = "yes"
  ·rw [if_pos h8] at fin ⊢
   exact fin
  ·rw [if_neg h8] at fin ⊢
   exact fin
theorem at_bl {L : List Bool} {i : Int} (h0 : 0 ≤ i) (h1 : i < L.length) : atI (L.map V.bl) i = some (.bl (L.getD i.toNat false)) := by
 rw [atI_ok .non h0 (by rw [List.length_map]; exact h1)]
 have : i.toNat < L.length := by omega
 simp [List.getD, this]
theorem ixN_ok {n : Nat} {k : Int} (h0 : 0 ≤ k) (h1 : k < n) : ixN n k = some k.toNat := by
 unfold ixN
 simp [h0, h1]
theorem set_bl (L : List Bool) (t : Int) : (L.map V.bl).set (t / 2).toNat (.bl true) = (MF.mark L t).map V.bl := (List.map_set ..).symm
theorem marks_take {L : List Bool} {ts : List Int} {i : Nat} {t : Int} (h : ts[i]? = some t) : MF.marks L (ts.take (i + 1)) = MF.mark (MF.marks L (ts.take i)) t := by
 unfold MF.marks
 rw [List.take_add_one, h, List.foldl_append]
 rfl
theorem get_int {ts : List Int} {i : Nat} {x : V} (h : (ts.map V.int)[i]? = some x) : ∃ t : Int, x = .int t ∧ ts[i]? = some t ∧ t ∈ ts := by
 rw [List.getElem?_map] at h
 cases e : ts[i]? with
 | none => rw [e] at h; cases h
 | some t =>
  rw [e] at h
  cases h
  exact ⟨t, rfl, rfl, List.mem_of_getElem? e⟩
theorem marks_two (L : List Bool) (p : MF.Pr) : MF.marks L [p.1, p.2] = MF.mark (MF.mark L p.1) p.2 := rfl
theorem get_half {ts : List Int} {i : Nat} {x : V} (h : (ts.map fun t => V.int (t / 2))[i]? = some x) : ∃ t : Int, x = .int (t / 2) ∧ ts[i]? = some t ∧ t ∈ ts := by
 rw [List.getElem?_map] at h
 cases e : ts[i]? with
 | none => rw [e] at h; cases h
 | some t =>
  rw [e] at h
  cases h
  exact ⟨t, rfl, rfl, List.mem_of_getElem? e⟩
def stp (kvs : List (Key × V)) (k : Nat) : Bool := (valV kvs (.inl (k : Int))).isSome
theorem stp_nil : stp [] = fun _ => false := rfl
def nzI (k : Nat) : V := .int (k : Int)
def sp_reached (a : Adr) (K : PySem.W.Frag) : Sp := fun vs H Q _ => ∃ (f dx pl kl p sd : Addr) (m : Nat) (ts : List Int) (kvs : List (Key × V)) (es : List En), vs = [.ref f, .ref p, .ref sd] ∧ FoldAt a.c_Fold H f m es dx pl kl ∧ SqL K H p (ts.map fun t => V.int (t / 2)) ∧ H sd = some (.dK kvs) ∧ MF.Ok m (psOf es) ∧ MF.Tis m (psOf es) ts ∧ m ≤ 10 ∧ es.length ≤ 4000 ∧ ts.length ≤ 4000 ∧
 ∀ q H', Mad H q (.lst ((MF.reached (stp kvs) m (psOf es) ts).map nzI)) H' → Q (.ref q) H'
def rd_reached (a : Adr) (K : PySem.W.Frag) : TS := (tSeq (tAsg (tOp cMulL (tLst (tCons (tC (.bl false)) tNil)) (tMeth a.c_Fold "total" (sp_Fold_total a K) [] E0 (cVar 0) tNil)) (gName 3))
  (tSeq (tFor (iList K (cVar 1)) (gName 4) (tAsg (tC (.bl true)) (gSub (cVar 3) (cVar 4) rSetL)))
  (tSeq (tFor (iRngD (tCons (tOp (cI2 fun i j => .int (i - j)) (tMeth a.c_Fold "total" (sp_Fold_total a K) [] E0 (cVar 0) tNil) (tC (.int 1))) (tCons (tFld K (cVar 0) "many") (tCons (tUn cNeg (tC (.int 1))) tNil)))) (gName 4) (tIfS (tAnd (cTru K (tOp (cIx K) (cVar 3) (cVar 4))) (cTst (tDNotIn (cVar 4) (cVar 2)))) (tFor (iTup K (tMeth a.c_Fold "pair" (sp_Fold_pair a K) [] E0 (cVar 0) (tCons (cVar 4) tNil))) (gName 5) (tAsg (tC (.bl true)) (gSub (cVar 3) (tOp (cI2c CDiv fun i j => .int (i / j)) (cVar 5) (tC (.int 2))) rSetL))) tNext))
  (tRet (tComp (iRng1 (tCons (tMeth a.c_Fold "total" (sp_Fold_total a K) [] E0 (cVar 0) tNil) tNil)) 1 [3] (gName 0) (cTru K (tOp (cIx K) (cVar 1) (cVar 0))) (cVar 0))))))
theorem tm_reached (T : Txt K mg a) {cdv : Value} {A : Around} {outer : List Env} {s : Shared} {H : Hp} {E : XK} (hr : Room 2 (A.deeper (envOfC "reached" (defScope s_reached) s.heap.objs.size a.f_reached cdv))) :
  PSs (cxOf CX0 P w K mg base N_reached "reached" (defScope s_reached) a.f_reached cdv A outer s H E).nox (defBody s_reached) (rd_reached a K) :=
 (pss_cons (ps_set (i := 3) sc_reached.nd rfl (by walk_at "o") (pe_op o_mulL (pe_lst (pa_cons pe_bl pa_nil)) (pe_meth0 (cv 0) T.cl_Fold T.me_Fold_total (ok_Fold_total T) (hr.mono (by decide)) T.bi_Fold_total .nil pass0)))
   (pss_cons (ps_for PassesOwn.never rfl (pi_list (cv 1)) (pg_name (i := 4) sc_reached.nd rfl (by walk_at "o")) (pss_one (ps_asg pe_bl (pg_sub (cv 3) (cv 4) set_list))))
   (pss_cons (ps_for PassesOwn.never rfl (pi_rangeD rfl T.no_range (pa_cons (pe_op o_sub (pe_meth0 (cv 0) T.cl_Fold T.me_Fold_total (ok_Fold_total T) (hr.mono (by decide)) T.bi_Fold_total .nil pass0) pe_int) (pa_cons (pe_fld (cv 0) rfl) (pa_cons (pe_un u_neg pe_int) pa_nil)))) (pg_name (i := 4) sc_reached.nd rfl (by walk_at "o")) (pss_one (ps_if (PW.pt (pw_and (pt_tru (pe_ix i_seq (cv 3) (cv 4) (fun _ _ => rfl))) (pw_and1 (t_pc (pc_dnotin (hu_of hr) (cv 4) (cv 2)))))) (pss_one (ps_for PassesOwn.never rfl (pi_tup (pe_meth (cv 0) T.cl_Fold T.me_Fold_pair (ok_Fold_pair T) (hr.mono (by decide)) T.bi_Fold_pair .nil pass0 (pa_cons (cv 4) pa_nil))) (pg_name (i := 5) sc_reached.nd rfl (by walk_at "o")) (pss_one (ps_asg pe_bl (pg_sub (cv 3) (pe_op o_fdiv (cv 5) pe_int) set_list))))) pss_nil)))
   (pss_one (ps_ret (pe_comp (N := ["knot", "seen"]) (k := 1) (sel := [3]) (CScope.of (defScope s_reached).names (by decide +kernel)) (CNames.of N_reached (by decide +kernel)) rfl (pi_range1 rfl T.no_range (pa_cons (pe_meth0 (cv 0) T.cl_Fold T.me_Fold_total (ok_Fold_total T) (hr.mono (by decide)) T.bi_Fold_total .nil pass0) pa_nil)) (fun _ _ _ _ => (pg_name (i := 0) (show List.Nodup (["knot", "seen"] : List Str) by decide +kernel) rfl (by walk_at "o"))) (fun _ _ _ _ => (pts_one (pt_tru (pe_ix i_seq (cv 1) (cv 0) (fun _ _ => rfl))))) (fun _ _ _ _ => (cv 0))))))))
theorem ok_reached (T : Txt K mg a) : FnOk P w K mg base CX0 3 a.f_reached a.d_reached ["fold", "knots", "stops"] (sp_reached a K) := by
 refine T.fn_reached.ok sc_reached (fun vs H Q E h => ?_) (fun cdv A outer s H vs Q E hr h => ⟨_, tm_reached T hr, ?_⟩)
 ·obtain ⟨f, dx, pl, kl, p, sd, m, ts, kvs, es, rfl, _⟩ := h; rfl
 ·obtain ⟨f, dx, pl, kl, p, sd, m, ts, kvs, es, rfl, hf, hT, hS, ok, hin, hm, hz, htz, q⟩ := h
  show rd_reached a K _ [some (.ref f), some (.ref p), some (.ref sd), none, none, none] H
  unfold rd_reached
  have big : (20000 : Nat) ≤ sizeLine := by decide
  have epl : ((psOf es).length : Int) = es.length := by rw [List.length_map]
  walk_at "gs"
  intro r1 H1 n1
  refine ⟨f, dx, _, rfl, n1.same _ _ hf.ins, rfl, f, dx, pl, kl, m, es, rfl, hf.same n1.same, ?_⟩
  walk_at "gs"
  refine ⟨_, n1.at_, by omega, by omega, by simp only [List.length_singleton]; omega, fun nq H2 n2 => ?_⟩
  have hw : H nq = none := n1.same.nil n2.was
  have e0 : (List.replicate (1 + (m : Int) + (es.length : Int)).toNat [V.bl false]).flatten = (MF.marks (List.replicate (1 + m + (psOf es).length) false) (ts.take 0)).map V.bl := by
   rw [rep_one, show (1 + (m : Int) + (es.length : Int)).toNat = 1 + m + (psOf es).length by omega]
   show _ = (List.replicate (1 + m + (psOf es).length) false).map V.bl
   rw [List.map_replicate]
  rw [e0] at n2
  have hlen : ∀ xs : List Int, (MF.marks (List.replicate (1 + m + (psOf es).length) false) xs).length = 1 + m + (psOf es).length := fun xs => by rw [MF.marks_len, List.length_replicate]
  generalize hL0 : List.replicate (1 + m + (psOf es).length) false = L0 at *
  walk_at "gs"
  have s2 := n1.same.trans n2.same
  refine ⟨⟨_, s2.seq hT⟩, for_listG (xs := ts.map fun t => V.int (t / 2)) (fun i σ H3 => Same H H3 ∧ H3 nq = some (.lst ((MF.marks L0 (ts.take i)).map V.bl)) ∧ ∃ v4, σ = [some (.ref f), some (.ref p), some (.ref sd), some (.ref nq), v4, none]) ⟨s2, n2.at_, _, rfl⟩ ?_ ?_ ?_⟩
  ·rintro i σ H3 _ ⟨s3, _⟩
   exact s3.seq hT
  ·rintro i x σ H3 hx ⟨s3, a3, v4, rfl⟩
   obtain ⟨t, rfl, ht, htm⟩ := get_half hx
   have hb := hin t htm
   walk_at "gs"
   refine ⟨nq, _, _, _, rfl, rfl, a3, ixN_ok (by omega) (by rw [List.length_map, hlen]; omega), s3.put hw, ?_, _, rfl⟩
   rw [upd_same, set_bl, marks_take ht]
  ·rintro σ H3 ⟨s3, a3, v4, rfl⟩
   have f3 := hf.same s3
   rw [List.length_map, List.take_length] at a3
   walk_at "gs"
   refine ⟨f, dx, _, rfl, f3.ins, rfl, f, dx, pl, kl, m, es, rfl, f3, ?_⟩
   walk_at "gs"
   refine ⟨f, a.c_Fold, dx, _, _, rfl, f3.ins, T.cl_Fold, T.na_Fold_many, rfl, ?_⟩
   walk_at "gs"
   refine ⟨_, _, rfl, ⟨by omega, by omega, by omega, by omega⟩, ?_⟩
   rw [show (1 + (m : Int) + (es.length : Int) - 1 - (m : Int)).toNat = (psOf es).length by omega]
   have dlen : ∀ i, (MF.downS (stp kvs) m (psOf es) (MF.marks L0 ts) i).length = 1 + m + (psOf es).length := fun i => by rw [MF.downS_len, hlen]
   refine for_dnG (fun i σ H4 => Same H H4 ∧ H4 nq = some (.lst ((MF.downS (stp kvs) m (psOf es) (MF.marks L0 ts) i).map V.bl)) ∧ ∃ v4 v5, σ = [some (.ref f), some (.ref p), some (.ref sd), some (.ref nq), v4, v5]) ⟨s3, a3, _, _, rfl⟩ ?_ ?_
   ·rintro i σ H4 hi ⟨s4, a4, v4, v5, rfl⟩
    have f4 := hf.same s4
    have hie : (psOf es).length - 1 - i < es.length := by omega
    have hee : es[(psOf es).length - 1 - i]? = some es[(psOf es).length - 1 - i] := List.getElem?_eq_getElem hie
    have hpe : (psOf es)[(psOf es).length - 1 - i]? = some (es[(psOf es).length - 1 - i]).2 := by rw [List.getElem?_map, hee]; rfl
    obtain ⟨o1, o2, o3, o4⟩ := ok _ _ hpe
    have te := f4.prs.tup _ (List.getElem_mem hie)
    have kn : 1 + (m : Int) + (es.length : Int) - 1 - (i : Int) = ((m + 1 + ((psOf es).length - 1 - i) : Nat) : Int) := by omega
    have hlk : MF.downS (stp kvs) m (psOf es) (MF.marks L0 ts) (i + 1) = MF.lookS (stp kvs) m (psOf es) (MF.downS (stp kvs) m (psOf es) (MF.marks L0 ts) i) ((psOf es).length - 1 - i) := rfl
    unfold MF.lookS at hlk
    rw [List.getD_eq_getElem?_getD (l := psOf es), hpe, Option.getD_some] at hlk
    generalize hE : es[(psOf es).length - 1 - i] = e at *
    have hjb : m + 1 + ((psOf es).length - 1 - i) < 1 + m + (psOf es).length := by omega
    rw [kn]
    walk_at "gs"
    refine ⟨_, _, .inl (.of a4), at_bl (by omega) (by rw [dlen]; omega), ?_⟩
    rw [Int.toNat_natCast]
    cases hnd : (MF.downS (stp kvs) m (psOf es) (MF.marks L0 ts) i).getD (m + 1 + ((psOf es).length - 1 - i)) false with
    | false =>
     rw [hnd, Bool.false_and, if_neg (by simp)] at hlk
     walk_at "go"
     exact ⟨s4, by rw [hlk]; exact a4, _, _, rfl⟩
    | true =>
     rw [hnd, Bool.true_and] at hlk
     walk_at "gs"
     refine ⟨sd, _, rfl, DGet.k (k := .inl ((m + 1 + ((psOf es).length - 1 - i) : Nat) : Int)) (s4 _ _ hS), ?_⟩
     have hst : (valV kvs (.inl ((m + 1 + ((psOf es).length - 1 - i) : Nat) : Int))).isSome = stp kvs (m + 1 + ((psOf es).length - 1 - i)) := rfl
     rw [hst]
     cases hsx : stp kvs (m + 1 + ((psOf es).length - 1 - i)) with
     | true =>
      rw [hsx, if_neg (by simp)] at hlk
      walk_at "go"
      exact ⟨s4, by rw [hlk]; exact a4, _, _, rfl⟩
     | false =>
      rw [hsx, Bool.not_false, if_pos rfl] at hlk
      walk_at "gs"
      refine ⟨f, dx, _, rfl, f4.ins, rfl, f, dx, pl, kl, m, _, es, rfl, f4, by omega, by omega, fun z => absurd z (by omega), fun e' _ he' => ?_⟩
      rw [show (((m + 1 + ((psOf es).length - 1 - i) : Nat) : Int) - (m : Int) - 1).toNat = (psOf es).length - 1 - i by omega, hee] at he'
      cases he'
      walk_at "gs"
      refine ⟨⟨_, .of te⟩, for_tupG (xs := [.int e.2.1, .int e.2.2]) (fun j σ H5 => Same H H5 ∧ H5 nq = some (.lst ((MF.marks (MF.downS (stp kvs) m (psOf es) (MF.marks L0 ts) i) ([e.2.1, e.2.2].take j)).map V.bl)) ∧ ∃ v4 v5, σ = [some (.ref f), some (.ref p), some (.ref sd), some (.ref nq), v4, v5]) ⟨s4, a4, _, _, rfl⟩ ?_ ?_ ?_⟩
      ·rintro j σ H5 _ ⟨s5, _⟩
       exact .of ((hf.same s5).prs.tup _ (List.mem_of_getElem? hee))
      ·rintro j x σ H5 hx ⟨s5, a5, v4, v5, rfl⟩
       obtain ⟨t, rfl, ht, htm⟩ := get_int (ts := [e.2.1, e.2.2]) hx
       have hb : 0 ≤ t ∧ t < 2 * (1 + (m : Int) + es.length) := by
        rcases List.mem_cons.mp htm with rfl | htm
        ·omega
        ·rw [List.mem_singleton] at htm
         subst htm
         omega
       walk_at "gs"
       refine ⟨nq, _, _, _, rfl, rfl, a5, ixN_ok (by omega) (by rw [List.length_map, MF.marks_len, dlen]; omega), s5.put hw, ?_, _, _, rfl⟩
       rw [upd_same, set_bl, marks_take ht]
      ·rintro σ H5 ⟨s5, a5, v4, v5, rfl⟩
       refine ⟨s5, ?_, _, _, rfl⟩
       rw [hlk, ← marks_two]
       exact a5
   ·rintro σ H4 ⟨s4, a4, v4, v5, rfl⟩
    have f4 := hf.same s4
    walk_at "gs"
    refine ⟨f, dx, _, rfl, f4.ins, rfl, f, dx, pl, kl, m, es, rfl, f4, ?_⟩
    walk_at "gs"
    rw [show (1 + (m : Int) + (es.length : Int)).toNat = 1 + m + (psOf es).length by omega]
    refine compG_rngF (MF.reach (stp kvs) m (psOf es) ts) nzI rfl (by omega) ?_ ?_ ?_
    ·intro i H' Q' hi s' q'
     walk_at "gs"
     refine ⟨_, _, .inl (.of (s' _ _ a4)), at_bl (by omega) (by rw [dlen]; omega), ?_⟩
     rw [show ((0 : Int) + (i : Int)).toNat = i by omega]
     have e9 : (MF.downS (stp kvs) m (psOf es) (MF.marks L0 ts) (psOf es).length).getD i false = MF.reach (stp kvs) m (psOf es) ts i := by rw [← hL0]; rfl
     rw [e9]
     walk_at "go"
     exact q'
    ·intro i H' Q' hi _ s' q'
     walk_at "gs"
     rw [show (0 : Int) + (i : Int) = (i : Int) by omega]
     exact q'
    ·intro pq H5 n5
     exact q pq H5 ⟨s4.nil n5.was, n5.at_, s4.trans n5.same⟩
theorem Same.un2 {H H1 H2 : Hp} {gl gk : Addr} (s : Same H H1) (u : Un2 gl gk H1 H2) (h1 : H gl = none) (h2 : H gk = none) : Same H H2 := fun b o e => u b o (ne_of_none e h1) (ne_of_none e h2) (s b o e)
def sp_moved_tie (_ : PySem.W.Frag) : Sp := fun vs H Q _ => ∃ (d : Addr) (t z : Int) (kvs : List (Key × V)), vs = [.ref d, .int t] ∧ H d = some (.dK kvs) ∧ valV kvs (.inl (t / 2)) = some (.int z) ∧ Q (.int (z + t % 2)) H
def rd_moved_tie (K : PySem.W.Frag) : TS := (tRet (tOp cAdd (tDGet (cVar 0) (tOp (cI2c CDiv fun i j => .int (i / j)) (cVar 1) (tC (.int 2)))) (tOp (cI2c (fun _ j => 0 < j) fun i j => .int (i % j)) (cVar 1) (tC (.int 2)))))
theorem tm_moved_tie (T : Txt K mg a) {cdv : Value} {A : Around} {outer : List Env} {s : Shared} {H : Hp} {E : XK} (hr : Room 0 (A.deeper (envOfC "moved_tie" (defScope s_moved_tie) s.heap.objs.size a.f_moved_tie cdv))) :
  PSs (cxOf CX0 P w K mg base N_moved_tie "moved_tie" (defScope s_moved_tie) a.f_moved_tie cdv A outer s H E).nox (defBody s_moved_tie) (rd_moved_tie K) :=
 (pss_one (ps_ret (pe_op o_add (pe_dget (hu_of hr) (cv 0) (pe_op o_fdiv (cv 1) pe_int) (fun _ _ => rfl)) (pe_op o_mod (cv 1) pe_int))))
theorem ok_moved_tie (T : Txt K mg a) : FnOk P w K mg base CX0 1 a.f_moved_tie a.d_moved_tie ["moved", "tie"] (sp_moved_tie K) := by
 refine T.fn_moved_tie.ok sc_moved_tie (fun vs H Q E h => ?_) (fun cdv A outer s H vs Q E hr h => ⟨_, tm_moved_tie T hr, ?_⟩)
 ·obtain ⟨d, t, z, kvs, rfl, _⟩ := h; rfl
 ·obtain ⟨d, t, z, kvs, rfl, hd, hv, q⟩ := h
  show rd_moved_tie K _ [some (.ref d), some (.int t)] H
  unfold rd_moved_tie
  walk_at "gs"
  refine ⟨d, .int z, rfl, ?_, ?_⟩
  ·have := DGet.k (k := .inl (t / 2)) hd
   rw [hv] at this
   exact this
  walk_at "gs"
  exact q
structure Mvd (m : Nat) (nd : Nat → Bool) (n : Nat) (kvs : List (Key × V)) : Prop where
 len : kvs.length ≤ m + 1 + n
 val : ∀ k : Nat, k < m + 1 + n → MF.Sty m nd k → valV kvs (.inl (k : Int)) = some (.int (2 * (MF.bec m nd k : Nat)))
theorem Mvd.tie {m : Nat} {nd : Nat → Bool} {n : Nat} {kvs : List (Key × V)} (h : Mvd m nd n kvs) {t : Int} (h0 : 0 ≤ t) (h1 : t < 2 * ((m : Int) + 1 + n)) (hs : MF.Sty m nd (t / 2).toNat) : valV kvs (.inl (t / 2)) = some (.int (2 * (MF.bec m nd (t / 2).toNat : Nat))) := by
 have := h.val (t / 2).toNat (by omega) hs
 rw [show (((t / 2).toNat : Nat) : Int) = t / 2 by omega] at this
 exact this
theorem putK_len {κ : Type} [DecidableEq κ] (kvs : List (κ × V)) (k : κ) (v : V) : (putK kvs k v).length ≤ kvs.length + 1 := by
 unfold putK
 split
 ·rw [List.length_map]; omega
 ·rw [List.length_append]; exact Nat.le_refl _
theorem Mvd.skip {m : Nat} {nd : Nat → Bool} {n : Nat} {kvs : List (Key × V)} (h : Mvd m nd n kvs) (hn : nd (m + 1 + n) = false) : Mvd m nd (n + 1) kvs := by
 refine ⟨by have := h.len; omega, fun k hk hs => ?_⟩
 rcases Nat.lt_or_ge k (m + 1 + n) with l | l
 ·exact h.val k l hs
 ·have : k = m + 1 + n := by omega
  subst this
  rcases hs with z | z
  ·omega
  ·rw [hn] at z; cases z
theorem Mvd.put {m : Nat} {nd : Nat → Bool} {n : Nat} {kvs : List (Key × V)} (h : Mvd m nd n kvs) : Mvd m nd (n + 1) (putK kvs (.inl ((m : Int) + 1 + n)) (.int (2 * (MF.bec m nd (m + 1 + n) : Nat)))) := by
 refine ⟨by have := h.len; have := putK_len kvs (.inl ((m : Int) + 1 + n)) (.int (2 * (MF.bec m nd (m + 1 + n) : Nat))); omega, fun k hk hs => ?_⟩
 rw [valV_put]
 by_cases e : k = m + 1 + n
 ·subst e
  rw [if_pos (by congr 1)]
 ·rw [if_neg (fun z => e (by have := Sum.inl.inj z; omega))]
  exact h.val k (by omega) hs
theorem merge_val : ∀ (n : Nat), (mergeK [] ((List.range n).map fun k : Nat => ((.inl (k : Int) : Key), V.int (2 * (k : Int))))).length ≤ n ∧ ∀ k : Nat, k < n → valV (mergeK [] ((List.range n).map fun k : Nat => ((.inl (k : Int) : Key), V.int (2 * (k : Int))))) (.inl (k : Int)) = some (.int (2 * (k : Int)))
 | 0 => ⟨by simp [mergeK], fun k h => by omega⟩
 | n + 1 => by
  obtain ⟨h1, h2⟩ := merge_val n
  unfold mergeK at h1 h2 ⊢
  rw [List.range_succ, List.map_append, List.foldl_append]
  generalize List.foldl (fun acc kv => putK acc kv.1 kv.2) ([] : List (Key × V)) ((List.range n).map fun k : Nat => ((.inl (k : Int) : Key), V.int (2 * (k : Int)))) = A at h1 h2
  show (putK A (.inl (n : Int)) (.int (2 * (n : Int)))).length ≤ n + 1 ∧ ∀ k : Nat, k < n + 1 → valV (putK A (.inl (n : Int)) (.int (2 * (n : Int)))) (.inl (k : Int)) = _
  refine ⟨by have := putK_len A (.inl (n : Int)) (.int (2 * (n : Int))); omega, fun k hk => ?_⟩
  rw [valV_put]
  by_cases e : k = n
  ·subst e
   rw [if_pos rfl]
  ·rw [if_neg (fun z => e (by have := Sum.inl.inj z; omega))]
   exact h2 k (by omega)
def sp_swept (a : Adr) (K : PySem.W.Frag) : Sp := fun vs H Q _ => ∃ (f dx pl kl p : Addr) (m : Nat) (ts : List Int) (es : List En), vs = [.ref f, .ref p] ∧ FoldAt a.c_Fold H f m es dx pl kl ∧ SqL K H p (ts.map V.int) ∧ MF.Ok m (psOf es) ∧ (psOf es).Nodup ∧ MF.Tis m (psOf es) ts ∧ m ≤ 10 ∧ es.length ≤ 4000 ∧ ts.length ≤ 4000 ∧
 ∀ H' r g gx gl gk q es', Same H H' → H g = none → H gl = none → H gk = none → H q = none → FoldAt a.c_Fold H' g m es' gx gl gk → psOf es' = MF.swP m (psOf es) ts → H' q = some (.lst ((MF.swT m (psOf es) ts).map V.int)) → H' r = some (.tup [.ref g, .ref q]) → gl ≠ q → Q (.ref r) H'
def rd_swept (a : Adr) (K : PySem.W.Frag) : TS := (tSeq (tAsg (tMake a.c_Fold (sp_Fold___init__ a K) [] E0 (tCons (tFld K (cVar 0) "many") tNil)) (gName 2))
  (tMid (tAsg (tCB (cDictP K) (tCons (tComp (iRng1 (tCons (tOp cAdd (tFld K (cVar 0) "many") (tC (.int 1))) tNil)) 1 [] (gName 0) tTrue (tTup (tCons (cVar 0) (tCons (tOp cMul (tC (.int 2)) (cVar 0)) tNil)))) tNil)) (gName 3))
  (tMid (tFor (iList K (tCall (sp_reached a K) [] E0 (tCons (cVar 0) (tCons (tComp (iList K (cVar 1)) 1 [] (gName 0) tTrue (tOp (cI2c CDiv fun i j => .int (i / j)) (cVar 0) (tC (.int 2)))) (tCons tDNewK tNil))))) (gName 4) (tSeq (tAsg (tMeth a.c_Fold "pair" (sp_Fold_pair a K) [] E0 (cVar 0) (tCons (cVar 4) tNil)) (gName 5))
  (tIfS (cTst (tOp cIsNot (cVar 5) (tC .non))) (sDPut (cVar 3) (cVar 4) (tMeth a.c_Fold "both" (sp_Fold_both a K) [] E0 (cVar 2) (tCons (tCall (sp_moved_tie K) [] E0 (tCons (cVar 3) (tCons (tOp (cIx K) (cVar 5) (tC (.int 0))) tNil))) (tCons (tCall (sp_moved_tie K) [] E0 (tCons (cVar 3) (tCons (tOp (cIx K) (cVar 5) (tC (.int 1))) tNil))) tNil)))) tNext)))
  (tRet (tTup (tCons (cVar 2) (tCons (tComp (iList K (cVar 1)) 1 [3] (gName 0) tTrue (tCall (sp_moved_tie K) [] E0 (tCons (cVar 1) (tCons (cVar 0) tNil)))) tNil)))))))
theorem tm_swept (T : Txt K mg a) {cdv : Value} {A : Around} {outer : List Env} {s : Shared} {H : Hp} {E : XK} (hr : Room 3 (A.deeper (envOfC "swept" (defScope s_swept) s.heap.objs.size a.f_swept cdv))) :
  PSs (cxOf CX0 P w K mg base N_swept "swept" (defScope s_swept) a.f_swept cdv A outer s H E).nox (defBody s_swept) (rd_swept a K) :=
 (pss_cons (ps_set (i := 2) sc_swept.nd rfl (by walk_at "o") (pe_make T.mk_Fold (ok_Fold___init__ T) (hr.mono (by decide)) rfl T.mg_Fold T.bi_Fold___init__ .nil pass0 (pa_cons (pe_fld (cv 0) rfl) pa_nil)))
   (pss_mid (ps_set (i := 3) sc_swept.nd rfl (by walk_at "o") (pe_callTy (c_dictP rfl) (by rfl) T.no_dict PyProof.Rows.boot_dict (pa_cons (pe_comp (N := ["knot"]) (k := 1) (sel := []) (CScope.of (defScope s_swept).names (by decide +kernel)) (CNames.of N_swept (by decide +kernel)) rfl (pi_range1 rfl T.no_range (pa_cons (pe_op o_add (pe_fld (cv 0) rfl) pe_int) pa_nil)) (fun _ _ _ _ => (pg_name (i := 0) (show List.Nodup (["knot"] : List Str) by decide +kernel) rfl (by walk_at "o"))) (fun _ _ _ _ => pts_nil) (fun _ _ _ _ => (pe_tup (pa_cons (cv 0) (pa_cons (pe_op o_mul pe_int (cv 0)) pa_nil))))) pa_nil)))
   (pss_mid (ps_for PassesOwn.never rfl (pi_list (pe_call (ok_reached T) (hr.mono (by decide)) rfl T.mg_reached T.fn_reached.kp T.bi_reached .nil pass0 (pa_cons (cv 0) (pa_cons (pe_comp (N := ["tie"]) (k := 1) (sel := []) (CScope.of (defScope s_swept).names (by decide +kernel)) (CNames.of N_swept (by decide +kernel)) rfl (pi_list (cv 1)) (fun _ _ _ _ => (pg_name (i := 0) (show List.Nodup (["tie"] : List Str) by decide +kernel) rfl (by walk_at "o"))) (fun _ _ _ _ => pts_nil) (fun _ _ _ _ => (pe_op o_fdiv (cv 0) pe_int))) (pa_cons pe_dnewK pa_nil))))) (pg_name (i := 4) sc_swept.nd rfl (by walk_at "o")) (pss_cons (ps_set (i := 5) sc_swept.nd rfl (by walk_at "o") (pe_meth (cv 0) T.cl_Fold T.me_Fold_pair (ok_Fold_pair T) (hr.mono (by decide)) T.bi_Fold_pair .nil pass0 (pa_cons (cv 4) pa_nil)))
   (pss_one (ps_if (t_cmp o_isnot (cv 5) pe_non (nomark _)) (pss_one (ps_dput (hu_of hr) (cv 3) (cv 4) (pe_meth (cv 2) T.cl_Fold T.me_Fold_both (ok_Fold_both T) (hr.mono (by decide)) T.bi_Fold_both .nil pass0 (pa_cons (pe_call (ok_moved_tie T) (hr.mono (by decide)) rfl T.mg_moved_tie T.fn_moved_tie.kp T.bi_moved_tie .nil pass0 (pa_cons (cv 3) (pa_cons (pe_ix i_seq (cv 5) pe_int (fun _ _ => rfl)) pa_nil))) (pa_cons (pe_call (ok_moved_tie T) (hr.mono (by decide)) rfl T.mg_moved_tie T.fn_moved_tie.kp T.bi_moved_tie .nil pass0 (pa_cons (cv 3) (pa_cons (pe_ix i_seq (cv 5) pe_int (fun _ _ => rfl)) pa_nil))) pa_nil))) rfl)) pss_nil))))
   (pss_one (ps_ret (pe_tup (pa_cons (cv 2) (pa_cons (pe_comp (N := ["tie", "moved"]) (k := 1) (sel := [3]) (CScope.of (defScope s_swept).names (by decide +kernel)) (CNames.of N_swept (by decide +kernel)) rfl (pi_list (cv 1)) (fun _ _ _ _ => (pg_name (i := 0) (show List.Nodup (["tie", "moved"] : List Str) by decide +kernel) rfl (by walk_at "o"))) (fun _ _ _ _ => pts_nil) (fun _ _ _ _ => (pe_call (ok_moved_tie T) (hr.mono (by decide)) rfl T.mg_moved_tie T.fn_moved_tie.kp T.bi_moved_tie .nil pass0 (pa_cons (cv 1) (pa_cons (cv 0) pa_nil))))) pa_nil))))))))
theorem ok_swept (T : Txt K mg a) : FnOk P w K mg base CX0 4 a.f_swept a.d_swept ["fold", "ties"] (sp_swept a K) := by
 refine T.fn_swept.ok sc_swept (fun vs H Q E h => ?_) (fun cdv A outer s H vs Q E hr h => ⟨_, tm_swept T hr, ?_⟩)
 ·obtain ⟨f, dx, pl, kl, p, m, ts, es, rfl, _⟩ := h; rfl
 ·obtain ⟨f, dx, pl, kl, p, m, ts, es, rfl, hf, hT, ok, hnd, hin, hm, hz, htz, q⟩ := h
  show rd_swept a K _ [some (.ref f), some (.ref p), none, none, none, none] H
  unfold rd_swept
  have big : (20000 : Nat) ≤ sizeLine := by decide
  have epl : ((psOf es).length : Int) = es.length := by rw [List.length_map]
  have hclo := MF.need_clo ok ts
  walk_at "gs"
  refine ⟨f, a.c_Fold, dx, _, _, rfl, hf.ins, T.cl_Fold, T.na_Fold_many, rfl, ?_⟩
  walk_at "gs"
  refine mk_Fold fun g gx gl gk H2 s02 hg0 hgl0 hgk0 F2 => ?_
  have f2 := hf.same s02
  walk_at "gs"
  refine mid (fun σ' H' => ∃ d kvs, Same H2 H' ∧ H2 d = none ∧ H' d = some (.dK kvs) ∧ Mvd m (MF.need m (psOf es) ts) 0 kvs ∧ σ' = [some (.ref f), some (.ref p), some (.ref g), some (.ref d), none, none]) ?_ ?_
  ·intro N hN
   walk_at "gs"
   refine ⟨f, a.c_Fold, dx, _, _, rfl, f2.ins, T.cl_Fold, T.na_Fold_many, rfl, ?_⟩
   walk_at "gs"
   rw [show ((m : Int) + 1).toNat = m + 1 by omega]
   refine fun pc hpc => comp_gen (n := m + 1) (item := fun i => .int ((0 : Int) + (i : Nat))) (fun σ => σ.length = 1) (fun i H3 => ∃ us, H3 pc = some (.lst us) ∧ us.length = i ∧ Same H2 H3 ∧ ∀ j : Nat, j < i → ∃ t, us[j]? = some (.ref t) ∧ H3 t = some (.tup [.int (j : Int), .int (2 * (j : Int))])) rfl ⟨[], upd_same, rfl, same_upd hpc, fun j hj => absurd hj (by omega)⟩ ?_ ?_ ?_ ?_
   ·intro i H3 hi _
    exact ⟨hi, fun x H4 hy => hy⟩
   ·intro H3 _
    exact Nat.le_refl _
   ·rintro i σ2 H3 R hi hσ ⟨us, h1, h2, s3, h4⟩ hR
    obtain ⟨w1, rfl⟩ : ∃ w1, σ2 = [w1] := by
     match σ2, hσ with
     | [w1], _ => exact ⟨w1, rfl⟩
    walk_at "gs"
    refine ⟨by show 2 ≤ sizeLine; decide, fun t5 H5 n5 => ?_⟩
    have hp5 := n5.same _ _ h1
    have npt : t5 ≠ pc := (ne_of_none h1 n5.was).symm
    refine ⟨us, hp5, by omega, hR _ _ rfl ⟨us ++ [.ref t5], upd_same, by rw [List.length_append, h2]; rfl, (s3.trans n5.same).put hpc, fun j hj => ?_⟩⟩
    by_cases hji : j < i
    ·obtain ⟨t', g1, g2⟩ := h4 j hji
     exact ⟨t', by rw [List.getElem?_append_left (by omega)]; exact g1, by rw [upd_ne (ne_of g2 h1 (fun z => nomatch z))]; exact n5.same _ _ g2⟩
    ·have hj' : j = i := by omega
     subst hj'
     refine ⟨t5, by rw [← h2]; simp, ?_⟩
     rw [upd_ne npt, n5.at_]
     simp
   rintro H3 ⟨us, h1, h2, s3, h4⟩
   walk_at "gs"
   refine ⟨us, (List.range (m + 1)).map fun k : Nat => ((.inl (k : Int) : Key), V.int (2 * (k : Int))), h1, by rw [h2, List.length_map, List.length_range], by rw [List.length_map, List.length_range]; omega, fun j pr hj => ?_, fun d H4 n4 => ?_⟩
   ·rw [List.getElem?_map] at hj
    by_cases hlt : j < m + 1
    ·rw [List.getElem?_range hlt] at hj
     cases hj
     exact h4 j hlt
    ·rw [List.getElem?_eq_none (by rw [List.length_range]; omega)] at hj
     cases hj
   obtain ⟨mv1, mv2⟩ := merge_val (m + 1)
   have mv0 : Mvd m (MF.need m (psOf es) ts) 0 (mergeK [] ((List.range (m + 1)).map fun k : Nat => ((.inl (k : Int) : Key), V.int (2 * (k : Int))))) := ⟨mv1, fun k hk _ => by rw [mv2 k hk, MF.bec_low (by omega)]⟩
   generalize mergeK [] ((List.range (m + 1)).map fun k : Nat => ((.inl (k : Int) : Key), V.int (2 * (k : Int)))) = kvs0 at mv0 n4
   clear mv1 mv2
   walk_at "gs"
   exact hN _ _ ⟨d, kvs0, s3.trans n4.same, s3.nil n4.was, n4.at_, mv0, rfl⟩
  rintro σ4 H4 ⟨d, kvs0, s24, hd2, d4, mv0, rfl⟩
  have s04 := s02.trans s24
  have F4 := F2.same s24
  have ndk : d ≠ gk := (ne_of_none F2.prs.dct hd2).symm
  have ndl : d ≠ gl := (ne_of_none F2.prs.lst hd2).symm
  have hd0 : H d = none := s02.nil hd2
  walk_at "gs"
  refine mid (fun σ' H' => Same H H' ∧ ∃ (es' : List En) (kvs : List (Key × V)), FoldAt a.c_Fold H' g m es' gx gl gk ∧ psOf es' = MF.kept m (MF.need m (psOf es) ts) (psOf es) (psOf es).length ∧ H' d = some (.dK kvs) ∧ Mvd m (MF.need m (psOf es) ts) (psOf es).length kvs ∧ ∃ v5 v6, σ' = [some (.ref f), some (.ref p), some (.ref g), some (.ref d), v5, v6]) ?_ ?_
  ·intro N hN
   walk_at "gs"
   have f4 := hf.same s04
   refine ⟨⟨_, s04.seq hT⟩, compG_list (fun x => match x with | .int t => .int (t / 2) | v => v) (s04.seq hT) rfl (by rw [List.length_map]; omega) ?_ ?_⟩
   ·intro x H' Q' hx s' q'
    obtain ⟨t, htm, rfl⟩ := List.mem_map.mp hx
    walk_at "gs"
    exact q'
   intro hq H5 n5
   have eq5 : (ts.map V.int).map (fun x => match x with | .int t => .int (t / 2) | v => v) = ts.map fun t => V.int (t / 2) := by
    rw [List.map_map]
    rfl
   rw [eq5] at n5
   walk_at "gs"
   intro sd H6 n6
   have s46 := n5.same.trans n6.same
   have s06 := s04.trans s46
   refine ⟨f, dx, pl, kl, hq, sd, m, ts, [], es, rfl, hf.same s06, .of (n6.same _ _ n5.at_), n6.at_, ok, hin, hm, hz, htz, fun rq H7 n7 => ?_⟩
   have s47 := s46.trans n7.same
   have s07 := s04.trans s47
   have hrl : rq ≠ gl := (ne_of_none ((F4.same s46).prs.lst) n7.was).symm
   have hrk : rq ≠ gk := (ne_of_none ((F4.same s46).prs.dct) n7.was).symm
   have hrd : rq ≠ d := (ne_of_none (s46 _ _ d4) n7.was).symm
   have a7 := n7.at_
   rw [stp_nil] at a7
   unfold MF.reached at a7
   rw [MF.reach_none] at a7
   walk_at "gs"
   refine ⟨⟨_, .of a7⟩, for_filterG (N := 1 + m + (psOf es).length) (q := MF.need m (psOf es) ts) (f := nzI) (fun n σ H5 => Same H H5 ∧ H5 rq = some (.lst (((List.range (1 + m + (psOf es).length)).filter (MF.need m (psOf es) ts)).map nzI)) ∧ ∃ (es' : List En) (kvs : List (Key × V)), FoldAt a.c_Fold H5 g m es' gx gl gk ∧ psOf es' = MF.kept m (MF.need m (psOf es) ts) (psOf es) (n - (m + 1)) ∧ H5 d = some (.dK kvs) ∧ Mvd m (MF.need m (psOf es) ts) (n - (m + 1)) kvs ∧ ∃ v5 v6, σ = [some (.ref f), some (.ref p), some (.ref g), some (.ref d), v5, v6]) ⟨s07, a7, [], kvs0, F4.same s47, by rw [Nat.zero_sub]; rfl, s47 _ _ d4, by rw [Nat.zero_sub]; exact mv0, _, _, rfl⟩ ?_ ?_ ?_ ?_⟩
   ·rintro n σ H5 _ ⟨_, q5, _⟩
    exact .of q5
   ·rintro n σ H5 hn hqn ⟨s5, q5, es5, kvs, F5, hp5, d5, mv, v5, v6, rfl⟩
    rcases Nat.lt_or_ge n (m + 1) with l | l
    ·exact ⟨s5, q5, es5, kvs, F5, by rw [show n + 1 - (m + 1) = n - (m + 1) by omega]; exact hp5, d5, by rw [show n + 1 - (m + 1) = n - (m + 1) by omega]; exact mv, _, _, rfl⟩
    ·obtain ⟨i, rfl⟩ : ∃ i, n = m + 1 + i := ⟨n - (m + 1), by omega⟩
     rw [show m + 1 + i - (m + 1) = i by omega] at hp5 mv
     rw [show m + 1 + i + 1 - (m + 1) = i + 1 by omega]
     refine ⟨s5, q5, es5, kvs, F5, ?_, d5, mv.skip hqn, _, _, rfl⟩
     unfold MF.kept
     rw [hqn]
     exact hp5
   ·rintro n σ H5 M hn hqn ⟨s5, q5, es5, kvs, F5, hp5, d5, mv, v5, v6, rfl⟩ hM
    have f5 := hf.same s5
    rcases Nat.lt_or_ge n (m + 1) with l | l
    ·show (gName 4) (V.int (n : Int)) _ _ _
     walk_at "gs"
     refine ⟨f, dx, _, rfl, f5.ins, rfl, f, dx, pl, kl, m, _, es, rfl, f5, by omega, by omega, fun _ => ?_, fun e' z _ => absurd z (by omega)⟩
     walk_at "gs"
     exact hM _ _ ⟨s5, q5, es5, kvs, F5, by rw [show n + 1 - (m + 1) = n - (m + 1) by omega]; exact hp5, d5, by rw [show n + 1 - (m + 1) = n - (m + 1) by omega]; exact mv, _, _, rfl⟩
    obtain ⟨i, rfl⟩ : ∃ i, n = m + 1 + i := ⟨n - (m + 1), by omega⟩
    rw [show m + 1 + i - (m + 1) = i by omega] at hp5 mv
    rw [show m + 1 + i + 1 - (m + 1) = i + 1 by omega] at hM
    have hie : i < es.length := by omega
    have hee : es[i]? = some es[i] := List.getElem?_eq_getElem hie
    have hpe : (psOf es)[i]? = some (es[i]).2 := by rw [List.getElem?_map, hee]; rfl
    obtain ⟨o1, o2, o3, o4⟩ := ok _ _ hpe
    have te := f5.prs.tup _ (List.getElem_mem hie)
    have kl5 : es5.length = MF.cnt m (MF.need m (psOf es) ts) i := by have := congrArg List.length hp5; rw [List.length_map, MF.kept_len] at this; exact this
    have kle := MF.cnt_le (m := m) (nd := MF.need m (psOf es) ts) i
    generalize hE : es[i] = e at *
    show (gName 4) (V.int ((m + 1 + i : Nat) : Int)) _ _ _
    rw [show ((m + 1 + i : Nat) : Int) = (m : Int) + 1 + (i : Int) by omega]
    walk_at "gs"
    refine ⟨f, dx, _, rfl, f5.ins, rfl, f, dx, pl, kl, m, _, es, rfl, f5, by omega, by omega, fun z => absurd z (by omega), fun e' _ he' => ?_⟩
    rw [show ((m : Int) + 1 + (i : Int) - (m : Int) - 1).toNat = i by omega, hee] at he'
    cases he'
    obtain ⟨c1, c2⟩ := hclo i _ hpe hqn
    obtain ⟨p1, p2, p3, p4⟩ := MF.mt_pair ok hclo hpe hqn
    obtain ⟨b1, b2⟩ := MF.both_kept ok hclo hnd hpe hqn
    walk_at "gs"
    refine ⟨g, gx, _, rfl, F5.ins, rfl, _, _, .inr (.of te), rfl, d, e.2.1, _, kvs, rfl, d5, mv.tie (by omega) (by omega) (.inr c1), ?_⟩
    walk_at "gs"
    refine ⟨_, _, .inr (.of te), rfl, d, e.2.2, _, kvs, rfl, d5, mv.tie (by omega) (by omega) (.inr c2), ?_⟩
    walk_at "gs"
    refine ⟨g, gx, gl, gk, m, MF.mt m (MF.need m (psOf es) ts) e.2.1, MF.mt m (MF.need m (psOf es) ts) e.2.2, es5, rfl, F5, by omega, by omega, by omega, by omega, by omega, fun H6 es6 u6 F6 q6 => ?_⟩
    rw [hp5] at q6 ⊢
    rw [b2] at q6
    rw [b1]
    have d6 : H6 d = some (.dK kvs) := u6 _ _ ndl ndk d5
    have nq6 := u6 _ _ hrl hrk q5
    have s6 : Same H H6 := Same.un2 s5 u6 hgl0 hgk0
    walk_at "gs"
    refine ⟨d, _, rfl, DPut.k (k := .inl ((m : Int) + 1 + (i : Int))) d6 (by have := mv.len; omega), hM _ _ ⟨s6.put hd0, ?_, es6, _, ?_, q6, upd_same, mv.put, _, _, rfl⟩⟩
    ·rw [upd_ne hrd]; exact nq6
    ·refine ⟨?_, ?_, ?_, fun e he => ?_⟩
     ·rw [upd_ne (ne_of F6.ins d6 (fun z => nomatch z))]; exact F6.ins
     ·rw [upd_ne (ne_of F6.prs.lst d6 (fun z => nomatch z))]; exact F6.prs.lst
     ·rw [upd_ne ndk.symm]; exact F6.prs.dct
     ·rw [upd_ne (ne_of (F6.prs.tup e he) d6 (fun z => nomatch z))]; exact F6.prs.tup e he
   ·rintro σ H5 ⟨s5, q5, es5, kvs, F5, hp5, d5, mv, v5, v6, rfl⟩
    rw [show 1 + m + (psOf es).length - (m + 1) = (psOf es).length by omega] at hp5 mv
    exact hN _ _ ⟨s5, es5, kvs, F5, hp5, d5, mv, _, _, rfl⟩
  rintro σ H5 ⟨s5, es5, kvs, F5, hp5, d5, mv, v5, v6, rfl⟩
  walk_at "gs"
  refine ⟨⟨_, s5.seq hT⟩, compG_list (fun x => match x with | .int t => .int (MF.mt m (MF.need m (psOf es) ts) t) | v => v) (s5.seq hT) rfl (by rw [List.length_map]; omega) ?_ ?_⟩
  ·intro x H' Q' hx s' q'
   obtain ⟨t, htm, rfl⟩ := List.mem_map.mp hx
   have hb := hin t htm
   walk_at "gs"
   exact ⟨d, t, _, kvs, rfl, s' _ _ d5, mv.tie (by omega) (by omega) (.inr (MF.need_ts htm hb)), q'⟩
  ·intro tq H6 n6
   have eq6 : (ts.map V.int).map (fun x => match x with | .int t => .int (MF.mt m (MF.need m (psOf es) ts) t) | v => v) = (MF.swT m (psOf es) ts).map V.int := by
    unfold MF.swT
    rw [List.map_map, List.map_map]
    rfl
   rw [eq6] at n6
   walk_at "gs"
   refine ⟨by show 2 ≤ sizeLine; decide, fun r H7 n7 => ?_⟩
   have s57 := n6.same.trans n7.same
   exact q H7 r g gx gl gk tq es5 (s5.trans s57) hg0 hgl0 hgk0 (s5.nil n6.was) (F5.same s57) hp5 (n7.same _ _ n6.at_) n7.at_ (ne_of_none F5.prs.lst n6.was)
theorem size_big : (1000 : Nat) ≤ sizeLine := by decide
abbrev Gt := ME.Gt Str
def GtsAt (N : Addr → Prop) (K : PySem.W.Frag) (H : Hp) (ts : List V) (gs : List Gt) : Prop := ts.length = gs.length ∧ ∀ (i : Nat) (g : Gt), gs[i]? = some g → ∃ t q, ts[i]? = some (.ref t) ∧ N t ∧ N q ∧ SqT K H t [.str g.1, .str g.2.1, .ref q] ∧ SqL K H q (g.2.2.map V.str)
section
variable {N N' : Addr → Prop} {K : PySem.W.Frag} {H H' : Hp} {ts : List V} {gs : List Gt}
theorem GtsAt.keep (k : Keep N H H') (h : GtsAt N K H ts gs) : GtsAt N K H' ts gs := ⟨h.1, fun i g e => let ⟨t, q, a, b, c, d, f⟩ := h.2 i g e; ⟨t, q, a, b, c, k.tup b d, k.seq c f⟩⟩
theorem GtsAt.same (k : Same H H') (h : GtsAt N K H ts gs) : GtsAt N K H' ts gs := h.keep k.keep
theorem GtsAt.weak (w : ∀ b, N b → N' b) (h : GtsAt N K H ts gs) : GtsAt N' K H ts gs := ⟨h.1, fun i g e => let ⟨t, q, a, b, c, d, f⟩ := h.2 i g e; ⟨t, q, a, w _ b, w _ c, d, f⟩⟩
theorem GtsAt.nil : GtsAt N K H [] [] := ⟨rfl, fun i g e => by simp at e⟩
theorem GtsAt.snoc (h : GtsAt N K H ts gs) {t q : Addr} {g : Gt} (nt : N t) (nq : N q) (ht : SqT K H t [.str g.1, .str g.2.1, .ref q]) (hq : SqL K H q (g.2.2.map V.str)) : GtsAt N K H (ts ++ [.ref t]) (gs ++ [g]) := by
 refine ⟨by rw [List.length_append, List.length_append, h.1]; rfl, fun i g' e => ?_⟩
 by_cases hi : i < gs.length
 ·rw [List.getElem?_append_left hi] at e
  obtain ⟨t', q', a, r⟩ := h.2 i g' e
  exact ⟨t', q', by rw [List.getElem?_append_left (by rw [h.1]; exact hi)]; exact a, r⟩
 ·have hi' : i = gs.length := by
   have := (List.getElem?_eq_some_iff.mp e).1
   rw [List.length_append] at this
   simp at this
   omega
  subst hi'
  have e' : g = g' := by simpa using e
  subst e'
  exact ⟨t, q, by rw [← h.1]; simp, nt, nq, ht, hq⟩
end
def GtT (H : Hp) (ts : List V) (gs : List Gt) : Prop := ts.length = gs.length ∧ ∀ (i : Nat) (g : Gt), gs[i]? = some g → ∃ t q, ts[i]? = some (.ref t) ∧ H t = some (.tup [.str g.1, .str g.2.1, .ref q]) ∧ H q = some (.tup (g.2.2.map V.str))
def NetO (a : Adr) (H : Hp) (x : Addr) (ins : List Str) (gs : List Gt) (outs : List Str) : Prop := ∃ dx t1 t2 t3 ts, H x = some (.ins a.c_Net dx [("inputs", .ref t1), ("gates", .ref t2), ("outputs", .ref t3)]) ∧ H t1 = some (.tup (ins.map V.str)) ∧ H t2 = some (.tup ts) ∧ GtT H ts gs ∧ H t3 = some (.tup (outs.map V.str))
def sp_Net___init__ (a : Adr) (K : PySem.W.Frag) : Sp := fun vs H Q _ => ∃ (x dx pi pg po : Addr) (ins : List Str) (gs : List Gt) (outs : List Str) (ts : List V), vs = [.ref x, .ref pi, .ref pg, .ref po] ∧ H x = some (.ins a.c_Net dx []) ∧
 SqL K H pi (ins.map V.str) ∧ SqL K H pg ts ∧ GtsAt (fun _ => True) K H ts gs ∧ SqL K H po (outs.map V.str) ∧ ins.length ≤ 1000 ∧ gs.length ≤ 1000 ∧ outs.length ≤ 1000 ∧
 ∀ H', (∀ b o, b ≠ x → H b = some o → H' b = some o) → NetO a H' x ins gs outs → Q .non H'
def fromGate (g : Gt) (q : Addr) : List V := [.str g.1, .str g.2.1, .ref q]
def rd_Net___init__ (K : PySem.W.Frag) : TS := (tSeq (sFld K (cVar 0) (tCB (cTuple K) (tCons (cVar 1) tNil)) "inputs")
  (tSeq (sFld K (cVar 0) (tCB (cTuple K) (tCons (tComp (iList K (cVar 2)) 3 [] (gTup K 3 (gCons (gName 0) (gCons (gName 1) (gCons (gName 2) gNil)))) tTrue (tTup (tCons (cVar 0) (tCons (cVar 1) (tCons (tCB (cTuple K) (tCons (cVar 2) tNil)) tNil))))) tNil)) "gates")
  (sFld K (cVar 0) (tCB (cTuple K) (tCons (cVar 3) tNil)) "outputs")))
theorem tm_Net___init__ (T : Txt K mg a) {cdv : Value} {A : Around} {outer : List Env} {s : Shared} {H : Hp} {E : XK} (hr : Room 0 (A.deeper (envOfC "Net.__init__" (defScope s_Net___init__) s.heap.objs.size a.f_Net___init__ cdv))) :
  PSs (cxOf CX0 P w K mg base N_Net___init__ "Net.__init__" (defScope s_Net___init__) a.f_Net___init__ cdv A outer s H E).nox (defBody s_Net___init__) (rd_Net___init__ K) :=
 (pss_cons (ps_fld (cv 0) (pe_callTy c_tuple (by rfl) T.no_tuple PyProof.Rows.boot_tuple (pa_cons (cv 1) pa_nil)) rfl)
   (pss_cons (ps_fld (cv 0) (pe_callTy c_tuple (by rfl) T.no_tuple PyProof.Rows.boot_tuple (pa_cons (pe_comp (N := ["name", "word", "parts"]) (k := 3) (sel := []) (CScope.of (defScope s_Net___init__).names (by decide +kernel)) (CNames.of N_Net___init__ (by decide +kernel)) rfl (pi_list (cv 2)) (fun _ _ _ _ => (pg_tup rfl (pgs_cons (pg_name (i := 0) (show List.Nodup (["name", "word", "parts"] : List Str) by decide +kernel) rfl (by walk_at "o")) (pgs_cons (pg_name (i := 1) (show List.Nodup (["name", "word", "parts"] : List Str) by decide +kernel) rfl (by walk_at "o")) (pgs_cons (pg_name (i := 2) (show List.Nodup (["name", "word", "parts"] : List Str) by decide +kernel) rfl (by walk_at "o")) pgs_nil))))) (fun _ _ _ _ => pts_nil) (fun _ _ _ _ => (pe_tup (pa_cons (cv 0) (pa_cons (cv 1) (pa_cons (pe_callTy c_tuple (by rfl) T.no_tuple PyProof.Rows.boot_tuple (pa_cons (cv 2) pa_nil)) pa_nil)))))) pa_nil)) rfl)
   (pss_one (ps_fld (cv 0) (pe_callTy c_tuple (by rfl) T.no_tuple PyProof.Rows.boot_tuple (pa_cons (cv 3) pa_nil)) rfl))))
theorem ok_Net___init__ (T : Txt K mg a) : FnOk P w K mg base CX0 1 a.f_Net___init__ a.d_Net___init__ ["self", "inputs", "gates", "outputs"] (sp_Net___init__ a K) := by
 refine T.fn_Net___init__.ok sc_Net___init__ (fun vs H Q E h => ?_) (fun cdv A outer s H vs Q E hr h => ⟨_, tm_Net___init__ T hr, ?_⟩)
 ·obtain ⟨x, dx, pi, pg, po, ins, gs, outs, ts, rfl, _⟩ := h; rfl
 ·obtain ⟨x, dx, pi, pg, po, ins, gs, outs, ts, rfl, hx, hI, hG, hGs, hO, l1, l2, l3, q⟩ := h
  show rd_Net___init__ K _ [some (.ref x), some (.ref pi), some (.ref pg), some (.ref po)] H
  unfold rd_Net___init__
  have hbig := size_big
  have notS : ∀ {b : Addr} {o : HO} {H' : Hp} {fs : List (Str × V)}, H' x = some (.ins a.c_Net dx fs) → H' b = some o → (∀ fs, o ≠ .ins a.c_Net dx fs) → b ≠ x := fun e1 e2 n e => by subst e; rw [e1] at e2; exact n _ (Option.some.inj e2).symm
  have keepX : ∀ {H' : Hp} {fs : List (Str × V)} {o : HO}, H' x = some (.ins a.c_Net dx fs) → ∀ {p : Addr} {xs : List V}, SqL K H' p xs → SqL K (upd H' x o) p xs := fun {H' fs o} e1 {p xs} hs => by
   rcases hs with (hs | ⟨u, hs⟩) | hs
   ·exact .inl (.inl (by rw [upd_ne (notS e1 hs (fun _ z => nomatch z))]; exact hs))
   ·exact .inl (.inr ⟨u, by rw [upd_ne (notS e1 hs (fun _ z => nomatch z))]; exact hs⟩)
   ·exact .inr hs
  have keepT : ∀ {H' : Hp} {fs : List (Str × V)} {o : HO}, H' x = some (.ins a.c_Net dx fs) → ∀ {p : Addr} {xs : List V}, SqT K H' p xs → SqT K (upd H' x o) p xs := fun {H' fs o} e1 {p xs} hs => by
   rcases hs with (hs | ⟨u, hs⟩) | hs
   ·exact .inl (.inl (by rw [upd_ne (notS e1 hs (fun _ z => nomatch z))]; exact hs))
   ·exact .inl (.inr ⟨u, by rw [upd_ne (notS e1 hs (fun _ z => nomatch z))]; exact hs⟩)
   ·exact .inr hs
  walk_at "gs"
  refine ⟨_, .inl ⟨hI, fun t1 H1 n1 => ?_⟩⟩
  have hx1 := n1.same _ _ hx
  walk_at "gs"
  refine ⟨x, a.c_Net, dx, [], rfl, hx1, T.cl_Net, T.na_Net_inputs, by decide, ?_⟩
  have hx2 : upd H1 x (.ins a.c_Net dx (putF "inputs" (.ref t1) [])) x = some _ := upd_same
  have at2 : upd H1 x (.ins a.c_Net dx (putF "inputs" (.ref t1) [])) t1 = some (.tup (ins.map V.str)) := by rw [upd_ne (notS hx1 n1.at_ (fun _ z => nomatch z))]; exact n1.at_
  have hG2 : SqL K (upd H1 x (.ins a.c_Net dx (putF "inputs" (.ref t1) []))) pg ts := keepX hx1 (n1.same.seq hG)
  have hO2 : SqL K (upd H1 x (.ins a.c_Net dx (putF "inputs" (.ref t1) []))) po (outs.map V.str) := keepX hx1 (n1.same.seq hO)
  have hGs2 : GtsAt (fun _ => True) K (upd H1 x (.ins a.c_Net dx (putF "inputs" (.ref t1) []))) ts gs := ⟨hGs.1, fun i g e => by
   obtain ⟨t, qq, e1, _, _, e2, e3⟩ := hGs.2 i g e
   exact ⟨t, qq, e1, True.intro, True.intro, keepT hx1 (n1.same.tup e2), keepX hx1 (n1.same.seq e3)⟩⟩
  have out2 : ∀ b o, b ≠ x → H b = some o → upd H1 x (.ins a.c_Net dx (putF "inputs" (.ref t1) [])) b = some o := fun b o nb e => by rw [upd_ne nb]; exact n1.same _ _ e
  generalize upd H1 x (.ins a.c_Net dx (putF "inputs" (.ref t1) [])) = H2 at hx2 at2 hG2 hO2 hGs2 out2
  walk_at "gs"
  refine ⟨⟨_, hG2⟩, fun p hp => comp_gen (n := ts.length) (item := fun i => ts.getD i .non) (fun σ => σ.length = 3) (fun i H3 => ∃ us, H3 p = some (.lst us) ∧ us.length = i ∧ Same H2 H3 ∧ ∀ j g, j < i → gs[j]? = some g → ∃ t q, us[j]? = some (.ref t) ∧ H3 t = some (.tup (fromGate g q)) ∧ H3 q = some (.tup (g.2.2.map V.str))) rfl ⟨[], upd_same, rfl, same_upd hp, fun j g hj => absurd hj (by omega)⟩ (src_list ?_) ?_ ?_ ?_⟩
  ·rintro i H3 hi ⟨us, h1, h2, s3, h4⟩
   exact s3.seq hG2
  ·rintro H3 ⟨us, h1, h2, s3, h4⟩
   exact ⟨ts, s3.seq hG2, Nat.le_refl _⟩
  ·rintro i σ2 H3 R hi hσ ⟨us, h1, h2, s3, h4⟩ hR
   have hi' : i < gs.length := by rw [← hGs2.1]; exact hi
   obtain ⟨t, qq, e1, _, _, e2, e3⟩ := hGs2.2 i gs[i] (by simp [hi'])
   have et : ts.getD i .non = .ref t := by simp [List.getD, e1]
   obtain ⟨w1, w2, w3, rfl⟩ : ∃ w1 w2 w3, σ2 = [w1, w2, w3] := by
    match σ2, hσ with
    | [w1, w2, w3], _ => exact ⟨w1, w2, w3, rfl⟩
   rw [et]
   walk_at "gs"
   refine ⟨t, _, rfl, s3.tup e2, rfl, _, _, rfl, _, _, rfl, _, _, rfl, rfl, ?_⟩
   unfold tTrue
   walk_at "gs"
   refine ⟨_, .inl ⟨s3.seq e3, fun q4 H4 n4 => ?_⟩⟩
   walk_at "gs"
   refine ⟨by show 3 ≤ sizeLine; decide, fun t5 H5 n5 => ?_⟩
   have hp5 := n5.same _ _ (n4.same _ _ h1)
   have npt : p ≠ t5 := fun e => by have := n5.was; rw [← e, n4.same _ _ h1] at this; cases this
   have npq : p ≠ q4 := fun e => by have := n4.was; rw [← e, h1] at this; cases this
   refine ⟨us, hp5, Nat.lt_of_lt_of_le (by omega) hbig, hR _ _ rfl ⟨us ++ [.ref t5], upd_same, by rw [List.length_append, h2]; rfl, ((s3.trans n4.same).trans n5.same).put hp, fun j g hj hg => ?_⟩⟩
   by_cases hji : j < i
   ·obtain ⟨t', q', f1, f2, f3⟩ := h4 j g hji hg
    have np : ∀ {b : Addr} {ys : List V}, H3 b = some (.tup ys) → b ≠ p := fun e z => by rw [z, h1] at e; cases e
    refine ⟨t', q', by rw [List.getElem?_append_left (by omega)]; exact f1, ?_, ?_⟩
    ·rw [upd_ne (np f2)]; exact n5.same _ _ (n4.same _ _ f2)
    ·rw [upd_ne (np f3)]; exact n5.same _ _ (n4.same _ _ f3)
   ·have hj' : j = i := by omega
    subst hj'
    have eg : g = gs[j] := by simpa [hi'] using hg.symm
    subst eg
    refine ⟨t5, q4, by rw [← h2]; simp, ?_, ?_⟩
    ·rw [upd_ne (Ne.symm npt)]; exact n5.at_
    ·rw [upd_ne (Ne.symm npq)]; exact n5.same _ _ n4.at_
  ·rintro H3 ⟨us, h1, h2, s3, h4⟩
   walk_at "gs"
   refine ⟨_, .inl ⟨.of h1, fun t2 H4 n4 => ?_⟩⟩
   walk_at "gs"
   have s4 := s3.trans n4.same
   refine ⟨x, a.c_Net, dx, _, rfl, s4 _ _ hx2, T.cl_Net, T.na_Net_gates, by have := length_putF "inputs" (.ref t1) []; simp only [List.length_nil] at this; omega, ?_⟩
   walk_at "gs"
   refine ⟨_, .inl ⟨keepX (s4 _ _ hx2) (s4.seq hO2), fun t3 H5 n5 => ?_⟩⟩
   walk_at "gs"
   refine ⟨x, a.c_Net, dx, _, rfl, n5.same _ _ upd_same, T.cl_Net, T.na_Net_outputs, by have h7 := length_putF "inputs" (.ref t1) []; have h8 := length_putF "gates" (.ref t2) (putF "inputs" (.ref t1) []); simp only [List.length_nil] at h7; omega, ?_⟩
   have ex : ∀ b o, b ≠ x → H4 b = some o → upd H5 x (.ins a.c_Net dx (putF "outputs" (.ref t3) (putF "gates" (.ref t2) (putF "inputs" (.ref t1) [])))) b = some o := fun b o nb e => by
    rw [upd_ne nb]
    exact n5.same _ _ (by rw [upd_ne nb]; exact e)
   have hx4 := s4 _ _ hx2
   refine q _ (fun b o nb e => ex b o nb (s4 _ _ (out2 b o nb e))) ⟨dx, t1, t2, t3, us, ?_, ?_, ?_, ⟨?_, fun j g hg => ?_⟩, ?_⟩
   ·rw [upd_same]
    have e1 : putF "outputs" (.ref t3) (putF "gates" (.ref t2) (putF "inputs" (.ref t1) [])) = ([("inputs", V.ref t1), ("gates", V.ref t2), ("outputs", V.ref t3)] : List (Str × V)) := by
     have z1 : ¬ ("inputs" : Str) = "gates" := by decide +kernel
     have z2 : ¬ ("inputs" : Str) = "outputs" := by decide +kernel
     have z3 : ¬ ("gates" : Str) = "outputs" := by decide +kernel
     simp [putF, z1, z2, z3]
    rw [e1]
   ·exact ex _ _ (notS hx4 (s4 _ _ at2) (fun _ z => nomatch z)) (s4 _ _ at2)
   ·exact ex _ _ (notS hx4 n4.at_ (fun _ z => nomatch z)) n4.at_
   ·rw [h2]; exact hGs2.1
   ·obtain ⟨t, qq, f1, f2, f3⟩ := h4 j g (by rw [hGs2.1]; exact (List.getElem?_eq_some_iff.mp hg).1) hg
    exact ⟨t, qq, f1, ex _ _ (notS hx4 (n4.same _ _ f2) (fun _ z => nomatch z)) (n4.same _ _ f2), ex _ _ (notS hx4 (n4.same _ _ f3) (fun _ z => nomatch z)) (n4.same _ _ f3)⟩
   ·have nt3 : t3 ≠ x := fun e => by
     have := n5.was
     rw [e, upd_same] at this; cases this
    rw [upd_ne nt3]; exact n5.at_
def WdA (w : Str) (n : Nat) : Prop := ((w = "and" ∨ w = "or" ∨ w = "either" ∨ w = "not") → n ≠ 0) ∧ ((w = "choose" ∨ w = "most") → n = 3)
theorem wd_of {w : Str} {ts : List Int} (h : WdA w ts.length) (h6 : ts.length ≤ 6) : WdOk w ts := ⟨fun z e => h.1 z (by rw [e]; rfl), h.2, h6⟩
abbrev FdT := List (Str × Int) × List MF.Pr
def fdR (m : Int) (st : FdT) (g : Gt) : MF.RS := gtR m g.2.1 (g.2.2.map fun p => (ME.vS st.1 p).getD 0) st.2
def fdS (m : Int) (st : FdT) (g : Gt) : FdT := (ME.pS st.1 g.1 (fdR m st g).1, (fdR m st g).2)
def tiesI (n : Nat) : List Int := (List.range n).map fun k => 2 * ((k + 1 : Nat) : Int)
def fdI (ps : List (Str × Int)) : List (Str × Int) := ps.foldl (fun e p => ME.pS e p.1 p.2) []
def fd0 (ins : List Str) : List (Str × Int) := fdI (ins.zip (tiesI ins.length))
def fdC (m : Int) (ins : List Str) (gs : List Gt) : FdT := gs.foldl (fdS m) (fd0 ins, [])
structure FdOk (m : Int) (n : Nat) (known : List Str) (st : FdT) : Prop where
 ok : MF.Ok m st.2
 nd : st.2.Nodup
 len : st.2.length ≤ 15 * n
 inn : ∀ k v, ME.vS st.1 k = some v → MF.InT m st.2 v
 kn : ME.Kn st.1 known
theorem FdOk.args {m : Int} {n : Nat} {known : List Str} {st : FdT} (h : FdOk m n known st) {ps : List Str} (hp : ∀ p ∈ ps, p ∈ known) : ∀ t ∈ ps.map (fun p => (ME.vS st.1 p).getD 0), MF.InT m st.2 t := by
 intro t ht
 obtain ⟨p, hm, rfl⟩ := List.mem_map.mp ht
 obtain ⟨v, hv⟩ := h.kn p (hp p hm)
 rw [hv]
 exact h.inn p v hv
theorem FdOk.step {m : Int} (hm : 0 ≤ m) {n : Nat} {known : List Str} {st : FdT} (h : FdOk m n known st) {g : Gt} (hp : ∀ p ∈ g.2.2, p ∈ known) (hw : WdA g.2.1 g.2.2.length) (h6 : g.2.2.length ≤ 6) : FdOk m (n + 1) (known ++ [g.1]) (fdS m st g) := by
 have hst : MF.St m st.2 15 (fdR m st g) := gtR_st hm (wd_of (by rw [List.length_map]; exact hw) (by rw [List.length_map]; exact h6)) (h.args hp)
 refine ⟨hst.ok h.ok, hst.nd h.nd, ?_, fun k v hv => ?_, h.kn.put _ _⟩
 ·have h1 := hst.hi
  have h2 := h.len
  show (fdR m st g).2.length ≤ _
  omega
 ·change ME.vS (ME.pS st.1 g.1 (fdR m st g).1) k = some v at hv
  rw [ME.vS_pS] at hv
  split at hv
  ·cases hv
   exact hst.inn
  ·exact (h.inn k v hv).mono hst.lo
theorem WG_take {A : Str → Nat → Prop} : ∀ {gs : List Gt} {known : List Str}, ME.WG A known gs → ∀ i, ME.WG A known (gs.take i)
 | [], known, h, i => by rw [List.take_nil]; exact h
 | g :: gs, known, h, 0 => by rw [List.take_zero]; trivial
 | g :: gs, known, h, i + 1 => by rw [List.take_succ_cons]; exact ⟨h.1, h.2.1, h.2.2.1, WG_take h.2.2.2 i⟩
theorem fd_all {m : Int} (hm : 0 ≤ m) : ∀ (gs : List Gt) (n : Nat) (known : List Str) (st : FdT), ME.WG WdA known gs → FdOk m n known st → FdOk m (n + gs.length) (known ++ gs.map (·.1)) (gs.foldl (fdS m) st)
 | [], n, known, st, _, h => by simpa using h
 | g :: gs, n, known, st, hW, h => by
  obtain ⟨p1, p2, p3⟩ := ME.WG.at hW (i := 0) (g := g) rfl
  have p1' : ∀ p ∈ g.2.2, p ∈ known := fun p hp => by have := p1 p hp; simpa using this
  have := fd_all hm gs (n + 1) (known ++ [g.1]) (fdS m st g) hW.2.2.2 (h.step hm p1' p2 p3)
  rw [List.length_cons, List.foldl_cons, List.map_cons, show n + (gs.length + 1) = n + 1 + gs.length by omega]
  simpa using this
theorem fd0_ok (ins : List Str) : FdOk ins.length 0 ins (fd0 ins, []) := by
 have hl : (ins.zip (tiesI ins.length)).map (·.1) = ins := by
  rw [List.map_fst_zip]
  unfold tiesI
  rw [List.length_map, List.length_range]
  exact Nat.le_refl _
 have key : ∀ (ps e : List (Str × Int)), (∀ k v, ME.vS e k = some v → MF.InT ins.length [] v) → (∀ p ∈ ps, MF.InT ins.length [] p.2) → ∀ k v, ME.vS (ps.foldl (fun e p => ME.pS e p.1 p.2) e) k = some v → MF.InT ins.length [] v := by
  intro ps
  induction ps with
  | nil => intro e he _; exact he
  | cons p r ih =>
   intro e he hp
   refine ih _ (fun k v hv => ?_) fun q hq => hp q (List.mem_cons_of_mem _ hq)
   rw [ME.vS_pS] at hv
   split at hv
   ·cases hv; exact hp p (List.mem_cons_self ..)
   ·exact he k v hv
 refine ⟨fun i p hp => by simp at hp, List.nodup_nil, Nat.zero_le _, ?_, ?_⟩
 ·refine key _ [] (fun k v hv => by simp [ME.vS] at hv) fun p hp => ?_
  have : p.2 ∈ tiesI ins.length := (List.of_mem_zip (show (p.1, p.2) ∈ ins.zip (tiesI ins.length) from hp)).2
  unfold tiesI at this
  obtain ⟨k, hk, e⟩ := List.mem_map.mp this
  rw [List.mem_range] at hk
  rw [← e]
  exact ⟨by omega, by simp only [List.length_nil]; omega⟩
 ·have := ME.fold_kn (ins.zip (tiesI ins.length)) ([] : List (Str × Int)) [] (fun n hn => by simp at hn)
  rw [hl, List.nil_append] at this
  exact this
theorem fdI_len (ps : List (Str × Int)) : (fdI ps).length ≤ ps.length := by
 have : ∀ (ps e : List (Str × Int)), (ps.foldl (fun e p => ME.pS e p.1 p.2) e).length ≤ e.length + ps.length := by
  intro ps
  induction ps with
  | nil => intro e; exact Nat.le_refl _
  | cons p r ih =>
   intro e
   have h1 := ih (ME.pS e p.1 p.2)
   have h2 := ME.pS_len e p.1 p.2
   rw [List.foldl_cons, List.length_cons]
   omega
 have := this ps []
 simpa [fdI] using this
theorem fdC_len (m : Int) : ∀ (gs : List Gt) (st : FdT), (gs.foldl (fdS m) st).1.length ≤ st.1.length + gs.length
 | [], st => Nat.le_refl _
 | g :: gs, st => by
  have h1 := fdC_len m gs (fdS m st g)
  have h2 : (fdS m st g).1.length ≤ st.1.length + 1 := ME.pS_len _ _ _
  rw [List.foldl_cons, List.length_cons]
  omega
def lookT (e : List (Str × Int)) : V → V | .str n => .int ((ME.vS e n).getD 0) | _ => .non
theorem mE_len (e : List (Str × Int)) : (mE V.int e).length = e.length := List.length_map ..
def sp_folded (a : Adr) (K : PySem.W.Frag) : Sp := fun vs H Q _ => ∃ (x : Addr) (ins : List Str) (gs : List Gt) (outs : List Str), vs = [.ref x] ∧ NetO a H x ins gs outs ∧ ME.WG WdA ins gs ∧ (∀ o ∈ outs, o ∈ ins ++ gs.map (·.1)) ∧ ins.length ≤ 10 ∧ gs.length ≤ 100 ∧ outs.length ≤ 100 ∧
 ∀ H' r g gx gl gk q es', Same H H' → H g = none → H gl = none → H gk = none → H q = none → FoldAt a.c_Fold H' g ins.length es' gx gl gk → psOf es' = MF.swP ins.length (fdC ins.length ins gs).2 (ME.outsOf 0 (fdC ins.length ins gs).1 outs) →
  H' q = some (.lst ((MF.swT ins.length (fdC ins.length ins gs).2 (ME.outsOf 0 (fdC ins.length ins gs).1 outs)).map V.int)) → H' r = some (.tup [.ref g, .ref q]) → gl ≠ q → Q (.ref r) H'
def rd_folded (a : Adr) (K : PySem.W.Frag) : TS := (tSeq (tAsg (tMake a.c_Fold (sp_Fold___init__ a K) [] E0 (tCons (tCB (cLen K) (tCons (tFld K (cVar 0) "inputs") tNil)) tNil)) (gName 1))
  (tSeq (tAsg tDNewK (gName 2))
  (tSeq (tFor (iEnum K (tCons (tFld K (cVar 0) "inputs") tNil) (tC (.int 1))) (gTup K 2 (gCons (gName 3) (gCons (gName 4) gNil))) (sDPut (cVar 2) (cVar 4) (tOp cMul (tC (.int 2)) (cVar 3))))
  (tSeq (tFor (iTup K (tFld K (cVar 0) "gates")) (gTup K 3 (gCons (gName 4) (gCons (gName 5) (gCons (gName 6) gNil)))) (sDPut (cVar 2) (cVar 4) (tCall (sp_gate_tie a K) [] E0 (tCons (cVar 1) (tCons (cVar 5) (tCons (tComp (iTup K (cVar 6)) 1 [2] (gName 0) tTrue (tDGet (cVar 1) (cVar 0))) tNil))))))
  (tRet (tCall (sp_swept a K) [] E0 (tCons (cVar 1) (tCons (tComp (iTup K (tFld K (cVar 0) "outputs")) 1 [2] (gName 0) tTrue (tDGet (cVar 1) (cVar 0))) tNil))))))))
theorem tm_folded (T : Txt K mg a) {cdv : Value} {A : Around} {outer : List Env} {s : Shared} {H : Hp} {E : XK} (hr : Room 8 (A.deeper (envOfC "folded" (defScope s_folded) s.heap.objs.size a.f_folded cdv))) :
  PSs (cxOf CX0 P w K mg base N_folded "folded" (defScope s_folded) a.f_folded cdv A outer s H E).nox (defBody s_folded) (rd_folded a K) :=
 (pss_cons (ps_set (i := 1) sc_folded.nd rfl (by walk_at "o") (pe_make T.mk_Fold (ok_Fold___init__ T) (hr.mono (by decide)) rfl T.mg_Fold T.bi_Fold___init__ .nil pass0 (pa_cons (pe_callB c_len (by rfl) T.no_len PySem.boot_len (pa_cons (pe_fld (cv 0) rfl) pa_nil)) pa_nil)))
   (pss_cons (ps_set (i := 2) sc_folded.nd rfl (by walk_at "o") pe_dnewK)
   (pss_cons (ps_for PassesOwn.never rfl (pi_enum rfl T.no_enumerate (pa_cons (pe_fld (cv 0) rfl) pa_nil) pe_int) (pg_tup rfl (pgs_cons (pg_name (i := 3) sc_folded.nd rfl (by walk_at "o")) (pgs_cons (pg_name (i := 4) sc_folded.nd rfl (by walk_at "o")) pgs_nil))) (pss_one (ps_dput (hu_of hr) (cv 2) (cv 4) (pe_op o_mul pe_int (cv 3)) rfl)))
   (pss_cons (ps_for PassesOwn.never rfl (pi_tup (pe_fld (cv 0) rfl)) (pg_tup rfl (pgs_cons (pg_name (i := 4) sc_folded.nd rfl (by walk_at "o")) (pgs_cons (pg_name (i := 5) sc_folded.nd rfl (by walk_at "o")) (pgs_cons (pg_name (i := 6) sc_folded.nd rfl (by walk_at "o")) pgs_nil)))) (pss_one (ps_dput (hu_of hr) (cv 2) (cv 4) (pe_call (ok_gate_tie T) (hr.mono (by decide)) rfl T.mg_gate_tie T.fn_gate_tie.kp T.bi_gate_tie .nil pass0 (pa_cons (cv 1) (pa_cons (cv 5) (pa_cons (pe_comp (N := ["part", "known"]) (k := 1) (sel := [2]) (CScope.of (defScope s_folded).names (by decide +kernel)) (CNames.of N_folded (by decide +kernel)) rfl (pi_tup (cv 6)) (fun _ _ _ _ => (pg_name (i := 0) (show List.Nodup (["part", "known"] : List Str) by decide +kernel) rfl (by walk_at "o"))) (fun _ _ _ _ => pts_nil) (fun _ _ _ _ => (pe_dget (hu_of hr) (cv 1) (cv 0) (fun _ _ => rfl)))) pa_nil)))) rfl)))
   (pss_one (ps_ret (pe_call (ok_swept T) (hr.mono (by decide)) rfl T.mg_swept T.fn_swept.kp T.bi_swept .nil pass0 (pa_cons (cv 1) (pa_cons (pe_comp (N := ["name", "known"]) (k := 1) (sel := [2]) (CScope.of (defScope s_folded).names (by decide +kernel)) (CNames.of N_folded (by decide +kernel)) rfl (pi_tup (pe_fld (cv 0) rfl)) (fun _ _ _ _ => (pg_name (i := 0) (show List.Nodup (["name", "known"] : List Str) by decide +kernel) rfl (by walk_at "o"))) (fun _ _ _ _ => pts_nil) (fun _ _ _ _ => (pe_dget (hu_of hr) (cv 1) (cv 0) (fun _ _ => rfl)))) pa_nil)))))))))
theorem ok_folded (T : Txt K mg a) : FnOk P w K mg base CX0 9 a.f_folded a.d_folded ["net"] (sp_folded a K) := by
 refine T.fn_folded.ok sc_folded (fun vs H Q E h => ?_) (fun cdv A outer s H vs Q E hr h => ⟨_, tm_folded T hr, ?_⟩)
 ·obtain ⟨x, ins, gs, outs, rfl, _⟩ := h; rfl
 ·obtain ⟨x, ins, gs, outs, rfl, hN, hW, hwo, l1, l2, l3, q⟩ := h
  show rd_folded a K _ [some (.ref x), none, none, none, none, none, none] H
  unfold rd_folded
  obtain ⟨dx, t1, t2, t3, ts, hx, h1, h2, h3, h4⟩ := hN
  have big : (20000 : Nat) ≤ sizeLine := by decide
  obtain ⟨m, hm⟩ : ∃ m : Nat, m = ins.length := ⟨_, rfl⟩
  rw [← hm] at q
  walk_at "gs"
  refine ⟨x, a.c_Net, dx, _, _, rfl, hx, T.cl_Net, T.na_Net_inputs, rfl, ?_⟩
  walk_at "gs"
  refine .inl ⟨_, .inr (.of h1), ?_⟩
  rw [List.length_map, ← hm]
  walk_at "gs"
  refine mk_Fold fun g gx gl gk H1 s1 hg hgl hgk G1 => ?_
  walk_at "gs"
  intro d H2 n2
  have s2 := s1.trans n2.same
  have G2 := G1.same n2.same
  have hd0 : H d = none := s1.nil n2.was
  walk_at "gs"
  refine ⟨x, a.c_Net, dx, _, _, rfl, s2 _ _ hx, T.cl_Net, T.na_Net_inputs, rfl, ?_⟩
  walk_at "gs"
  have lz : (ins.zip (tiesI ins.length)).length = ins.length := by rw [List.length_zip]; unfold tiesI; rw [List.length_map, List.length_range, Nat.min_self]
  refine ⟨t1, rfl, trivial, ⟨_, .of (s2 _ _ h1)⟩, for_eG (xs := ins.map V.str) (fun i σ H3 => Same H H3 ∧ FoldAt a.c_Fold H3 g m [] gx gl gk ∧ H3 d = some (.dK (mE V.int (fdI ((ins.zip (tiesI ins.length)).take i)))) ∧ ∃ v3 v4, σ = [some (.ref x), some (.ref g), some (.ref d), v3, v4, none, none]) ⟨s2, G2, n2.at_, _, _, rfl⟩ ?_ ?_ ?_⟩
  ·rintro i σ H3 _ ⟨s3, _⟩
   exact .of (s3 _ _ h1)
  ·rintro i y tt σ H3 hy htt ⟨s3, G3, d3, v3, v4, rfl⟩
   have hi : i < ins.length := by rw [← List.length_map (f := V.str)]; exact (List.getElem?_eq_some_iff.mp hy).1
   rw [List.getElem?_map, List.getElem?_eq_getElem hi] at hy
   cases hy
   have hz : (ins.zip (tiesI ins.length))[i]? = some (ins[i], 2 * ((i + 1 : Nat) : Int)) := by
    rw [List.getElem?_zip_eq_some]
    exact ⟨List.getElem?_eq_getElem hi, by unfold tiesI; simp [hi]⟩
   have s4 : Same H3 (upd H3 tt (.tup [.int ((i + 1 : Nat) : Int), .str ins[i]])) := same_upd htt
   walk_at "gs"
   refine ⟨tt, _, rfl, .of upd_same, rfl, _, _, rfl, _, _, rfl, rfl, ?_⟩
   walk_at "gs"
   have d4 := s4 _ _ d3
   refine ⟨d, _, rfl, DPut.k (k := .inr ins[i]) d4 (by rw [mE_len]; have := fdI_len ((ins.zip (tiesI ins.length)).take i); rw [List.length_take] at this; omega), (s3.trans s4).put hd0, ?_, ?_, _, _, rfl⟩
   ·have G4 := G3.same s4
    exact ⟨by rw [upd_ne (ne_of G4.ins d4 (fun z => nomatch z))]; exact G4.ins, by rw [upd_ne (ne_of G4.prs.lst d4 (fun z => nomatch z))]; exact G4.prs.lst, by rw [upd_ne (ne_of G4.prs.dct d4 (fun z => nomatch z))]; exact G4.prs.dct, fun e he => nomatch he⟩
   ·rw [upd_same, putK_mE, List.take_add_one, hz]
    unfold fdI
    rw [List.foldl_append]
    rfl
  rintro σ H3 ⟨s3, G3, d3, v3, v4, rfl⟩
  have hst0 := fd0_ok ins
  have e0 : fdI ((ins.zip (tiesI ins.length)).take (ins.map V.str).length) = fd0 ins := by
   rw [List.length_map, List.take_of_length_le (by rw [lz]; exact Nat.le_refl _)]
   rfl
  rw [e0] at d3
  walk_at "gs"
  refine ⟨x, a.c_Net, dx, _, _, rfl, s3 _ _ hx, T.cl_Net, T.na_Net_gates, rfl, ?_⟩
  walk_at "gs"
  refine ⟨⟨_, .of (s3 _ _ h2)⟩, for_tupG (xs := ts) (fun i σ H4 => Same H H4 ∧ ∃ es4, FoldAt a.c_Fold H4 g m es4 gx gl gk ∧ psOf es4 = (fdC m ins (gs.take i)).2 ∧ H4 d = some (.dK (mE V.int (fdC m ins (gs.take i)).1)) ∧ ∃ v3 v4 v5 v6, σ = [some (.ref x), some (.ref g), some (.ref d), v3, v4, v5, v6]) ⟨s3, [], G3, rfl, d3, _, _, _, _, rfl⟩ ?_ ?_ ?_⟩
  ·rintro i σ H4 _ ⟨s4, _⟩
   exact .of (s4 _ _ h2)
  ·rintro i v σ H4 hv ⟨s4, es4, G4, p4, d4, v3, v4, v5, v6, rfl⟩
   have hi : i < gs.length := by rw [← h3.1]; exact (List.getElem?_eq_some_iff.mp hv).1
   have hgi : gs[i]? = some gs[i] := by simp [hi]
   obtain ⟨t, qq, f1, f2, f3⟩ := h3.2 i gs[i] hgi
   rw [f1] at hv
   cases hv
   obtain ⟨p1, p2, p3⟩ := ME.WG.at hW hgi
   generalize gs[i] = gt at hgi f2 f3 p1 p2 p3
   have fok : FdOk m (0 + (gs.take i).length) (ins ++ (gs.take i).map (·.1)) (fdC m ins (gs.take i)) := by
    rw [hm]
    exact fd_all (by omega) (gs.take i) 0 ins _ (WG_take hW i) hst0
   have fle := fok.len
   rw [List.length_take] at fle
   have elen : (fdC m ins (gs.take i)).1.length ≤ 10 + 100 := by
    have h5 := fdC_len m (gs.take i) (fd0 ins, [])
    have h6 := fdI_len (ins.zip (tiesI ins.length))
    rw [lz] at h6
    rw [List.length_take] at h5
    have : (fd0 ins).length ≤ 10 := Nat.le_trans h6 l1
    show (List.foldl (fdS m) (fd0 ins, []) (gs.take i)).1.length ≤ _
    simp only at h5
    omega
   have es9 : fdC m ins (gs.take (i + 1)) = fdS m (fdC m ins (gs.take i)) gt := by
    unfold fdC
    rw [List.take_add_one, hgi, List.foldl_append]
    rfl
   rw [es9]
   have hkn := fok.kn
   have harg := fok.args p1
   generalize fdC m ins (gs.take i) = st at *
   walk_at "gs"
   refine ⟨t, _, rfl, .of (s4 _ _ f2), rfl, _, _, rfl, _, _, rfl, _, _, rfl, rfl, ?_⟩
   walk_at "gs"
   refine ⟨⟨_, .of (s4 _ _ f3)⟩, compG_tup (lookT st.1) (.of (s4 _ _ f3)) rfl (by rw [List.length_map]; omega) ?_ ?_⟩
   ·intro y H' Q' hy s' q'
    obtain ⟨n, hn, rfl⟩ := List.mem_map.mp hy
    walk_at "gs"
    obtain ⟨c, hc⟩ := hkn n (p1 n hn)
    refine ⟨d, .int c, rfl, ?_, ?_⟩
    ·have := DGet.k (k := .inr n) (s' _ _ d4)
     rw [valV_mE, hc] at this
     exact this
    ·have : lookT st.1 (.str n) = .int c := by simp [lookT, hc]
     rw [this] at q'
     exact q'
   ·intro r H5 n5
    walk_at "gs"
    have el : (gt.2.2.map V.str).map (lookT st.1) = (gt.2.2.map fun p => (ME.vS st.1 p).getD 0).map V.int := by rw [List.map_map, List.map_map]; rfl
    rw [el] at n5
    have hl4 : es4.length = st.2.length := by rw [← p4, List.length_map]
    refine ⟨g, gx, gl, gk, r, gt.2.1, m, _, es4, rfl, G4.same n5.same, n5.sq, wd_of (by rw [List.length_map]; exact p2) (by rw [List.length_map]; exact p3), by omega, by rw [p4]; exact harg, by omega, fun H6 es6 u6 G6 p6 => ?_⟩
    rw [p4] at p6 ⊢
    have d5 := n5.same _ _ d4
    have G5 := G4.same n5.same
    have d6 := u6 _ _ (ne_of d5 G5.prs.lst (fun z => nomatch z)) (ne_of d5 G5.prs.dct (fun z => nomatch z)) d5
    walk_at "gs"
    refine ⟨d, _, rfl, DPut.k (k := .inr gt.1) d6 (by rw [mE_len]; omega), (Same.un2 (s4.trans n5.same) u6 hgl hgk).put hd0, es6, ?_, p6, ?_, _, _, _, _, rfl⟩
    ·exact ⟨by rw [upd_ne (ne_of G6.ins d6 (fun z => nomatch z))]; exact G6.ins, by rw [upd_ne (ne_of G6.prs.lst d6 (fun z => nomatch z))]; exact G6.prs.lst, by rw [upd_ne (ne_of G6.prs.dct d6 (fun z => nomatch z))]; exact G6.prs.dct, fun e he => by rw [upd_ne (ne_of (G6.prs.tup e he) d6 (fun z => nomatch z))]; exact G6.prs.tup e he⟩
    ·rw [upd_same, putK_mE]
     rfl
  ·rintro σ H4 ⟨s4, es4, G4, p4, d4, v3, v4, v5, v6, rfl⟩
   have egs : gs.take ts.length = gs := by rw [h3.1, List.take_length]
   rw [egs] at p4 d4
   have fok : FdOk m (0 + gs.length) (ins ++ gs.map (·.1)) (fdC m ins gs) := by
    rw [hm]
    exact fd_all (by omega) gs 0 ins _ hW hst0
   have fle := fok.len
   have hkn := fok.kn
   have hok := fok.ok
   have hnd := fok.nd
   have harg := fok.args hwo
   generalize fdC m ins gs = st at *
   have hl4 : es4.length = st.2.length := by rw [← p4, List.length_map]
   walk_at "gs"
   refine ⟨x, a.c_Net, dx, _, _, rfl, s4 _ _ hx, T.cl_Net, T.na_Net_outputs, rfl, ?_⟩
   walk_at "gs"
   refine ⟨⟨_, .of (s4 _ _ h4)⟩, compG_tup (lookT st.1) (.of (s4 _ _ h4)) rfl (by rw [List.length_map]; omega) ?_ ?_⟩
   ·intro y H' Q' hy s' q'
    obtain ⟨n, hn, rfl⟩ := List.mem_map.mp hy
    walk_at "gs"
    obtain ⟨c, hc⟩ := hkn n (hwo n hn)
    refine ⟨d, .int c, rfl, ?_, ?_⟩
    ·have := DGet.k (k := .inr n) (s' _ _ d4)
     rw [valV_mE, hc] at this
     exact this
    ·have : lookT st.1 (.str n) = .int c := by simp [lookT, hc]
     rw [this] at q'
     exact q'
   ·intro r H5 n5
    walk_at "gs"
    have el : (outs.map V.str).map (lookT st.1) = (ME.outsOf 0 st.1 outs).map V.int := by unfold ME.outsOf; rw [List.map_map, List.map_map]; rfl
    rw [el] at n5
    have tis : MF.Tis m (psOf es4) (ME.outsOf 0 st.1 outs) := by rw [p4]; exact harg
    refine ⟨g, gx, gl, gk, r, m, _, es4, rfl, G4.same n5.same, n5.sq, by rw [p4]; exact hok, by rw [p4]; exact hnd, tis, by omega, by omega, by unfold ME.outsOf; rw [List.length_map]; omega, fun H6 r6 g6 x6 gl6 gk6 q6 es6 s6 a1 a2 a3 a4 G6 p6 q6' t6 n6' => ?_⟩
    rw [p4] at p6 q6'
    have s5 := s4.trans n5.same
    exact q H6 r6 g6 x6 gl6 gk6 q6 es6 (s5.trans s6) (s5.nil a1) (s5.nil a2) (s5.nil a3) (s5.nil a4) G6 p6 q6' t6 n6'
def sp_law_cell_at (K : PySem.W.Frag) : Sp := fun vs H Q _ => ∃ (p : Addr) (ns : List Int) (k : Nat), vs = [.ref p, .int k] ∧ SqL K H p (ns.map V.int) ∧ ∀ c, 0 ≤ c → Q (.int c) H
def rd_law_cell_at (K : PySem.W.Frag) : TS := (tSeq (tIfS (cTst (tOp (cI2 fun i j => .bl (decide (i < j))) (cVar 1) (tCB (cLen K) (tCons (cVar 0) tNil)))) (tRet (tOp (cI2c (fun _ j => 0 < j) fun i j => .int (i % j)) (tOp (cIx K) (cVar 0) (cVar 1)) (tOp (cI2c CPow fun i j => .int (i ^ j.toNat)) (tC (.int 10)) (tC (.int 40))))) tNext)
  (tRet (tC (.int 0))))
theorem tm_law_cell_at (T : Txt K mg a) {cdv : Value} {A : Around} {outer : List Env} {s : Shared} {H : Hp} {E : XK} (hr : Room 0 (A.deeper (envOfC "_law_cell_at" (defScope s_law_cell_at) s.heap.objs.size a.f_law_cell_at cdv))) :
  PSs (cxOf CX0 P w K mg base N_law_cell_at "_law_cell_at" (defScope s_law_cell_at) a.f_law_cell_at cdv A outer s H E).nox (defBody s_law_cell_at) (rd_law_cell_at K) :=
 (pss_cons (ps_if (t_cmp o_lt (cv 1) (pe_callB c_len (by rfl) T.no_len PySem.boot_len (pa_cons (cv 0) pa_nil)) (nomark _)) (pss_one (ps_ret (pe_op o_mod (pe_ix i_seq (cv 0) (cv 1) (fun _ _ => rfl)) (pe_op o_pow pe_int pe_int)))) pss_nil)
   (pss_one (ps_ret pe_int)))
theorem ok_law_cell_at (T : Txt K mg a) : FnOk P w K mg base CX0 1 a.f_law_cell_at a.d_law_cell_at ["_law_script", "_law_k"] (sp_law_cell_at K) := by
 refine T.fn_law_cell_at.ok sc_law_cell_at (fun vs H Q E h => ?_) (fun cdv A outer s H vs Q E hr h => ⟨_, tm_law_cell_at T hr, ?_⟩)
 ·obtain ⟨p, ns, k, rfl, _⟩ := h; rfl
 ·obtain ⟨p, ns, k, rfl, hS, q⟩ := h
  show rd_law_cell_at K _ [some (.ref p), some (.int k)] H
  unfold rd_law_cell_at
  walk_at "go"
  refine .inl ⟨_, .inl hS, ?_⟩
  rw [List.length_map]
  have hp : ∀ n : Nat, (0 : Int) < 10 ^ n := fun n => Int.pow_pos (by decide)
  by_cases h : (k : Int) < ns.length
  ·rw [if_pos h]
   refine ixI hS (by omega) h ?_
   walk_at "go"
   exact ⟨⟨by decide, by decide, by decide⟩, hp _, q _ (Int.emod_nonneg _ (Int.ne_of_gt (hp _)))⟩
  ·rw [if_neg h]
   exact q 0 (by decide)
def kv2 : Int → List MF.Pr → List (List Key × V)
 | _, [] => []
 | n, p :: r => (knK p, .int (2 * n)) :: kv2 (n + 1) r
theorem val_kv2 : ∀ (n : Int) (ps : List MF.Pr) (p : MF.Pr), valV (kv2 n ps) (knK p) = (MF.fnd n ps p).map fun i => V.int (2 * i)
 | _, [], _ => rfl
 | n, q :: r, p => by
  show valV ((knK q, V.int (2 * n)) :: kv2 (n + 1) r) (knK p) = _
  unfold MF.fnd
  by_cases e : q = p
  ·rw [if_pos e, valV_pos (p := (knK q, V.int (2 * n))) (congrArg knK e)]; rfl
  ·rw [if_neg e, valV_neg (p := (knK q, V.int (2 * n))) (fun z => e (knK_inj z)), val_kv2 (n + 1) r p]
theorem kv2_snoc : ∀ (n : Int) (ps : List MF.Pr) (p : MF.Pr), kv2 n (ps ++ [p]) = kv2 n ps ++ [(knK p, .int (2 * (n + ps.length)))]
 | n, [], p => by simp [kv2]
 | n, q :: r, p => by
  show (knK q, V.int (2 * n)) :: kv2 (n + 1) (r ++ [p]) = (knK q, V.int (2 * n)) :: (kv2 (n + 1) r ++ _)
  rw [kv2_snoc (n + 1) r p]
  congr 6
  simp only [List.length_cons]
  omega
theorem len_kv2 : ∀ (n : Int) (ps : List MF.Pr), (kv2 n ps).length = ps.length
 | _, [] => rfl
 | n, q :: r => by show (kv2 (n + 1) r).length + 1 = r.length + 1; rw [len_kv2 (n + 1) r]
theorem kv2_at : ∀ (n : Int) (ps : List MF.Pr) (i : Nat) (x : List Key × V), (kv2 n ps)[i]? = some x → ∃ p, ps[i]? = some p ∧ x = (knK p, .int (2 * (n + i)))
 | n, [], i, x, h => by simp [kv2] at h
 | n, q :: r, 0, x, h => by
  have : (knK q, V.int (2 * n)) = x := by simpa [kv2] using h
  exact ⟨q, rfl, by rw [← this]; simp⟩
 | n, q :: r, i + 1, x, h => by
  obtain ⟨p, h1, h2⟩ := kv2_at (n + 1) r i x (by simpa [kv2] using h)
  exact ⟨p, by simpa using h1, by rw [h2]; congr 3; omega⟩
def inK (k : Nat) : List (List Key × V) := (List.range k).map fun (j : Nat) => (knK ((j : Int), -1), V.int (2 * (j : Int) + 2))
def bkF (m : Nat) (ps : List MF.Pr) : List (List Key × V) := inK m ++ kv2 (m + 1) ps
theorem len_bk (m : Nat) (ps : List MF.Pr) : (bkF m ps).length = m + ps.length := by unfold bkF inK; rw [List.length_append, List.length_map, List.length_range, len_kv2]
theorem inK_succ (k : Nat) : inK (k + 1) = inK k ++ [(knK ((k : Int), -1), V.int (2 * (k : Int) + 2))] := by unfold inK; rw [List.range_succ, List.map_append]; rfl
theorem val_app (k : List Key) : ∀ (a b : List (List Key × V)), (∀ x ∈ a, x.1 ≠ k) → valV (a ++ b) k = valV b k
 | [], b, _ => rfl
 | x :: r, b, h => by
  show valV (x :: (r ++ b)) k = _
  rw [valV_neg (h x (List.mem_cons_self ..)), val_app k r b fun y hy => h y (List.mem_cons_of_mem _ hy)]
theorem inK_ne {m : Nat} {p : MF.Pr} (hp : 0 ≤ p.2) : ∀ x ∈ inK m, x.1 ≠ knK p := fun x hx e => by
 obtain ⟨j, _, rfl⟩ := List.mem_map.mp hx
 have := congrArg (·.2) (knK_inj e)
 simp only at this
 omega
theorem val_bk {m : Nat} {ps : List MF.Pr} {p : MF.Pr} (hp : 0 ≤ p.2) : valV (bkF m ps) (knK p) = (MF.fnd (m + 1) ps p).map fun i => V.int (2 * i) := by
 unfold bkF
 rw [val_app _ _ _ (inK_ne hp), val_kv2]
theorem put_bk {m : Nat} {ps : List MF.Pr} {p : MF.Pr} (hp : 0 ≤ p.2) (h : MF.fnd (m + 1) ps p = none) : putK (bkF m ps) (knK p) (.int (2 * ((bkF m ps).length + 1))) = bkF m (ps ++ [p]) := by
 unfold putK
 rw [valV_any, val_bk hp, h, len_bk]
 show bkF m ps ++ [_] = _
 unfold bkF
 rw [kv2_snoc, List.append_assoc]
 congr 4
 show V.int _ = V.int _
 congr 1
 push_cast
 omega
def Un1 (bd : Addr) (H H' : Hp) : Prop := ∀ b o, b ≠ bd → H b = some o → H' b = some o
theorem Un1.trans {bd : Addr} {H H' H1 : Hp} (u : Un1 bd H H') (v : Un1 bd H' H1) : Un1 bd H H1 := fun b o n e => v b o n (u b o n e)
theorem un1_of {bd : Addr} {H H' : Hp} (s : Same H H') : Un1 bd H H' := fun b o _ e => s b o e
theorem xor_tn {l g : Int} (hl : 0 ≤ l) (hg : 0 ≤ g) : Builtin.bitXor l g = 1 ↔ l = MF.tn g := by
 obtain ⟨x, rfl⟩ := Int.eq_ofNat_of_zero_le hl
 obtain ⟨y, rfl⟩ := Int.eq_ofNat_of_zero_le hg
 have e := xor_nat y 1
 rw [show ((1 : Nat) : Int) = 1 from rfl] at e
 rw [xor_nat, ← xor_one hg, e]
 constructor
 ·intro h
  have h1 : x ^^^ y = 1 := by omega
  have : x = y ^^^ 1 := by rw [← h1, Nat.xor_comm x y, ← Nat.xor_assoc, Nat.xor_self, Nat.zero_xor]
  rw [this]
 ·intro h
  have h1 : x = y ^^^ 1 := by omega
  rw [h1, Nat.xor_comm y 1, Nat.xor_assoc, Nat.xor_self, Nat.xor_zero]
  rfl
def sp_law_both (_ : PySem.W.Frag) : Sp := fun vs H Q _ => ∃ (bd : Addr) (m : Nat) (s t : Int) (ps : List MF.Pr), vs = [.ref bd, .int s, .int t] ∧ H bd = some (.dT (bkF m ps)) ∧ 0 ≤ s ∧ 0 ≤ t ∧ ps.length ≤ 5000 ∧ m ≤ 100 ∧
 ∀ H', Un1 bd H H' → H' bd = some (.dT (bkF m (MF.bp m ps s t))) → Q (.int (MF.bt m ps s t)) H'
def rd_law_both (K : PySem.W.Frag) : TS := (tSeq (tAsg (tCB cMin (tCons (cVar 1) (tCons (cVar 2) tNil))) (gName 3))
  (tSeq (tAsg (tCB cMax (tCons (cVar 1) (tCons (cVar 2) tNil))) (gName 4))
  (tSeq (tIfS (tOr (cTst (tOp (cEq K) (cVar 3) (tC (.int 0)))) (cTst (tOp (cEq K) (tOp (cI2 fun i j => .int (Builtin.bitXor i j)) (cVar 3) (cVar 4)) (tC (.int 1))))) (tRet (tC (.int 0))) tNext)
  (tSeq (tIfS (tOr (cTst (tOp (cEq K) (cVar 3) (tC (.int 1)))) (cTst (tOp (cEq K) (cVar 3) (cVar 4)))) (tRet (cVar 4)) tNext)
  (tMid (tIfS (cTst (tDNotIn (tTup (tCons (cVar 3) (tCons (cVar 4) tNil))) (cVar 0))) (sDPut (cVar 0) (tTup (tCons (cVar 3) (tCons (cVar 4) tNil))) (tOp cMul (tC (.int 2)) (tOp cAdd (tCB (cLenT K) (tCons (cVar 0) tNil)) (tC (.int 1))))) tNext)
  (tRet (tDGet (cVar 0) (tTup (tCons (cVar 3) (tCons (cVar 4) tNil))))))))))
theorem tm_law_both (T : Txt K mg a) {cdv : Value} {A : Around} {outer : List Env} {s : Shared} {H : Hp} {E : XK} (hr : Room 0 (A.deeper (envOfC "_law_both" (defScope s_law_both) s.heap.objs.size a.f_law_both cdv))) :
  PSs (cxOf CX0 P w K mg base N_law_both "_law_both" (defScope s_law_both) a.f_law_both cdv A outer s H E).nox (defBody s_law_both) (rd_law_both K) :=
 (pss_cons (ps_set (i := 3) sc_law_both.nd rfl (by walk_at "o") (pe_callB (c_min rfl) (by rfl) T.no_min PyProof.Rows.boot_min (pa_cons (cv 1) (pa_cons (cv 2) pa_nil))))
   (pss_cons (ps_set (i := 4) sc_law_both.nd rfl (by walk_at "o") (pe_callB (c_max rfl) (by rfl) T.no_max PyProof.Rows.boot_max (pa_cons (cv 1) (pa_cons (cv 2) pa_nil))))
   (pss_cons (ps_if (PW.pt (pw_or (t_cmp (o_eq (hr8 hr)) (cv 3) pe_int (nomark _)) (pw_or1 (t_cmp (o_eq (hr8 hr)) (pe_op o_xor (cv 3) (cv 4)) pe_int (nomark _))))) (pss_one (ps_ret pe_int)) pss_nil)
   (pss_cons (ps_if (PW.pt (pw_or (t_cmp (o_eq (hr8 hr)) (cv 3) pe_int (nomark _)) (pw_or1 (t_cmp (o_eq (hr8 hr)) (cv 3) (cv 4) (nomark _))))) (pss_one (ps_ret (cv 4))) pss_nil)
   (pss_mid (ps_if (t_pc (pc_dnotin (hu_of hr) (pe_tup (pa_cons (cv 3) (pa_cons (cv 4) pa_nil))) (cv 0))) (pss_one (ps_dput (hu_of hr) (cv 0) (pe_tup (pa_cons (cv 3) (pa_cons (cv 4) pa_nil))) (pe_op o_mul pe_int (pe_op o_add (pe_callB c_lenT (by rfl) T.no_len PySem.boot_len (pa_cons (cv 0) pa_nil)) pe_int)) rfl)) pss_nil)
   (pss_one (ps_ret (pe_dget (hu_of hr) (cv 0) (pe_tup (pa_cons (cv 3) (pa_cons (cv 4) pa_nil))) (fun _ _ => rfl)))))))))
theorem ok_law_both (T : Txt K mg a) : FnOk P w K mg base CX0 1 a.f_law_both a.d_law_both ["_law_book", "_law_one", "_law_other"] (sp_law_both K) := by
 refine T.fn_law_both.ok sc_law_both (fun vs H Q E h => ?_) (fun cdv A outer s H vs Q E hr h => ⟨_, tm_law_both T hr, ?_⟩)
 ·obtain ⟨bd, m, s, t, ps, rfl, _⟩ := h; rfl
 ·obtain ⟨bd, m, x, y, ps, rfl, hB, hx, hy, hz, hm, q⟩ := h
  show rd_law_both K _ [some (.ref bd), some (.int x), some (.int y), none, none] H
  unfold rd_law_both
  have big : (6000 : Nat) ≤ sizeLine := by decide
  walk_at "gs"
  have q' := q
  unfold MF.bt MF.bp MF.sure at q'
  have e1 : (if y < x then y else x) = MF.lo x y := rfl
  have e2 : (if y > x then y else x) = MF.hi x y := rfl
  rw [e1, e2]
  have hlh := MF.lo_le_hi x y
  have hl0 : 0 ≤ MF.lo x y := by unfold MF.lo; split <;> omega
  generalize hlo : MF.lo x y = l at *
  generalize hhi : MF.hi x y = g at *
  by_cases h1 : l = 0
  ·rw [if_pos h1] at q' ⊢
   exact q' H (un1_of (Same.refl _)) hB
  rw [if_neg h1] at q' ⊢
  have hxt := xor_tn hl0 (show 0 ≤ g by omega)
  by_cases h4 : Builtin.bitXor l g = 1
  ·rw [if_pos h4]
   have htn := hxt.mp h4
   have h2 : ¬ (l = 1 ∨ l = g) := fun z => by unfold MF.tn at htn; rcases z with z | z <;> split at htn <;> omega
   rw [if_neg h2, if_pos htn] at q'
   exact q' H (un1_of (Same.refl _)) hB
  rw [if_neg h4]
  by_cases h2 : l = 1 ∨ l = g
  ·rw [if_pos h2] at q'
   have fin := q' H (un1_of (Same.refl _)) hB
   by_cases h3 : l = 1
   ·rw [if_pos h3]; exact fin
   ·rw [if_neg h3, if_pos (h2.resolve_left h3)]; exact fin
  rw [if_neg h2, if_neg (fun z => h4 (hxt.mpr z))] at q'
  rw [if_neg (fun z => h2 (.inl z)), if_neg (fun z => h2 (.inr z))]
  refine mid (fun σ' H' => σ' = [some (.ref bd), some (.int x), some (.int y), some (.int l), some (.int g)] ∧ Un1 bd H H' ∧ H' bd = some (.dT (bkF m (MF.kp m ps (l, g)))) ∧ MF.fnd (m + 1) (MF.kp m ps (l, g)) (l, g) = some (MF.kn m ps (l, g))) ?_ ?_
  ·intro N hN
   walk_at "gs"
   refine ⟨by show 2 ≤ sizeLine; decide, fun t1 H1 n1 => ?_⟩
   refine ⟨bd, _, rfl, DGet.t (k := knK (l, g)) (n1.same _ _ hB) n1.at_, ?_⟩
   rw [val_bk (show (0 : Int) ≤ (l, g).2 by show 0 ≤ g; omega)]
   cases hfd : MF.fnd (m + 1) ps (l, g) with
   | some i =>
    walk_at "gs"
    refine hN _ _ ⟨rfl, un1_of n1.same, ?_, ?_⟩
    ·have : MF.kp m ps (l, g) = ps := by unfold MF.kp; rw [hfd]; rfl
     rw [this]; exact n1.same _ _ hB
    ·have : MF.kp m ps (l, g) = ps := by unfold MF.kp; rw [hfd]; rfl
     rw [this, hfd]; unfold MF.kn; rw [hfd]; rfl
   | none =>
    walk_at "gs"
    refine ⟨_, .inl (n1.same _ _ hB), ?_⟩
    walk_at "gs"
    refine ⟨by show 2 ≤ sizeLine; decide, fun t2 H2 n2 => ?_⟩
    refine ⟨bd, _, rfl, DPut.t (k := knK (l, g)) (n2.same _ _ (n1.same _ _ hB)) n2.at_ (by rw [len_bk]; omega), ?_⟩
    rw [put_bk (show (0 : Int) ≤ (l, g).2 by show 0 ≤ g; omega) hfd]
    have ek : MF.kp m ps (l, g) = ps ++ [(l, g)] := by unfold MF.kp; rw [hfd]; rfl
    refine hN _ _ ⟨rfl, fun b o n e => by rw [upd_ne n]; exact n2.same _ _ (n1.same _ _ e), by rw [ek]; exact upd_same, ?_⟩
    rw [ek]
    unfold MF.kn
    rw [hfd]
    exact MF.fnd_snoc hfd
  ·rintro σ' H' ⟨rfl, u, hB', hfd⟩
   walk_at "gs"
   refine ⟨by show 2 ≤ sizeLine; decide, fun t4 H4 n4 => ?_⟩
   refine ⟨bd, .int (2 * MF.kn m ps (l, g)), rfl, ?_, q' H4 (u.trans (un1_of n4.same)) (n4.same _ _ hB')⟩
   have := DGet.t (k := knK (l, g)) (n4.same _ _ hB') n4.at_
   rw [val_bk (show (0 : Int) ≤ (l, g).2 by show 0 ≤ g; omega), hfd] at this
   exact this
theorem Un1.seq {K : PySem.W.Frag} {H H' : Hp} {bd tp : Addr} {xs : List V} {kv : List (List Key × V)} (u : Un1 bd H H') (hb : H bd = some (.dT kv)) (h : SqL K H tp xs) : SqL K H' tp xs := by
 rcases h with (h | ⟨o, h⟩) | h
 ·exact .inl (.inl (u _ _ (ne_of h hb (fun z => nomatch z)) h))
 ·exact .inl (.inr ⟨o, u _ _ (ne_of h hb (fun z => nomatch z)) h⟩)
 ·exact .inr h
def sp_law_all (K : PySem.W.Frag) : Sp := fun vs H Q _ => ∃ (bd tp : Addr) (m : Nat) (t0 : Int) (ts : List Int) (ps : List MF.Pr), vs = [.ref bd, .ref tp] ∧ H bd = some (.dT (bkF m ps)) ∧ SqL K H tp ((t0 :: ts).map V.int) ∧ (∀ t ∈ t0 :: ts, MF.InT m ps t) ∧ ps.length ≤ 4000 ∧ m ≤ 100 ∧ ts.length ≤ 100 ∧
 ∀ H', Un1 bd H H' → H' bd = some (.dT (bkF m (MF.andR m t0 ts ps).2)) → Q (.int (MF.andR m t0 ts ps).1) H'
def rd_law_all (K : PySem.W.Frag) : TS := (tSeq (tAsg (tOp (cIx K) (cVar 1) (tC (.int 0))) (gName 2))
  (tSeq (tFor (iList K (tSl (cSlU K) (cVar 1) (cPart (tC (.int 1))) tNoPart)) (gName 3) (tAsg (tCall (sp_law_both K) [] E0 (tCons (cVar 0) (tCons (cVar 2) (tCons (cVar 3) tNil)))) (gName 2)))
  (tRet (cVar 2))))
theorem tm_law_all (T : Txt K mg a) {cdv : Value} {A : Around} {outer : List Env} {s : Shared} {H : Hp} {E : XK} (hr : Room 1 (A.deeper (envOfC "_law_all" (defScope s_law_all) s.heap.objs.size a.f_law_all cdv))) :
  PSs (cxOf CX0 P w K mg base N_law_all "_law_all" (defScope s_law_all) a.f_law_all cdv A outer s H E).nox (defBody s_law_all) (rd_law_all K) :=
 (pss_cons (ps_set (i := 2) sc_law_all.nd rfl (by walk_at "o") (pe_ix i_seq (cv 1) pe_int (fun _ _ => rfl)))
   (pss_cons (ps_for PassesOwn.never rfl (pi_list (pe_slice s_u (cv 1) (e_part pe_int) po_none)) (pg_name (i := 3) sc_law_all.nd rfl (by walk_at "o")) (pss_one (ps_set (i := 2) sc_law_all.nd rfl (by walk_at "o") (pe_call (ok_law_both T) (hr.mono (by decide)) rfl T.mg_law_both T.fn_law_both.kp T.bi_law_both .nil pass0 (pa_cons (cv 0) (pa_cons (cv 2) (pa_cons (cv 3) pa_nil)))))))
   (pss_one (ps_ret (cv 2)))))
theorem ok_law_all (T : Txt K mg a) : FnOk P w K mg base CX0 2 a.f_law_all a.d_law_all ["_law_book", "_law_some"] (sp_law_all K) := by
 refine T.fn_law_all.ok sc_law_all (fun vs H Q E h => ?_) (fun cdv A outer s H vs Q E hr h => ⟨_, tm_law_all T hr, ?_⟩)
 ·obtain ⟨bd, tp, m, t0, ts, ps, rfl, _⟩ := h; rfl
 ·obtain ⟨bd, tp, m, t0, ts, ps, rfl, hB, hT, hin, hz, hm, hz2, q⟩ := h
  show rd_law_all K _ [some (.ref bd), some (.ref tp), none, none] H
  unfold rd_law_all
  have hm0 : (0 : Int) ≤ m := by omega
  walk_at "gs"
  refine ⟨_, V.int t0, .inl hT, at0 t0 _, ?_⟩
  walk_at "gs"
  refine ⟨_, hT, fun r H1 n1 => ?_⟩
  rw [cut_1] at n1
  have n1' : New H r (.lst (ts.map V.int)) H1 := n1
  have nrb : r ≠ bd := (ne_of_none hB n1.was).symm
  refine ⟨⟨_, n1'.sq⟩, for_listG (xs := ts.map V.int) (fun i σ H2 => ∃ v, Un1 bd H1 H2 ∧ H2 bd = some (.dT (bkF m (MF.andR m t0 (ts.take i) ps).2)) ∧ σ = [some (.ref bd), some (.ref tp), some (.int (MF.andR m t0 (ts.take i) ps).1), v]) ⟨_, un1_of (Same.refl _), n1.same _ _ hB, rfl⟩ ?_ ?_ ?_⟩
  ·rintro i σ H2 _ ⟨v, u2, _⟩
   exact .of (u2 _ _ nrb n1'.at_)
  ·rintro i x σ H2 hx ⟨v, u2, b2, rfl⟩
   obtain ⟨t, ht, rfl⟩ := get_map_of hx
   have hi : i < ts.length := (List.getElem?_eq_some_iff.mp ht).1
   have st := MF.andR_st hm0 (ts.take i) t0 ps (hin t0 (List.mem_cons_self ..)) fun x hx => hin x (List.mem_cons_of_mem _ (List.mem_of_mem_take hx))
   have l2 := st.hi
   rw [List.length_take] at l2
   walk_at "gs"
   refine ⟨bd, m, _, t, _, rfl, b2, st.inn.1, (hin t (List.mem_cons_of_mem _ (List.mem_of_getElem? ht))).1, by omega, hm, fun H3 u3 b3 => ?_⟩
   walk_at "gs"
   have e : MF.andR m t0 (ts.take (i + 1)) ps = MF.bo m (MF.andR m t0 (ts.take i) ps).1 t (MF.andR m t0 (ts.take i) ps).2 := by
    rw [List.take_add_one, ht]
    exact MF.andR_snoc m (ts.take i) t0 t ps
   refine ⟨some (.int t), u2.trans u3, ?_, ?_⟩
   ·rw [e]; exact b3
   ·rw [e]; rfl
  ·rintro σ H2 ⟨v, u2, b2, rfl⟩
   rw [List.length_map, List.take_length] at b2 ⊢
   walk_at "gs"
   exact q H2 ((un1_of n1.same).trans u2) b2
def sp_law_any (K : PySem.W.Frag) : Sp := fun vs H Q _ => ∃ (bd tp : Addr) (m : Nat) (t0 : Int) (ts : List Int) (ps : List MF.Pr), vs = [.ref bd, .ref tp] ∧ H bd = some (.dT (bkF m ps)) ∧ SqL K H tp ((t0 :: ts).map V.int) ∧ (∀ t ∈ t0 :: ts, MF.InT m ps t) ∧ ps.length ≤ 4000 ∧ m ≤ 100 ∧ ts.length ≤ 100 ∧
 ∀ H', Un1 bd H H' → H' bd = some (.dT (bkF m (MF.orR m t0 ts ps).2)) → Q (.int (MF.orR m t0 ts ps).1) H'
def rd_law_any (K : PySem.W.Frag) : TS := (tRet (tOp (cI2 fun i j => .int (Builtin.bitXor i j)) (tCall (sp_law_all K) [] E0 (tCons (cVar 0) (tCons (tComp (iList K (cVar 1)) 1 [] (gName 0) tTrue (tOp (cI2 fun i j => .int (Builtin.bitXor i j)) (cVar 0) (tC (.int 1)))) tNil))) (tC (.int 1))))
theorem tm_law_any (T : Txt K mg a) {cdv : Value} {A : Around} {outer : List Env} {s : Shared} {H : Hp} {E : XK} (hr : Room 2 (A.deeper (envOfC "_law_any" (defScope s_law_any) s.heap.objs.size a.f_law_any cdv))) :
  PSs (cxOf CX0 P w K mg base N_law_any "_law_any" (defScope s_law_any) a.f_law_any cdv A outer s H E).nox (defBody s_law_any) (rd_law_any K) :=
 (pss_one (ps_ret (pe_op o_xor (pe_call (ok_law_all T) (hr.mono (by decide)) rfl T.mg_law_all T.fn_law_all.kp T.bi_law_all .nil pass0 (pa_cons (cv 0) (pa_cons (pe_comp (N := ["_law_tie"]) (k := 1) (sel := []) (CScope.of (defScope s_law_any).names (by decide +kernel)) (CNames.of N_law_any (by decide +kernel)) rfl (pi_list (cv 1)) (fun _ _ _ _ => (pg_name (i := 0) (show List.Nodup (["_law_tie"] : List Str) by decide +kernel) rfl (by walk_at "o"))) (fun _ _ _ _ => pts_nil) (fun _ _ _ _ => (pe_op o_xor (cv 0) pe_int))) pa_nil))) pe_int)))
theorem ok_law_any (T : Txt K mg a) : FnOk P w K mg base CX0 3 a.f_law_any a.d_law_any ["_law_book", "_law_some"] (sp_law_any K) := by
 refine T.fn_law_any.ok sc_law_any (fun vs H Q E h => ?_) (fun cdv A outer s H vs Q E hr h => ⟨_, tm_law_any T hr, ?_⟩)
 ·obtain ⟨bd, tp, m, t0, ts, ps, rfl, _⟩ := h; rfl
 ·obtain ⟨bd, tp, m, t0, ts, ps, rfl, hB, hT, hin, hz, hm, hz2, q⟩ := h
  show rd_law_any K _ [some (.ref bd), some (.ref tp)] H
  unfold rd_law_any
  have big : (1000 : Nat) ≤ sizeLine := by decide
  have hm0 : (0 : Int) ≤ m := by omega
  walk_at "gs"
  refine ⟨⟨_, hT⟩, compG_list tnV hT rfl (by rw [List.length_map, List.length_cons]; omega) ?_ ?_⟩
  ·intro x H' Q' hx _ q'
   obtain ⟨t, ht, rfl⟩ := List.mem_map.mp hx
   walk_at "gs"
   rw [xor_one (hin t ht).1]
   exact q'
  ·intro r H1 n1
   rw [tnV_map] at n1
   walk_at "gs"
   refine ⟨bd, r, m, MF.tn t0, ts.map MF.tn, ps, rfl, n1.same _ _ hB, n1.sq, fun t ht => ?_, hz, hm, by rw [List.length_map]; exact hz2, fun H2 u2 b2 => ?_⟩
   ·obtain ⟨y, hy, rfl⟩ := List.mem_map.mp (show t ∈ (t0 :: ts).map MF.tn from ht)
    exact (hin y hy).tn
   have st := MF.andR_st hm0 (ts.map MF.tn) (MF.tn t0) ps (hin t0 (List.mem_cons_self ..)).tn fun x hx => by
    obtain ⟨y, hy, rfl⟩ := List.mem_map.mp hx
    exact (hin y (List.mem_cons_of_mem _ hy)).tn
   walk_at "gs"
   rw [xor_one st.inn.1]
   exact q H2 ((un1_of n1.same).trans u2) b2
def words8 : List Str := ["and", "or", "either", "not", "choose", "most", "yes", "no"]
def Wd8 (w : Str) (ts : List Int) : Prop := WdOk w ts ∧ w ∈ words8
def sp_law_due (K : PySem.W.Frag) : Sp := fun vs H Q _ => ∃ (bd tp : Addr) (w : Str) (m : Nat) (ts : List Int) (ps : List MF.Pr), vs = [.ref bd, .str w, .ref tp] ∧ H bd = some (.dT (bkF m ps)) ∧ SqL K H tp (ts.map V.int) ∧ Wd8 w ts ∧ (∀ t ∈ ts, MF.InT m ps t) ∧ ps.length ≤ 3400 ∧ m ≤ 100 ∧
 ∀ H', Un1 bd H H' → H' bd = some (.dT (bkF m (gtR m w ts ps).2)) → Q (.int (gtR m w ts ps).1) H'
def rd_law_due (K : PySem.W.Frag) : TS := (tSeq (tIfS (tOr (cTst (tOp (cEq K) (cVar 1) (tC (.str "yes")))) (cTst (tOp (cEq K) (cVar 1) (tC (.str "no"))))) (tRet (tCB cInt (tCons (tOp (cEq K) (cVar 1) (tC (.str "yes"))) tNil))) tNext)
  (tSeq (tIfS (cTst (tOp (cEq K) (cVar 1) (tC (.str "not")))) (tRet (tOp (cI2 fun i j => .int (Builtin.bitXor i j)) (tOp (cIx K) (cVar 2) (tC (.int 0))) (tC (.int 1)))) tNext)
  (tSeq (tIfS (cTst (tOp (cEq K) (cVar 1) (tC (.str "and")))) (tRet (tCall (sp_law_all K) [] E0 (tCons (cVar 0) (tCons (cVar 2) tNil)))) tNext)
  (tSeq (tIfS (cTst (tOp (cEq K) (cVar 1) (tC (.str "or")))) (tRet (tCall (sp_law_any K) [] E0 (tCons (cVar 0) (tCons (cVar 2) tNil)))) tNext)
  (tSeq (tIfS (cTst (tOp (cEq K) (cVar 1) (tC (.str "either")))) (tSeq (tAsg (tOp (cIx K) (cVar 2) (tC (.int 0))) (gName 3))
  (tSeq (tFor (iList K (tSl (cSlU K) (cVar 2) (cPart (tC (.int 1))) tNoPart)) (gName 4) (tSeq (tAsg (tCall (sp_law_both K) [] E0 (tCons (cVar 0) (tCons (cVar 3) (tCons (tOp (cI2 fun i j => .int (Builtin.bitXor i j)) (cVar 4) (tC (.int 1))) tNil)))) (gName 5))
  (tAsg (tCall (sp_law_any K) [] E0 (tCons (cVar 0) (tCons (tLst (tCons (cVar 5) (tCons (tCall (sp_law_both K) [] E0 (tCons (cVar 0) (tCons (tOp (cI2 fun i j => .int (Builtin.bitXor i j)) (cVar 3) (tC (.int 1))) (tCons (cVar 4) tNil)))) tNil))) tNil))) (gName 3))))
  (tRet (cVar 3)))) tNext)
  (tSeq (tAsg (tCall (sp_law_both K) [] E0 (tCons (cVar 0) (tCons (tOp (cIx K) (cVar 2) (tC (.int 0))) (tCons (tOp (cIx K) (cVar 2) (tC (.int 1))) tNil)))) (gName 5))
  (tSeq (tIfS (cTst (tOp (cEq K) (cVar 1) (tC (.str "choose")))) (tRet (tCall (sp_law_any K) [] E0 (tCons (cVar 0) (tCons (tLst (tCons (cVar 5) (tCons (tCall (sp_law_both K) [] E0 (tCons (cVar 0) (tCons (tOp (cI2 fun i j => .int (Builtin.bitXor i j)) (tOp (cIx K) (cVar 2) (tC (.int 0))) (tC (.int 1))) (tCons (tOp (cIx K) (cVar 2) (tC (.int 2))) tNil)))) tNil))) tNil)))) tNext)
  (tSeq (tAsg (tCall (sp_law_both K) [] E0 (tCons (cVar 0) (tCons (tOp (cIx K) (cVar 2) (tC (.int 0))) (tCons (tOp (cIx K) (cVar 2) (tC (.int 2))) tNil)))) (gName 6))
  (tRet (tCall (sp_law_any K) [] E0 (tCons (cVar 0) (tCons (tLst (tCons (cVar 5) (tCons (cVar 6) (tCons (tCall (sp_law_both K) [] E0 (tCons (cVar 0) (tCons (tOp (cIx K) (cVar 2) (tC (.int 1))) (tCons (tOp (cIx K) (cVar 2) (tC (.int 2))) tNil)))) tNil)))) tNil))))))))))))
theorem tm_law_due (T : Txt K mg a) {cdv : Value} {A : Around} {outer : List Env} {s : Shared} {H : Hp} {E : XK} (hr : Room 3 (A.deeper (envOfC "_law_due" (defScope s_law_due) s.heap.objs.size a.f_law_due cdv))) :
  PSs (cxOf CX0 P w K mg base N_law_due "_law_due" (defScope s_law_due) a.f_law_due cdv A outer s H E).nox (defBody s_law_due) (rd_law_due K) :=
 (pss_cons (ps_if (PW.pt (pw_or (t_cmp (o_eq (hr8 hr)) (cv 1) pe_str (nomark _)) (pw_or1 (t_cmp (o_eq (hr8 hr)) (cv 1) pe_str (nomark _))))) (pss_one (ps_ret (pe_callTy c_int (by rfl) T.no_int PyProof.Rows.boot_int (pa_cons (pe_cmpR (o_eq (hr8 hr)) (cv 1) pe_str (nomark _)) pa_nil)))) pss_nil)
   (pss_cons (ps_if (t_cmp (o_eq (hr8 hr)) (cv 1) pe_str (nomark _)) (pss_one (ps_ret (pe_op o_xor (pe_ix i_seq (cv 2) pe_int (fun _ _ => rfl)) pe_int))) pss_nil)
   (pss_cons (ps_if (t_cmp (o_eq (hr8 hr)) (cv 1) pe_str (nomark _)) (pss_one (ps_ret (pe_call (ok_law_all T) (hr.mono (by decide)) rfl T.mg_law_all T.fn_law_all.kp T.bi_law_all .nil pass0 (pa_cons (cv 0) (pa_cons (cv 2) pa_nil))))) pss_nil)
   (pss_cons (ps_if (t_cmp (o_eq (hr8 hr)) (cv 1) pe_str (nomark _)) (pss_one (ps_ret (pe_call (ok_law_any T) (hr.mono (by decide)) rfl T.mg_law_any T.fn_law_any.kp T.bi_law_any .nil pass0 (pa_cons (cv 0) (pa_cons (cv 2) pa_nil))))) pss_nil)
   (pss_cons (ps_if (t_cmp (o_eq (hr8 hr)) (cv 1) pe_str (nomark _)) (pss_cons (ps_set (i := 3) sc_law_due.nd rfl (by walk_at "o") (pe_ix i_seq (cv 2) pe_int (fun _ _ => rfl)))
   (pss_cons (ps_for PassesOwn.never rfl (pi_list (pe_slice s_u (cv 2) (e_part pe_int) po_none)) (pg_name (i := 4) sc_law_due.nd rfl (by walk_at "o")) (pss_cons (ps_set (i := 5) sc_law_due.nd rfl (by walk_at "o") (pe_call (ok_law_both T) (hr.mono (by decide)) rfl T.mg_law_both T.fn_law_both.kp T.bi_law_both .nil pass0 (pa_cons (cv 0) (pa_cons (cv 3) (pa_cons (pe_op o_xor (cv 4) pe_int) pa_nil)))))
   (pss_one (ps_set (i := 3) sc_law_due.nd rfl (by walk_at "o") (pe_call (ok_law_any T) (hr.mono (by decide)) rfl T.mg_law_any T.fn_law_any.kp T.bi_law_any .nil pass0 (pa_cons (cv 0) (pa_cons (pe_lst (pa_cons (cv 5) (pa_cons (pe_call (ok_law_both T) (hr.mono (by decide)) rfl T.mg_law_both T.fn_law_both.kp T.bi_law_both .nil pass0 (pa_cons (cv 0) (pa_cons (pe_op o_xor (cv 3) pe_int) (pa_cons (cv 4) pa_nil)))) pa_nil))) pa_nil)))))))
   (pss_one (ps_ret (cv 3))))) pss_nil)
   (pss_cons (ps_set (i := 5) sc_law_due.nd rfl (by walk_at "o") (pe_call (ok_law_both T) (hr.mono (by decide)) rfl T.mg_law_both T.fn_law_both.kp T.bi_law_both .nil pass0 (pa_cons (cv 0) (pa_cons (pe_ix i_seq (cv 2) pe_int (fun _ _ => rfl)) (pa_cons (pe_ix i_seq (cv 2) pe_int (fun _ _ => rfl)) pa_nil)))))
   (pss_cons (ps_if (t_cmp (o_eq (hr8 hr)) (cv 1) pe_str (nomark _)) (pss_one (ps_ret (pe_call (ok_law_any T) (hr.mono (by decide)) rfl T.mg_law_any T.fn_law_any.kp T.bi_law_any .nil pass0 (pa_cons (cv 0) (pa_cons (pe_lst (pa_cons (cv 5) (pa_cons (pe_call (ok_law_both T) (hr.mono (by decide)) rfl T.mg_law_both T.fn_law_both.kp T.bi_law_both .nil pass0 (pa_cons (cv 0) (pa_cons (pe_op o_xor (pe_ix i_seq (cv 2) pe_int (fun _ _ => rfl)) pe_int) (pa_cons (pe_ix i_seq (cv 2) pe_int (fun _ _ => rfl)) pa_nil)))) pa_nil))) pa_nil))))) pss_nil)
   (pss_cons (ps_set (i := 6) sc_law_due.nd rfl (by walk_at "o") (pe_call (ok_law_both T) (hr.mono (by decide)) rfl T.mg_law_both T.fn_law_both.kp T.bi_law_both .nil pass0 (pa_cons (cv 0) (pa_cons (pe_ix i_seq (cv 2) pe_int (fun _ _ => rfl)) (pa_cons (pe_ix i_seq (cv 2) pe_int (fun _ _ => rfl)) pa_nil)))))
   (pss_one (ps_ret (pe_call (ok_law_any T) (hr.mono (by decide)) rfl T.mg_law_any T.fn_law_any.kp T.bi_law_any .nil pass0 (pa_cons (cv 0) (pa_cons (pe_lst (pa_cons (cv 5) (pa_cons (cv 6) (pa_cons (pe_call (ok_law_both T) (hr.mono (by decide)) rfl T.mg_law_both T.fn_law_both.kp T.bi_law_both .nil pass0 (pa_cons (cv 0) (pa_cons (pe_ix i_seq (cv 2) pe_int (fun _ _ => rfl)) (pa_cons (pe_ix i_seq (cv 2) pe_int (fun _ _ => rfl)) pa_nil)))) pa_nil)))) pa_nil)))))))))))))
theorem ok_law_due (T : Txt K mg a) : FnOk P w K mg base CX0 4 a.f_law_due a.d_law_due ["_law_book", "_law_word", "_law_some"] (sp_law_due K) := by
 refine T.fn_law_due.ok sc_law_due (fun vs H Q E h => ?_) (fun cdv A outer s H vs Q E hr h => ⟨_, tm_law_due T hr, ?_⟩)
 ·obtain ⟨bd, tp, w, m, ts, ps, rfl, _⟩ := h; rfl
 ·obtain ⟨bd, tp, w, m, ts, ps, rfl, hB, hT, hw8, hin, hz, hm, q⟩ := h
  show rd_law_due K _ [some (.ref bd), some (.str w), some (.ref tp), none, none, none, none] H
  unfold rd_law_due
  have hm0 : (0 : Int) ≤ m := by omega
  obtain ⟨hw, h8⟩ := hw8
  have hl := hw.2.2
  unfold words8 at h8
  simp only [List.mem_cons, List.not_mem_nil, or_false] at h8
  unfold gtR at q
  walk_at "gs"
  rcases h8 with rfl | rfl | rfl | rfl | rfl | rfl | rfl | rfl
  ·rw [if_neg (by decide +kernel), if_neg (by decide +kernel), if_neg (by decide +kernel), if_pos rfl]
   rw [if_pos rfl] at q
   obtain ⟨t0, tr, rfl⟩ := List.exists_cons_of_ne_nil (hw.1 (.inl rfl))
   rw [List.length_cons] at hl
   walk_at "gs"
   exact ⟨bd, tp, m, t0, tr, ps, rfl, hB, hT, hin, by omega, hm, by omega, q⟩
  ·rw [if_neg (by decide +kernel), if_neg (by decide +kernel), if_neg (by decide +kernel), if_neg (by decide +kernel), if_pos rfl]
   rw [if_neg (by decide +kernel), if_pos rfl] at q
   obtain ⟨t0, tr, rfl⟩ := List.exists_cons_of_ne_nil (hw.1 (.inr (.inl rfl)))
   rw [List.length_cons] at hl
   walk_at "gs"
   exact ⟨bd, tp, m, t0, tr, ps, rfl, hB, hT, hin, by omega, hm, by omega, q⟩
  ·rw [if_neg (by decide +kernel), if_neg (by decide +kernel), if_neg (by decide +kernel), if_neg (by decide +kernel), if_neg (by decide +kernel), if_pos rfl]
   rw [if_neg (by decide +kernel), if_neg (by decide +kernel), if_pos rfl] at q
   obtain ⟨t0, tr, rfl⟩ := List.exists_cons_of_ne_nil (hw.1 (.inr (.inr (.inl rfl))))
   rw [List.length_cons] at hl
   walk_at "gs"
   refine ⟨_, V.int t0, .inl hT, at0 t0 _, ?_⟩
   walk_at "gs"
   refine ⟨_, hT, fun r H1 n1 => ?_⟩
   rw [cut_1] at n1
   have n1' : New H r (.lst (tr.map V.int)) H1 := n1
   have nrb : r ≠ bd := (ne_of_none hB n1.was).symm
   refine ⟨⟨_, n1'.sq⟩, for_listG (xs := tr.map V.int) (fun i σ H2 => ∃ v v', Un1 bd H1 H2 ∧ H2 bd = some (.dT (bkF m (MF.eiR m t0 (tr.take i) ps).2)) ∧ σ = [some (.ref bd), some (.str "either"), some (.ref tp), some (.int (MF.eiR m t0 (tr.take i) ps).1), v, v', none]) ⟨_, _, un1_of (Same.refl _), n1.same _ _ hB, rfl⟩ ?_ ?_ ?_⟩
   ·rintro i σ H2 _ ⟨v, v', u2, _⟩
    exact .of (u2 _ _ nrb n1'.at_)
   ·rintro i x σ H2 hx ⟨v, v', u2, b2, rfl⟩
    obtain ⟨t, ht, rfl⟩ := get_map_of hx
    have hi : i < tr.length := (List.getElem?_eq_some_iff.mp ht).1
    have st := MF.eiR_st hm0 (tr.take i) t0 ps (hin t0 (List.mem_cons_self ..)) fun x hx => hin x (List.mem_cons_of_mem _ (List.mem_of_mem_take hx))
    have l2 := st.hi
    rw [List.length_take] at l2
    have e : MF.eiR m t0 (tr.take (i + 1)) ps = MF.eoR m (MF.eiR m t0 (tr.take i) ps).1 t (MF.eiR m t0 (tr.take i) ps).2 := by
     rw [List.take_add_one, ht]
     exact MF.eiR_snoc m (tr.take i) t0 t ps
    have ii := st.inn
    have it := (hin t (List.mem_cons_of_mem _ (List.mem_of_getElem? ht))).mono st.lo
    rw [e]
    generalize (MF.eiR m t0 (tr.take i) ps).2 = qs at b2 ii it l2 ⊢
    generalize (MF.eiR m t0 (tr.take i) ps).1 = f at ii ⊢
    have s1 := MF.bo_st hm0 ii it.tn
    have l1 := s1.hi
    have s2 := MF.bo_st hm0 (ii.tn.mono s1.lo) (it.mono s1.lo)
    have l3 := s2.hi
    simp only [MF.bo] at l1 l3
    walk_at "gs"
    rw [xor_one it.1]
    refine ⟨bd, m, f, MF.tn t, qs, rfl, b2, ii.1, it.tn.1, by omega, hm, fun H3 u3 b3 => ?_⟩
    walk_at "gs"
    rw [xor_one ii.1]
    refine ⟨bd, m, MF.tn f, t, _, rfl, b3, ii.tn.1, it.1, by omega, hm, fun H4 u4 b4 => ?_⟩
    walk_at "gs"
    refine ⟨by show 2 ≤ sizeLine; decide, fun r5 H5 n5 => ?_⟩
    refine ⟨bd, r5, m, _, [_], _, rfl, n5.same _ _ b4, n5.sq, fun z hz' => ?_, by omega, hm, by show 1 ≤ 100; decide, fun H6 u6 b6 => ?_⟩
    ·rcases List.mem_cons.mp hz' with rfl | hz'
     ·exact s1.inn.mono s2.lo
     ·rw [List.mem_singleton] at hz'
      subst hz'
      exact s2.inn
    walk_at "gs"
    exact ⟨_, _, (((u2.trans u3).trans u4).trans (un1_of n5.same)).trans u6, b6, rfl⟩
   ·rintro σ H2 ⟨v, v', u2, b2, rfl⟩
    rw [List.length_map, List.take_length] at b2 ⊢
    walk_at "gs"
    exact q H2 ((un1_of n1.same).trans u2) b2
  ·rw [if_neg (by decide +kernel), if_neg (by decide +kernel), if_pos rfl]
   rw [if_neg (by decide +kernel), if_neg (by decide +kernel), if_neg (by decide +kernel), if_pos rfl] at q
   obtain ⟨t0, tr, rfl⟩ := List.exists_cons_of_ne_nil (hw.1 (.inr (.inr (.inr rfl))))
   walk_at "gs"
   refine ⟨_, V.int t0, .inl hT, at0 t0 _, ?_⟩
   walk_at "gs"
   rw [xor_one (hin t0 (List.mem_cons_self ..)).1]
   exact q H (un1_of (Same.refl _)) hB
  ·rw [if_neg (by decide +kernel), if_neg (by decide +kernel), if_neg (by decide +kernel), if_neg (by decide +kernel), if_neg (by decide +kernel), if_neg (by decide +kernel)]
   rw [if_neg (by decide +kernel), if_neg (by decide +kernel), if_neg (by decide +kernel), if_neg (by decide +kernel), if_pos rfl] at q
   match ts, hw.2.1 (.inl rfl), hT, hin, q with
   | [x, y, z], _, hT, hin, q =>
    have hx := hin x (by simp)
    have hy := hin y (by simp)
    have hv := hin z (by simp)
    have s1 := MF.bo_st hm0 hx hy
    have s2 := MF.bo_st hm0 (hx.tn.mono s1.lo) (hv.mono s1.lo)
    have l1 := s1.hi
    have l2 := s2.hi
    simp only [MF.bo] at l1 l2
    walk_at "gs"
    refine ⟨_, _, .inl hT, rfl, _, _, .inl hT, rfl, bd, m, x, y, ps, rfl, hB, hx.1, hy.1, by omega, hm, fun H1 u1 b1 => ?_⟩
    have hT1 := u1.seq hB hT
    walk_at "gs"
    try rw [if_pos rfl]
    walk_at "gs"
    refine ⟨_, _, .inl hT1, rfl, ?_⟩
    walk_at "gs"
    rw [xor_one hx.1]
    refine ⟨_, _, .inl hT1, rfl, bd, m, MF.tn x, z, _, rfl, b1, hx.tn.1, hv.1, by omega, hm, fun H2 u2 b2 => ?_⟩
    walk_at "gs"
    refine ⟨by show 2 ≤ sizeLine; decide, fun r5 H5 n5 => ?_⟩
    refine ⟨bd, r5, m, _, [_], _, rfl, n5.same _ _ b2, n5.sq, fun v hv' => ?_, by omega, hm, by show 1 ≤ 100; decide, fun H6 u6 b6 => ?_⟩
    ·rcases List.mem_cons.mp hv' with rfl | hv'
     ·exact s1.inn.mono s2.lo
     ·rw [List.mem_singleton] at hv'
      subst hv'
      exact s2.inn
    walk_at "gs"
    exact q H6 (((u1.trans u2).trans (un1_of n5.same)).trans u6) b6
  ·rw [if_neg (by decide +kernel), if_neg (by decide +kernel), if_neg (by decide +kernel), if_neg (by decide +kernel), if_neg (by decide +kernel), if_neg (by decide +kernel)]
   rw [if_neg (by decide +kernel), if_neg (by decide +kernel), if_neg (by decide +kernel), if_neg (by decide +kernel), if_neg (by decide +kernel), if_pos rfl] at q
   match ts, hw.2.1 (.inr rfl), hT, hin, q with
   | [x, y, z], _, hT, hin, q =>
    have hx := hin x (by simp)
    have hy := hin y (by simp)
    have hv := hin z (by simp)
    have s1 := MF.bo_st hm0 hx hy
    have s2 := MF.bo_st hm0 (hx.mono s1.lo) (hv.mono s1.lo)
    have s12 := s1.trans s2
    have s3 := MF.bo_st hm0 (hy.mono s12.lo) (hv.mono s12.lo)
    have l1 := s1.hi
    have l2 := s2.hi
    have l3 := s3.hi
    simp only [MF.bo] at l1 l2 l3
    walk_at "gs"
    refine ⟨_, _, .inl hT, rfl, _, _, .inl hT, rfl, bd, m, x, y, ps, rfl, hB, hx.1, hy.1, by omega, hm, fun H1 u1 b1 => ?_⟩
    have hT1 := u1.seq hB hT
    walk_at "gs"
    rw [if_neg (by decide +kernel)]
    walk_at "gs"
    refine ⟨_, _, .inl hT1, rfl, _, _, .inl hT1, rfl, bd, m, x, z, _, rfl, b1, hx.1, hv.1, by omega, hm, fun H2 u2 b2 => ?_⟩
    have hT2 := u2.seq b1 hT1
    walk_at "gs"
    refine ⟨_, _, .inl hT2, rfl, _, _, .inl hT2, rfl, bd, m, y, z, _, rfl, b2, hy.1, hv.1, by omega, hm, fun H3 u3 b3 => ?_⟩
    walk_at "gs"
    refine ⟨by show 3 ≤ sizeLine; decide, fun r5 H5 n5 => ?_⟩
    refine ⟨bd, r5, m, _, [_, _], _, rfl, n5.same _ _ b3, n5.sq, fun v hv' => ?_, by omega, hm, by show 2 ≤ 100; decide, fun H6 u6 b6 => ?_⟩
    ·rcases List.mem_cons.mp hv' with rfl | hv'
     ·exact (s1.inn.mono s2.lo).mono s3.lo
     rcases List.mem_cons.mp hv' with rfl | hv'
     ·exact s2.inn.mono s3.lo
     ·rw [List.mem_singleton] at hv'
      subst hv'
      exact s3.inn
    walk_at "gs"
    exact q H6 ((((u1.trans u2).trans u3).trans (un1_of n5.same)).trans u6) b6
  ·rw [if_pos rfl]
   rw [if_neg (by decide +kernel), if_neg (by decide +kernel), if_neg (by decide +kernel), if_neg (by decide +kernel), if_neg (by decide +kernel), if_neg (by decide +kernel), if_pos rfl] at q
   walk_at "gs"
   exact q H (un1_of (Same.refl _)) hB
  ·rw [if_neg (by decide +kernel), if_pos rfl]
   rw [if_neg (by decide +kernel), if_neg (by decide +kernel), if_neg (by decide +kernel), if_neg (by decide +kernel), if_neg (by decide +kernel), if_neg (by decide +kernel), if_neg (by decide +kernel)] at q
   walk_at "gs"
   rw [if_neg (by decide +kernel)]
   exact q H (un1_of (Same.refl _)) hB
theorem at_bec (f : Nat → Nat) {n : Nat} {i : Int} (h0 : 0 ≤ i) (h1 : i < n) : atI ((List.range n).map fun k => V.int (f k : Nat)) i = some (.int (f i.toNat : Nat)) := by
 rw [atI_ok .non h0 (by rw [List.length_map, List.length_range]; exact h1)]
 have : i.toNat < n := by omega
 simp [List.getD, this]
theorem put_in (k : Nat) : putK (inK k) (knK ((k : Int), -1)) (.int (2 * (k : Int) + 2)) = inK (k + 1) := by
 unfold putK
 have : valV (inK k) (knK ((k : Int), -1)) = none := by
  have := val_app (knK ((k : Int), -1)) (inK k) [] fun x hx e => by
   obtain ⟨j, hj, rfl⟩ := List.mem_map.mp hx
   have h1 := congrArg (·.1) (knK_inj e)
   simp only at h1
   have := List.mem_range.mp hj
   omega
  rw [List.append_nil] at this
  rw [this]; rfl
 rw [valV_any, this, inK_succ]
 rfl
def inP (m : Nat) : List MF.Pr := (List.range m).map fun (j : Nat) => ((j : Int), -1)
theorem bk_at {m : Nat} {ps : List MF.Pr} {i : Nat} {x : List Key × V} (h : (bkF m ps)[i]? = some x) : ∃ q, (inP m ++ ps)[i]? = some q ∧ x.1 = knK q := by
 have li : (inK m).length = m := by unfold inK; rw [List.length_map, List.length_range]
 have lp : (inP m).length = m := by unfold inP; rw [List.length_map, List.length_range]
 unfold bkF at h
 rcases Nat.lt_or_ge i m with hi | hi
 ·rw [List.getElem?_append_left (by rw [li]; exact hi)] at h
  unfold inK at h
  rw [List.getElem?_map, List.getElem?_range hi] at h
  refine ⟨((i : Int), -1), ?_, by rw [← Option.some.inj h]⟩
  rw [List.getElem?_append_left (by rw [lp]; exact hi)]
  unfold inP
  rw [List.getElem?_map, List.getElem?_range hi]
  rfl
 ·rw [List.getElem?_append_right (by rw [li]; exact hi), li] at h
  obtain ⟨p, h1, h2⟩ := kv2_at _ _ _ _ h
  exact ⟨p, by rw [List.getElem?_append_right (by rw [lp]; exact hi), lp]; exact h1, by rw [h2]⟩
theorem inP_at {m : Nat} {ps : List MF.Pr} {j : Nat} : (inP m ++ ps)[m + j]? = ps[j]? := by
 have lp : (inP m).length = m := by unfold inP; rw [List.length_map, List.length_range]
 rw [List.getElem?_append_right (by rw [lp]; omega), lp, show m + j - m = j by omega]
def sp_law_folded (K : PySem.W.Frag) : Sp := fun vs H Q _ => ∃ (m : Nat) (gp np op : Addr) (ins more : List Str) (gs : List Gt) (gv : List V) (outs : List Str), vs = [.int m, .ref gp, .ref np, .ref op] ∧ H gp = some (.lst gv) ∧ GtsAt (fun _ => True) K H gv gs ∧ H np = some (.lst ((ins ++ more).map V.str)) ∧ ins.length = m ∧ H op = some (.lst (outs.map V.str)) ∧
 ME.WG WdA ins gs ∧ (∀ g ∈ gs, g.2.1 ∈ words8) ∧ (∀ o ∈ outs, o ∈ ins ++ gs.map (·.1)) ∧ m ≤ 10 ∧ gs.length ≤ 100 ∧ outs.length ≤ 100 ∧ more.length ≤ 1000 ∧
 ∀ H' r kp dp ks, Same H H' → H kp = none → H dp = none → PL H' kp ks → psOf ks = MF.swP m (fdC m ins gs).2 (ME.outsOf 0 (fdC m ins gs).1 outs) → H' dp = some (.lst ((MF.swT m (fdC m ins gs).2 (ME.outsOf 0 (fdC m ins gs).1 outs)).map V.int)) → H' r = some (.tup [.ref kp, .ref dp]) → Q (.ref r) H'
def rd_law_folded (K : PySem.W.Frag) : TS := (tSeq (tAsg tDNewT (gName 4))
  (tSeq (tAsg tDNewK (gName 5))
  (tMid (tFor (iRng1 (tCons (cVar 0) tNil)) (gName 6) (tSeq (sDPut (cVar 4) (tTup (tCons (cVar 6) (tCons (tUn cNeg (tC (.int 1))) tNil))) (tOp cAdd (tOp cMul (tC (.int 2)) (cVar 6)) (tC (.int 2))))
  (sDPut (cVar 5) (tOp (cIx K) (cVar 2) (cVar 6)) (tOp cAdd (tOp cMul (tC (.int 2)) (cVar 6)) (tC (.int 2))))))
  (tMid (tFor (iList K (cVar 1)) (gTup K 3 (gCons (gName 7) (gCons (gName 8) (gCons (gName 9) gNil)))) (sDPut (cVar 5) (cVar 7) (tCall (sp_law_due K) [] E0 (tCons (cVar 4) (tCons (cVar 8) (tCons (tComp (iList K (cVar 9)) 1 [5] (gName 0) tTrue (tDGet (cVar 1) (cVar 0))) tNil))))))
  (tMid (tUnf (tAsg (tComp (iDT (cVar 4)) 1 [] (gName 0) tTrue (cVar 0)) (gName 10)))
  (tSeq (tAsg (tComp (iRng1 (tCons (tOp cAdd (tCB (cLen K) (tCons (cVar 10) tNil)) (tC (.int 1))) tNil)) 1 [] (gName 0) tTrue (tC (.bl false))) (gName 11))
  (tMid (tFor (iList K (cVar 3)) (gName 7) (tAsg (tC (.bl true)) (gSub (cVar 11) (tOp (cI2c CDiv fun i j => .int (i / j)) (tDGet (cVar 5) (cVar 7)) (tC (.int 2))) rSetL)))
  (tMid (tFor (iRevR (tCons (tOp cAdd (cVar 0) (tC (.int 1))) (tCons (tCB (cLen K) (tCons (cVar 11) tNil)) tNil))) (gName 6) (tIfS (cTru K (tOp (cIx K) (cVar 11) (cVar 6))) (tSeq (tAsg (tC (.bl true)) (gSub (cVar 11) (tOp (cI2c CDiv fun i j => .int (i / j)) (tOp (cIx K) (tOp (cIx K) (cVar 10) (tOp (cI2 fun i j => .int (i - j)) (cVar 6) (tC (.int 1)))) (tC (.int 0))) (tC (.int 2))) rSetL))
  (tAsg (tC (.bl true)) (gSub (cVar 11) (tOp (cI2c CDiv fun i j => .int (i / j)) (tOp (cIx K) (tOp (cIx K) (cVar 10) (tOp (cI2 fun i j => .int (i - j)) (cVar 6) (tC (.int 1)))) (tC (.int 1))) (tC (.int 2))) rSetL))) tNext))
  (tSeq (tAsg (cListRange (tCons (tOp cAdd (cVar 0) (tC (.int 1))) tNil)) (gName 12))
  (tSeq (tAsg (tLst tNil) (gName 13))
  (tMid (tFor (iRng2 (tCons (tOp cAdd (cVar 0) (tC (.int 1))) (tCons (tCB (cLen K) (tCons (cVar 11) tNil)) tNil))) (gName 6) (tSeq (tDrop (tBM K "list" rAppend (cVar 12) (tCons (tOp cAdd (tOp cAdd (tC (.int 1)) (cVar 0)) (tCB (cLen K) (tCons (cVar 13) tNil))) tNil)))
  (tIfS (cTru K (tOp (cIx K) (cVar 11) (cVar 6))) (tSeq (tAsg (tOp (cIx K) (cVar 10) (tOp (cI2 fun i j => .int (i - j)) (cVar 6) (tC (.int 1)))) (gTup K 2 (gCons (gName 14) (gCons (gName 15) gNil))))
  (tDrop (tBM K "list" rAppend (cVar 13) (tCons (tTup (tCons (tOp cAdd (tOp cMul (tC (.int 2)) (tOp (cIx K) (cVar 12) (tOp (cI2c CDiv fun i j => .int (i / j)) (cVar 14) (tC (.int 2))))) (tOp (cI2c (fun _ j => 0 < j) fun i j => .int (i % j)) (cVar 14) (tC (.int 2)))) (tCons (tOp cAdd (tOp cMul (tC (.int 2)) (tOp (cIx K) (cVar 12) (tOp (cI2c CDiv fun i j => .int (i / j)) (cVar 15) (tC (.int 2))))) (tOp (cI2c (fun _ j => 0 < j) fun i j => .int (i % j)) (cVar 15) (tC (.int 2)))) tNil))) tNil)))) tNext)))
  (tRet (tTup (tCons (cVar 13) (tCons (tComp (iList K (cVar 3)) 1 [12, 5] (gName 0) tTrue (tOp cAdd (tOp cMul (tC (.int 2)) (tOp (cIx K) (cVar 1) (tOp (cI2c CDiv fun i j => .int (i / j)) (tDGet (cVar 2) (cVar 0)) (tC (.int 2))))) (tOp (cI2c (fun _ j => 0 < j) fun i j => .int (i % j)) (tDGet (cVar 2) (cVar 0)) (tC (.int 2))))) tNil)))))))))))))))
theorem tm_law_folded (T : Txt K mg a) {cdv : Value} {A : Around} {outer : List Env} {s : Shared} {H : Hp} {E : XK} (hr : Room 4 (A.deeper (envOfC "_law_folded" (defScope s_law_folded) s.heap.objs.size a.f_law_folded cdv))) :
  PSs (cxOf CX0 P w K mg base N_law_folded "_law_folded" (defScope s_law_folded) a.f_law_folded cdv A outer s H E).nox (defBody s_law_folded) (rd_law_folded K) :=
 (pss_cons (ps_set (i := 4) sc_law_folded.nd rfl (by walk_at "o") pe_dnewT)
   (pss_cons (ps_set (i := 5) sc_law_folded.nd rfl (by walk_at "o") pe_dnewK)
   (pss_mid (ps_for PassesOwn.never rfl (pi_range1 rfl T.no_range (pa_cons (cv 0) pa_nil)) (pg_name (i := 6) sc_law_folded.nd rfl (by walk_at "o")) (pss_cons (ps_dput (hu_of hr) (cv 4) (pe_tup (pa_cons (cv 6) (pa_cons (pe_un u_neg pe_int) pa_nil))) (pe_op o_add (pe_op o_mul pe_int (cv 6)) pe_int) rfl)
   (pss_one (ps_dput (hu_of hr) (cv 5) (pe_ix i_seq (cv 2) (cv 6) (fun _ _ => rfl)) (pe_op o_add (pe_op o_mul pe_int (cv 6)) pe_int) rfl))))
   (pss_mid (ps_for PassesOwn.never rfl (pi_list (cv 1)) (pg_tup rfl (pgs_cons (pg_name (i := 7) sc_law_folded.nd rfl (by walk_at "o")) (pgs_cons (pg_name (i := 8) sc_law_folded.nd rfl (by walk_at "o")) (pgs_cons (pg_name (i := 9) sc_law_folded.nd rfl (by walk_at "o")) pgs_nil)))) (pss_one (ps_dput (hu_of hr) (cv 5) (cv 7) (pe_call (ok_law_due T) (hr.mono (by decide)) rfl T.mg_law_due T.fn_law_due.kp T.bi_law_due .nil pass0 (pa_cons (cv 4) (pa_cons (cv 8) (pa_cons (pe_comp (N := ["_law_part", "_law_known"]) (k := 1) (sel := [5]) (CScope.of (defScope s_law_folded).names (by decide +kernel)) (CNames.of N_law_folded (by decide +kernel)) rfl (pi_list (cv 9)) (fun _ _ _ _ => (pg_name (i := 0) (show List.Nodup (["_law_part", "_law_known"] : List Str) by decide +kernel) rfl (by walk_at "o"))) (fun _ _ _ _ => pts_nil) (fun _ _ _ _ => (pe_dget (hu_of hr) (cv 1) (cv 0) (fun _ _ => rfl)))) pa_nil)))) rfl)))
   (pss_mid (ps_unf (ps_setC (i := 10) (N := ["_law_pair"]) (k := 1) (sel := []) (CScope.of (defScope s_law_folded).names (by decide +kernel)) (CNames.of N_law_folded (by decide +kernel)) rfl (pi_dT (cv 4)) (fun _ _ _ _ => (pg_name (i := 0) (show List.Nodup (["_law_pair"] : List Str) by decide +kernel) rfl (by walk_at "o"))) (fun _ _ _ _ => pts_nil) (fun _ _ _ _ => (cv 0)) sc_law_folded.nd rfl (by walk_at "o") rfl))
   (pss_cons (ps_setC (i := 11) (N := ["_law_k"]) (k := 1) (sel := []) (CScope.of (defScope s_law_folded).names (by decide +kernel)) (CNames.of N_law_folded (by decide +kernel)) rfl (pi_range1 rfl T.no_range (pa_cons (pe_op o_add (pe_callB c_len (by rfl) T.no_len PySem.boot_len (pa_cons (cv 10) pa_nil)) pe_int) pa_nil)) (fun _ _ _ _ => (pg_name (i := 0) (show List.Nodup (["_law_k"] : List Str) by decide +kernel) rfl (by walk_at "o"))) (fun _ _ _ _ => pts_nil) (fun _ _ _ _ => pe_bl) sc_law_folded.nd rfl (by walk_at "o") rfl)
   (pss_mid (ps_for PassesOwn.never rfl (pi_list (cv 3)) (pg_name (i := 7) sc_law_folded.nd rfl (by walk_at "o")) (pss_one (ps_asg pe_bl (pg_sub (cv 11) (pe_op o_fdiv (pe_dget (hu_of hr) (cv 5) (cv 7) (fun _ _ => rfl)) pe_int) set_list))))
   (pss_mid (ps_for PassesOwn.never rfl (pi_revR rfl T.no_reversed rfl T.no_range (pa_cons (pe_op o_add (cv 0) pe_int) (pa_cons (pe_callB c_len (by rfl) T.no_len PySem.boot_len (pa_cons (cv 11) pa_nil)) pa_nil))) (pg_name (i := 6) sc_law_folded.nd rfl (by walk_at "o")) (pss_one (ps_if (pt_tru (pe_ix i_seq (cv 11) (cv 6) (fun _ _ => rfl))) (pss_cons (ps_asg pe_bl (pg_sub (cv 11) (pe_op o_fdiv (pe_ix i_seq (pe_ix i_seq (cv 10) (pe_op o_sub (cv 6) pe_int) (fun _ _ => rfl)) pe_int (fun _ _ => rfl)) pe_int) set_list))
   (pss_one (ps_asg pe_bl (pg_sub (cv 11) (pe_op o_fdiv (pe_ix i_seq (pe_ix i_seq (cv 10) (pe_op o_sub (cv 6) pe_int) (fun _ _ => rfl)) pe_int (fun _ _ => rfl)) pe_int) set_list)))) pss_nil)))
   (pss_cons (ps_set (i := 12) sc_law_folded.nd rfl (by walk_at "o") (e_listrange rfl rfl rfl T.no_list T.no_range (pa_cons (pe_op o_add (cv 0) pe_int) pa_nil)))
   (pss_cons (ps_set (i := 13) sc_law_folded.nd rfl (by walk_at "o") (pe_lst pa_nil))
   (pss_mid (ps_for PassesOwn.never rfl (pi_range2 rfl T.no_range (pa_cons (pe_op o_add (cv 0) pe_int) (pa_cons (pe_callB c_len (by rfl) T.no_len PySem.boot_len (pa_cons (cv 11) pa_nil)) pa_nil))) (pg_name (i := 6) sc_law_folded.nd rfl (by walk_at "o")) (pss_cons (ps_expr (pe_bm PySem.F.plainAttrs_list PySem.F.slot_list_append PySem.F.type_list_append (mtr mt_append) (cv 12) (pa_cons (pe_op o_add (pe_op o_add pe_int (cv 0)) (pe_callB c_len (by rfl) T.no_len PySem.boot_len (pa_cons (cv 13) pa_nil))) pa_nil)))
   (pss_one (ps_if (pt_tru (pe_ix i_seq (cv 11) (cv 6) (fun _ _ => rfl))) (pss_cons (ps_asg (pe_ix i_seq (cv 10) (pe_op o_sub (cv 6) pe_int) (fun _ _ => rfl)) (pg_tup rfl (pgs_cons (pg_name (i := 14) sc_law_folded.nd rfl (by walk_at "o")) (pgs_cons (pg_name (i := 15) sc_law_folded.nd rfl (by walk_at "o")) pgs_nil))))
   (pss_one (ps_expr (pe_bm PySem.F.plainAttrs_list PySem.F.slot_list_append PySem.F.type_list_append (mtr mt_append) (cv 13) (pa_cons (pe_tup (pa_cons (pe_op o_add (pe_op o_mul pe_int (pe_ix i_seq (cv 12) (pe_op o_fdiv (cv 14) pe_int) (fun _ _ => rfl))) (pe_op o_mod (cv 14) pe_int)) (pa_cons (pe_op o_add (pe_op o_mul pe_int (pe_ix i_seq (cv 12) (pe_op o_fdiv (cv 15) pe_int) (fun _ _ => rfl))) (pe_op o_mod (cv 15) pe_int)) pa_nil))) pa_nil))))) pss_nil))))
   (pss_one (ps_ret (pe_tup (pa_cons (cv 13) (pa_cons (pe_comp (N := ["_law_name", "_law_became", "_law_known"]) (k := 1) (sel := [12, 5]) (CScope.of (defScope s_law_folded).names (by decide +kernel)) (CNames.of N_law_folded (by decide +kernel)) rfl (pi_list (cv 3)) (fun _ _ _ _ => (pg_name (i := 0) (show List.Nodup (["_law_name", "_law_became", "_law_known"] : List Str) by decide +kernel) rfl (by walk_at "o"))) (fun _ _ _ _ => pts_nil) (fun _ _ _ _ => (pe_op o_add (pe_op o_mul pe_int (pe_ix i_seq (cv 1) (pe_op o_fdiv (pe_dget (hu_of hr) (cv 2) (cv 0) (fun _ _ => rfl)) pe_int) (fun _ _ => rfl))) (pe_op o_mod (pe_dget (hu_of hr) (cv 2) (cv 0) (fun _ _ => rfl)) pe_int)))) pa_nil))))))))))))))))
theorem ok_law_folded (T : Txt K mg a) : FnOk P w K mg base CX0 5 a.f_law_folded a.d_law_folded ["_law_many", "_law_gates", "_law_names", "_law_outputs_here"] (sp_law_folded K) := by
 refine T.fn_law_folded.ok sc_law_folded (fun vs H Q E h => ?_) (fun cdv A outer s H vs Q E hr h => ⟨_, tm_law_folded T hr, ?_⟩)
 ·obtain ⟨m, gp, np, op, ins, more, gs, gv, outs, rfl, _⟩ := h; rfl
 ·obtain ⟨m, gp, np, op, ins, more, gs, gv, outs, rfl, hG, hGs, hNn, hm, hO, hW, hw8, hwo, m10, lg, lo', lm, q⟩ := h
  show rd_law_folded K _ [some (.int m), some (.ref gp), some (.ref np), some (.ref op), none, none, none, none, none, none, none, none, none, none, none, none] H
  unfold rd_law_folded
  have big : (20000 : Nat) ≤ sizeLine := by decide
  have lz : (ins.zip (tiesI ins.length)).length = ins.length := by rw [List.length_zip]; unfold tiesI; rw [List.length_map, List.length_range, Nat.min_self]
  have hst0 := fd0_ok ins
  rw [hm] at hst0
  walk_at "gs"
  intro bd H1 n1
  walk_at "gs"
  intro kd H2 n2
  have s2 : Same H H2 := n1.same.trans n2.same
  have hb0 : H bd = none := n1.was
  have hk0 : H kd = none := n1.same.nil n2.was
  have nbk : bd ≠ kd := ne_of_none n1.at_ n2.was
  walk_at "gs"
  refine mid (fun σ' H' => Same H H' ∧ H' bd = some (.dT (bkF m [])) ∧ H' kd = some (.dK (mE V.int (fd0 ins))) ∧ ∃ v6, σ' = [some (.int m), some (.ref gp), some (.ref np), some (.ref op), some (.ref bd), some (.ref kd), v6, none, none, none, none, none, none, none, none, none]) ?_ ?_
  ·intro N hN
   walk_at "gs"
   rw [Int.toNat_natCast]
   refine for_rngG (fun i σ H3 => Same H H3 ∧ H3 bd = some (.dT (inK i)) ∧ H3 kd = some (.dK (mE V.int (fdI ((ins.zip (tiesI ins.length)).take i)))) ∧ ∃ v6, σ = [some (.int m), some (.ref gp), some (.ref np), some (.ref op), some (.ref bd), some (.ref kd), v6, none, none, none, none, none, none, none, none, none]) ⟨s2, n2.same _ _ n1.at_, n2.at_, _, rfl⟩ ?_ ?_
   ·rintro i σ H3 hi ⟨s3, b3, k3, v6, rfl⟩
    have hil : i < ins.length := by omega
    have hz : (ins.zip (tiesI ins.length))[i]? = some (ins[i], 2 * ((i + 1 : Nat) : Int)) := by
     rw [List.getElem?_zip_eq_some]
     exact ⟨List.getElem?_eq_getElem hil, by unfold tiesI; simp [hil]⟩
    have ga : atI ((ins ++ more).map V.str) (0 + (i : Int)) = some (.str ins[i]) := by
     rw [atI_map ("" : Str) (by omega) (by rw [List.length_append]; omega), show (0 + (i : Int)).toNat = i by omega, List.getD_eq_getElem?_getD, List.getElem?_append_left hil, List.getElem?_eq_getElem hil]
     rfl
    walk_at "gs"
    refine ⟨by show 2 ≤ sizeLine; decide, fun t4 H4 n4 => ?_⟩
    have b4 := n4.same _ _ b3
    have t4' : H4 t4 = some (.tup ((knK ((i : Int), -1)).map kV)) := by rw [n4.at_, Int.zero_add]; rfl
    refine ⟨bd, _, rfl, DPut.t (k := knK ((i : Int), -1)) b4 t4' (by unfold inK; rw [List.length_map, List.length_range]; omega), ?_⟩
    rw [Int.zero_add, put_in]
    have b5 : upd H4 bd (.dT (inK (i + 1))) bd = some (.dT (inK (i + 1))) := upd_same
    have k5 : upd H4 bd (.dT (inK (i + 1))) kd = some (.dK (mE V.int (fdI ((ins.zip (tiesI ins.length)).take i)))) := by rw [upd_ne nbk.symm]; exact n4.same _ _ k3
    have s5 : Same H (upd H4 bd (.dT (inK (i + 1)))) := (s3.trans n4.same).put hb0
    generalize upd H4 bd (.dT (inK (i + 1))) = H5 at b5 k5 s5 ⊢
    have N5 := s5 _ _ hNn
    rw [Int.zero_add] at ga
    walk_at "gs"
    refine ⟨_, _, .inl (.of N5), ga, ?_⟩
    refine ⟨kd, _, rfl, DPut.k (k := .inr ins[i]) k5 (by rw [mE_len]; have := fdI_len ((ins.zip (tiesI ins.length)).take i); rw [List.length_take] at this; omega), s5.put hk0, ?_, ?_, _, rfl⟩
    ·rw [upd_ne nbk]; exact b5
    ·rw [upd_same, putK_mE, List.take_add_one, hz]
     unfold fdI
     rw [List.foldl_append]
     show some (HO.dK (mE V.int (ME.pS _ ins[i] (2 * (i : Int) + 2)))) = some (HO.dK (mE V.int (ME.pS _ ins[i] (2 * ((i + 1 : Nat) : Int)))))
     rw [show 2 * (i : Int) + 2 = 2 * ((i + 1 : Nat) : Int) by omega]
   ·rintro σ H3 ⟨s3, b3, k3, v6, rfl⟩
    refine hN _ _ ⟨s3, ?_, ?_, _, rfl⟩
    ·rw [b3]; unfold bkF; rw [show kv2 ((m : Int) + 1) [] = [] from rfl, List.append_nil]
    ·rw [k3, List.take_of_length_le (by rw [lz]; omega)]; rfl
  rintro σ3 H3 ⟨s3, b3, k3, v6, rfl⟩
  refine mid (fun σ' H' => Same H H' ∧ H' bd = some (.dT (bkF m (fdC m ins gs).2)) ∧ H' kd = some (.dK (mE V.int (fdC m ins gs).1)) ∧ ∃ v6 v7 v8 v9, σ' = [some (.int m), some (.ref gp), some (.ref np), some (.ref op), some (.ref bd), some (.ref kd), v6, v7, v8, v9, none, none, none, none, none, none]) ?_ ?_
  ·intro N hN
   walk_at "gs"
   refine ⟨⟨_, .of (s3 _ _ hG)⟩, for_listG (xs := gv) (fun i σ H4 => Same H H4 ∧ H4 bd = some (.dT (bkF m (fdC m ins (gs.take i)).2)) ∧ H4 kd = some (.dK (mE V.int (fdC m ins (gs.take i)).1)) ∧ ∃ v6 v7 v8 v9, σ = [some (.int m), some (.ref gp), some (.ref np), some (.ref op), some (.ref bd), some (.ref kd), v6, v7, v8, v9, none, none, none, none, none, none]) ⟨s3, b3, k3, _, _, _, _, rfl⟩ ?_ ?_ ?_⟩
   ·rintro i σ H4 _ ⟨s4, _⟩
    exact .of (s4 _ _ hG)
   ·rintro i v σ H4 hv ⟨s4, b4, k4, v6, v7, v8, v9, rfl⟩
    have hi : i < gs.length := by rw [← hGs.1]; exact (List.getElem?_eq_some_iff.mp hv).1
    have hgi : gs[i]? = some gs[i] := by simp [hi]
    obtain ⟨t, qq, f1, _, _, f2, f3⟩ := hGs.2 i gs[i] hgi
    rw [f1] at hv
    cases hv
    obtain ⟨p1, p2, p3⟩ := ME.WG.at hW hgi
    have w8 := hw8 _ (List.getElem_mem hi)
    generalize gs[i] = gt at hgi f2 f3 p1 p2 p3 w8
    have fok : FdOk m (0 + (gs.take i).length) (ins ++ (gs.take i).map (·.1)) (fdC m ins (gs.take i)) := fd_all (by omega) (gs.take i) 0 ins _ (WG_take hW i) hst0
    have fle := fok.len
    rw [List.length_take] at fle
    have elen : (fdC m ins (gs.take i)).1.length ≤ 10 + 100 := by
     have h5 := fdC_len m (gs.take i) (fd0 ins, [])
     have h6 := fdI_len (ins.zip (tiesI ins.length))
     rw [lz] at h6
     rw [List.length_take] at h5
     have : (fd0 ins).length ≤ 10 := Nat.le_trans h6 (by omega)
     show (List.foldl (fdS m) (fd0 ins, []) (gs.take i)).1.length ≤ _
     simp only at h5
     omega
    have es9 : fdC m ins (gs.take (i + 1)) = fdS m (fdC m ins (gs.take i)) gt := by
     unfold fdC
     rw [List.take_add_one, hgi, List.foldl_append]
     rfl
    rw [es9]
    have hkn := fok.kn
    have harg := fok.args p1
    generalize fdC m ins (gs.take i) = st at *
    walk_at "gs"
    refine ⟨t, _, rfl, s4.tup f2, rfl, _, _, rfl, _, _, rfl, _, _, rfl, rfl, ?_⟩
    walk_at "gs"
    refine ⟨⟨_, s4.seq f3⟩, compG_list (lookT st.1) (s4.seq f3) rfl (by rw [List.length_map]; omega) ?_ ?_⟩
    ·intro y H' Q' hy s' q'
     obtain ⟨n, hn, rfl⟩ := List.mem_map.mp hy
     walk_at "gs"
     obtain ⟨c, hc⟩ := hkn n (p1 n hn)
     refine ⟨kd, .int c, rfl, ?_, ?_⟩
     ·have := DGet.k (k := .inr n) (s' _ _ k4)
      rw [valV_mE, hc] at this
      exact this
     ·have : lookT st.1 (.str n) = .int c := by simp [lookT, hc]
      rw [this] at q'
      exact q'
    ·intro r H5 n5
     walk_at "gs"
     have el : (gt.2.2.map V.str).map (lookT st.1) = (gt.2.2.map fun p => (ME.vS st.1 p).getD 0).map V.int := by rw [List.map_map, List.map_map]; rfl
     rw [el] at n5
     refine ⟨bd, r, gt.2.1, m, _, st.2, rfl, n5.same _ _ b4, n5.sq, ⟨wd_of (by rw [List.length_map]; exact p2) (by rw [List.length_map]; exact p3), w8⟩, harg, by omega, by omega, fun H6 u6 b6 => ?_⟩
     have k6 := u6 _ _ nbk.symm (n5.same _ _ k4)
     walk_at "gs"
     refine ⟨kd, _, rfl, DPut.k (k := .inr gt.1) k6 (by rw [mE_len]; omega), Same.put (fun b o e => u6 _ _ (ne_of_none e hb0) (n5.same _ _ (s4 _ _ e))) hk0, ?_, ?_, _, _, _, _, rfl⟩
     ·rw [upd_ne nbk]; exact b6
     ·rw [upd_same, putK_mE]
      rfl
   ·rintro σ H4 ⟨s4, b4, k4, v6, v7, v8, v9, rfl⟩
    have egs : gs.take gv.length = gs := by rw [hGs.1, List.take_length]
    rw [egs] at b4 k4
    exact hN _ _ ⟨s4, b4, k4, _, _, _, _, rfl⟩
  rintro σ4 H4 ⟨s4, b4, k4, v6, v7, v8, v9, rfl⟩
  have fok : FdOk m (0 + gs.length) (ins ++ gs.map (·.1)) (fdC m ins gs) := fd_all (by omega) gs 0 ins _ hW hst0
  have fle := fok.len
  have hkn := fok.kn
  have ok := fok.ok
  have hin : MF.Tis m (fdC m ins gs).2 (ME.outsOf 0 (fdC m ins gs).1 outs) := fok.args hwo
  generalize fdC m ins gs = st at *
  have htl : (ME.outsOf 0 st.1 outs).length = outs.length := by unfold ME.outsOf; rw [List.length_map]
  have tget : ∀ (i : Nat) (n : Str), outs[i]? = some n → (ME.outsOf 0 st.1 outs)[i]? = some ((ME.vS st.1 n).getD 0) ∧ ∃ c, ME.vS st.1 n = some c := fun i n e => ⟨by unfold ME.outsOf; rw [List.getElem?_map, e]; rfl, hkn n (hwo n (List.mem_of_getElem? e))⟩
  refine mid (fun σ' H' => Same H H' ∧ H' kd = some (.dK (mE V.int st.1)) ∧ (∃ pp es, H pp = none ∧ PL H' pp es ∧ psOf es = inP m ++ st.2 ∧ ∃ v6 v7 v8 v9, σ' = [some (.int m), some (.ref gp), some (.ref np), some (.ref op), some (.ref bd), some (.ref kd), v6, v7, v8, v9, some (.ref pp), none, none, none, none, none])) ?_ ?_
  ·intro N hN
   walk_at "gs"
   refine ⟨bd, _, b4, bd, _, rfl, b4, fun o => ?_⟩
   have H5d : upd H4 bd (.frz o (.dT (bkF m st.2))) bd = some (.frz o (.dT (bkF m st.2))) := upd_same
   have k5 : ∀ b u, b ≠ bd → H4 b = some u → upd H4 bd (.frz o (.dT (bkF m st.2))) b = some u := fun b u n e => by rw [upd_ne n]; exact e
   generalize upd H4 bd (.frz o (.dT (bkF m st.2))) = H5 at H5d k5 ⊢
   refine fun pp hpp => comp_dG (fun σ => σ.length = 1) (fun i H6 => H6 bd = some (.frz o (.dT (bkF m st.2))) ∧ (∀ b u, b ≠ bd → H4 b = some u → H6 b = some u) ∧ ∃ es : List En, PL H6 pp es ∧ psOf es = (inP m ++ st.2).take i) rfl ⟨by rw [upd_ne (ne_of_none H5d hpp)]; exact H5d, fun b u n e => by rw [upd_ne (ne_of_none (k5 b u n e) hpp)]; exact k5 b u n e, [], ⟨upd_same, fun e he => nomatch he⟩, rfl⟩ ?_ ?_ ?_
   ·rintro i H6 ⟨h6, _⟩
    exact h6
   ·rintro i kv b σ2 H6 R hkv hb hσ ⟨h6, k6, es, P6, hes⟩ hR
    obtain ⟨w1, rfl⟩ : ∃ w1, σ2 = [w1] := by
     match σ2, hσ with
     | [w1], _ => exact ⟨w1, rfl⟩
    obtain ⟨pr, hpr, hkey⟩ := bk_at hkv
    have hb' : H6 b = some (.tup [.int pr.1, .int pr.2]) := by rw [hb, hkey]; rfl
    have hil : i < m + st.2.length := by rw [← len_bk]; exact (List.getElem?_eq_some_iff.mp hkv).1
    have hel : es.length ≤ i := by have := congrArg List.length hes; rw [List.length_map, List.length_take] at this; omega
    walk_at "gs"
    refine ⟨_, P6.lst, by rw [List.length_map]; omega, hR _ _ rfl ⟨?_, fun b' u n e => ?_, es ++ [(b, pr)], P6.put hb', ?_⟩⟩
    ·rw [upd_ne (ne_of h6 P6.lst (fun z => nomatch z))]; exact h6
    ·rw [upd_ne (ne_of_none e ?_)]
     ·exact k6 b' u n e
     ·cases e9 : H4 pp with
      | none => rfl
      | some u9 =>
       have : pp ≠ bd := fun z => by rw [z, H5d] at hpp; cases hpp
       rw [k5 pp u9 this e9] at hpp
       cases hpp
    ·rw [psOf, List.map_append, List.take_add_one, hpr]
     show psOf es ++ [pr] = _
     rw [hes]
     rfl
   ·rintro H6 ⟨h6, k6, es, P6, hes⟩
    rw [len_bk, List.take_of_length_le (by rw [List.length_append]; unfold inP; rw [List.length_map, List.length_range]; exact Nat.le_refl _)] at hes
    walk_at "gs"
    have np : pp ≠ bd := fun z => by rw [z, H5d] at hpp; cases hpp
    refine ⟨⟨o, h6⟩, hN _ _ ⟨fun b u e => ?_, ?_, pp, es, ?_, ⟨?_, fun e he => ?_⟩, hes, _, _, _, _, rfl⟩⟩
    ·rw [upd_ne (ne_of_none e hb0)]; exact k6 b u (ne_of_none e hb0) (s4 b u e)
    ·rw [upd_ne nbk.symm]; exact k6 _ _ nbk.symm k4
    ·cases e9 : H pp with
     | none => rfl
     | some u9 => rw [k5 pp u9 np (s4 _ _ e9)] at hpp; cases hpp
    ·rw [upd_ne np]; exact P6.lst
    ·rw [upd_ne (ne_of (P6.tup e he) h6 (fun z => nomatch z))]; exact P6.tup e he
  rintro σ5 H5 ⟨s5, k5, pp, es, hpp, P5, hes, v6', v7', v8', v9', rfl⟩
  have hel : es.length = m + st.2.length := by
   have := congrArg List.length hes
   rw [List.length_map, List.length_append] at this
   unfold inP at this
   rw [List.length_map, List.length_range] at this
   exact this
  have hep : ∀ (j : Nat) (p : MF.Pr), st.2[j]? = some p → ∃ e, es[m + j]? = some e ∧ e.2 = p := fun j p hp => by
   have h1 : (psOf es)[m + j]? = some p := by rw [hes, inP_at]; exact hp
   rw [List.getElem?_map] at h1
   cases e : es[m + j]? with
   | none => rw [e] at h1; cases h1
   | some en => rw [e] at h1; exact ⟨en, rfl, Option.some.inj h1⟩
  clear b4 v6 v7 v8 v9
  generalize hts : ME.outsOf 0 st.1 outs = ts at *
  walk_at "gs"
  refine .inl ⟨_, .inl (.of P5.lst), ?_⟩
  rw [List.length_map, hel]
  walk_at "gs"
  refine compG_rng (fun _ => .bl false) rfl (by omega) ?_ ?_
  ·intro i H' Q' hi s' q'
   exact q'
  intro nq H6 n6
  have hw : H5 nq = none := n6.was
  have e0 : ((List.range (((m + st.2.length : Nat) : Int) + 1).toNat).map fun _ => V.bl false) = (MF.marks (List.replicate (1 + m + st.2.length) false) (ts.take 0)).map V.bl := by
   rw [show (((m + st.2.length : Nat) : Int) + 1).toNat = 1 + m + st.2.length by omega]
   show _ = (List.replicate (1 + m + st.2.length) false).map V.bl
   rw [List.map_replicate, List.map_const', List.length_range]
  rw [e0] at n6
  have hlen : ∀ xs : List Int, (MF.marks (List.replicate (1 + m + st.2.length) false) xs).length = 1 + m + st.2.length := fun xs => by rw [MF.marks_len, List.length_replicate]
  have hnl := MF.needL_len m st.2 ts
  walk_at "gs"
  refine mid (fun σ' H' => Same H5 H' ∧ H' nq = some (.lst ((MF.marks (List.replicate (1 + m + st.2.length) false) ts).map V.bl)) ∧ ∃ v6 v7 v8 v9, σ' = [some (.int m), some (.ref gp), some (.ref np), some (.ref op), some (.ref bd), some (.ref kd), v6, v7, v8, v9, some (.ref pp), some (.ref nq), none, none, none, none]) ?_ ?_
  ·intro N hN
   walk_at "gs"
   refine ⟨⟨_, .of (n6.same _ _ (s5 _ _ hO))⟩, for_listG (xs := outs.map V.str) (fun i σ H7 => Same H5 H7 ∧ H7 nq = some (.lst ((MF.marks (List.replicate (1 + m + st.2.length) false) (ts.take i)).map V.bl)) ∧ ∃ v6 v7 v8 v9, σ = [some (.int m), some (.ref gp), some (.ref np), some (.ref op), some (.ref bd), some (.ref kd), v6, v7, v8, v9, some (.ref pp), some (.ref nq), none, none, none, none]) ⟨n6.same, n6.at_, _, _, _, _, rfl⟩ ?_ ?_ ?_⟩
   ·rintro i σ H7 _ ⟨s7, _⟩
    exact .of (s7 _ _ (s5 _ _ hO))
   ·rintro i x σ H7 hx ⟨s7, a7, v6, v7, v8, v9, rfl⟩
    obtain ⟨n, hn, rfl⟩ := get_map_of hx
    obtain ⟨ht, c, hc⟩ := tget i n hn
    rw [hc, Option.getD_some] at ht
    have hb := hin c (List.mem_of_getElem? ht)
    walk_at "gs"
    refine ⟨kd, .int c, rfl, ?_, ?_⟩
    ·have := DGet.k (k := .inr n) (s7 _ _ k5)
     rw [valV_mE, hc] at this
     exact this
    walk_at "gs"
    refine ⟨nq, _, _, _, rfl, rfl, a7, ixN_ok (by omega) (by rw [List.length_map, hlen]; omega), s7.put hw, ?_, _, _, _, _, rfl⟩
    rw [upd_same, set_bl, marks_take ht]
   ·rintro σ H7 ⟨s7, a7, v6, v7, v8, v9, rfl⟩
    rw [List.length_map, ← htl, List.take_length] at a7
    exact hN _ _ ⟨s7, a7, _, _, _, _, rfl⟩
  rintro σ7 H7 ⟨s7, a7, v6, v7, v8, v9, rfl⟩
  refine mid (fun σ' H' => Same H5 H' ∧ H' nq = some (.lst ((MF.needL m st.2 ts).map V.bl)) ∧ ∃ v6 v7 v8 v9, σ' = [some (.int m), some (.ref gp), some (.ref np), some (.ref op), some (.ref bd), some (.ref kd), v6, v7, v8, v9, some (.ref pp), some (.ref nq), none, none, none, none]) ?_ ?_
  ·intro N hN
   walk_at "gs"
   refine .inl ⟨_, .inl (.of a7), ?_⟩
   rw [List.length_map, hlen]
   walk_at "gs"
   refine ⟨_, _, rfl, ⟨by omega, by omega, by omega, by omega⟩, ?_⟩
   rw [show (((1 + m + st.2.length : Nat) : Int) - ((m : Int) + 1)).toNat = st.2.length by omega]
   generalize hL0 : MF.marks (List.replicate (1 + m + st.2.length) false) ts = L0 at *
   have dlen : ∀ i, (MF.down m st.2 L0 i).length = 1 + m + st.2.length := fun i => by rw [MF.down_len, ← hL0, hlen]
   refine for_dnG (fun i σ H8 => Same H5 H8 ∧ H8 nq = some (.lst ((MF.down m st.2 L0 i).map V.bl)) ∧ ∃ v6 v7 v8 v9, σ = [some (.int m), some (.ref gp), some (.ref np), some (.ref op), some (.ref bd), some (.ref kd), v6, v7, v8, v9, some (.ref pp), some (.ref nq), none, none, none, none]) ⟨s7, a7, _, _, _, _, rfl⟩ ?_ ?_
   ·rintro i σ H8 hi ⟨s8, a8, v6, v7, v8, v9, rfl⟩
    have hpe : st.2[st.2.length - 1 - i]? = some st.2[st.2.length - 1 - i] := List.getElem?_eq_getElem (by omega)
    obtain ⟨en, hen, hen2⟩ := hep _ _ hpe
    obtain ⟨o1, o2, o3, o4⟩ := ok _ _ hpe
    have P8 := P5.same s8
    have te := P8.tup _ (List.mem_of_getElem? hen)
    rw [hen2] at te
    have hlk : MF.down m st.2 L0 (i + 1) = MF.look m st.2 (MF.down m st.2 L0 i) (st.2.length - 1 - i) := rfl
    unfold MF.look at hlk
    rw [List.getD_eq_getElem?_getD (l := st.2), hpe, Option.getD_some] at hlk
    generalize hE : st.2[st.2.length - 1 - i] = e at *
    obtain ⟨kI, hkI⟩ : ∃ kI : Int, kI = (m : Int) + 1 + ((st.2.length : Int) - 1) - (i : Int) := ⟨_, rfl⟩
    have ga : atI (es.map fun e => V.ref e.1) (kI - 1) = some (.ref en.1) := by
     rw [atI_ok .non (by omega) (by rw [List.length_map]; omega), show (kI - 1).toNat = m + (st.2.length - 1 - i) by omega, List.getD_eq_getElem?_getD, List.getElem?_map, hen]
     rfl
    rw [← hkI]
    walk_at "gs"
    refine ⟨_, _, .inl (.of a8), at_bl (by omega) (by rw [dlen]; omega), ?_⟩
    rw [show kI.toNat = m + 1 + (st.2.length - 1 - i) by omega]
    cases hnd : (MF.down m st.2 L0 i).getD (m + 1 + (st.2.length - 1 - i)) false with
    | false =>
     rw [hnd, if_neg (by simp)] at hlk
     walk_at "go"
     exact ⟨s8, by rw [hlk]; exact a8, _, _, _, _, rfl⟩
    | true =>
     rw [hnd, if_pos rfl] at hlk
     walk_at "gs"
     refine ⟨_, _, .inl (.of P8.lst), ga, ?_⟩
     walk_at "gs"
     refine ⟨_, _, .inr (.of te), rfl, ?_⟩
     walk_at "gs"
     refine ⟨nq, _, _, _, rfl, rfl, a8, ixN_ok (by omega) (by rw [List.length_map, dlen]; omega), ?_⟩
     have s9 : Same H5 (upd H8 nq (.lst (((MF.down m st.2 L0 i).map V.bl).set (e.1 / 2).toNat (.bl true)))) := s8.put hw
     have a9 : upd H8 nq (.lst (((MF.down m st.2 L0 i).map V.bl).set (e.1 / 2).toNat (.bl true))) nq = some (.lst ((MF.mark (MF.down m st.2 L0 i) e.1).map V.bl)) := by rw [upd_same, set_bl]
     generalize upd H8 nq (.lst (((MF.down m st.2 L0 i).map V.bl).set (e.1 / 2).toNat (.bl true))) = H9 at s9 a9 ⊢
     have P9 := P5.same s9
     have te9 := P9.tup _ (List.mem_of_getElem? hen)
     rw [hen2] at te9
     walk_at "gs"
     refine ⟨_, _, .inl (.of P9.lst), ga, ?_⟩
     walk_at "gs"
     refine ⟨_, _, .inr (.of te9), rfl, ?_⟩
     walk_at "gs"
     refine ⟨nq, _, _, _, rfl, rfl, a9, ixN_ok (by omega) (by rw [List.length_map, MF.mark_len, dlen]; omega), s9.put hw, ?_, _, _, _, _, rfl⟩
     rw [upd_same, set_bl, hlk]
   ·rintro σ H8 ⟨s8, a8, v6, v7, v8, v9, rfl⟩
    refine hN _ _ ⟨s8, ?_, _, _, _, _, rfl⟩
    rw [a8, ← hL0]
    rfl
  rintro σ8 H8 ⟨s8, a8, v6, v7, v8, v9, rfl⟩
  have hneed : ∀ k, MF.need m st.2 ts k = (MF.needL m st.2 ts).getD k false := fun k => rfl
  walk_at "gs"
  intro bp' H9 n9
  have e1 : ((List.range ((m : Int) + 1).toNat).map fun i => V.int (i : Nat)) = ((List.range (m + 1 + 0)).map fun k => V.int (MF.bec m (MF.need m st.2 ts) k : Nat)) := by
   rw [show ((m : Int) + 1).toNat = m + 1 + 0 by omega]
   refine List.map_congr_left fun k hk => ?_
   rw [List.mem_range] at hk
   rw [MF.bec_low (by omega)]
  rw [e1] at n9
  walk_at "gs"
  intro kp H10 n10
  have s10 := (s8.trans n9.same).trans n10.same
  have fb : H5 bp' = none := s8.nil n9.was
  have fk : H5 kp = none := s8.nil (n9.same.nil n10.was)
  have nqb : nq ≠ bp' := ne_of_none a8 n9.was
  have nqk : nq ≠ kp := ne_of_none (n9.same _ _ a8) n10.was
  have nbkp : bp' ≠ kp := ne_of_none n9.at_ n10.was
  have q10 := n10.same _ _ (n9.same _ _ a8)
  walk_at "gs"
  refine mid (fun σ' H' => Same H5 H' ∧ H' bp' = some (.lst ((List.range (m + 1 + st.2.length)).map fun k => V.int (MF.bec m (MF.need m st.2 ts) k : Nat))) ∧ ∃ (ks : List En), PL H' kp ks ∧ psOf ks = MF.kept m (MF.need m st.2 ts) st.2 st.2.length ∧ ∃ v6 v7 v8 v9 v14 v15, σ' = [some (.int m), some (.ref gp), some (.ref np), some (.ref op), some (.ref bd), some (.ref kd), v6, v7, v8, v9, some (.ref pp), some (.ref nq), some (.ref bp'), some (.ref kp), v14, v15]) ?_ ?_
  ·intro N hN
   walk_at "gs"
   refine .inl ⟨_, .inl (.of q10), ?_⟩
   rw [List.length_map, hnl]
   walk_at "gs"
   rw [show (((1 + m + st.2.length : Nat) : Int) - ((m : Int) + 1)).toNat = st.2.length by omega]
   refine for_rngG (fun i σ H11 => Same H5 H11 ∧ H11 nq = some (.lst ((MF.needL m st.2 ts).map V.bl)) ∧ H11 bp' = some (.lst ((List.range (m + 1 + i)).map fun k => V.int (MF.bec m (MF.need m st.2 ts) k : Nat))) ∧ ∃ (ks : List En), PL H11 kp ks ∧ psOf ks = MF.kept m (MF.need m st.2 ts) st.2 i ∧ ∃ v6 v7 v8 v9 v14 v15, σ = [some (.int m), some (.ref gp), some (.ref np), some (.ref op), some (.ref bd), some (.ref kd), v6, v7, v8, v9, some (.ref pp), some (.ref nq), some (.ref bp'), some (.ref kp), v14, v15])
    ⟨s10, q10, n10.same _ _ n9.at_, [], ⟨n10.at_, fun e he => nomatch he⟩, rfl, _, _, _, _, _, _, rfl⟩ ?_ ?_
   ·rintro i σ H11 hi ⟨s11, q11, b11, ks, K11, hp11, v6, v7, v8, v9, v14, v15, rfl⟩
    have hpe : st.2[i]? = some st.2[i] := List.getElem?_eq_getElem hi
    obtain ⟨en, hen, hen2⟩ := hep _ _ hpe
    obtain ⟨o1, o2, o3, o4⟩ := ok _ _ hpe
    have kl5 : ks.length = MF.cnt m (MF.need m st.2 ts) i := by have := congrArg List.length hp11; rw [List.length_map, MF.kept_len] at this; exact this
    have kle := MF.cnt_le (m := m) (nd := MF.need m st.2 ts) i
    walk_at "gs"
    refine ⟨.inl ⟨by trivial, _, .of b11⟩, .inl ⟨_, .inl (.of K11.lst), ?_⟩⟩
    rw [List.length_map]
    walk_at "gs"
    refine ⟨bp', _, _, rfl, rfl, b11, by rw [List.length_map, List.length_range]; omega, ?_⟩
    have eb : ((List.range (m + 1 + i)).map fun k => V.int (MF.bec m (MF.need m st.2 ts) k : Nat)) ++ [V.int (1 + (m : Int) + (ks.length : Int))] = ((List.range (m + 1 + (i + 1))).map fun k => V.int (MF.bec m (MF.need m st.2 ts) k : Nat)) := by
     rw [show m + 1 + (i + 1) = (m + 1 + i) + 1 by omega, List.range_succ, List.map_append, List.map_singleton, MF.bec_high, kl5]
     congr 3
    rw [eb]
    have b12 : upd H11 bp' (.lst ((List.range (m + 1 + (i + 1))).map fun k => V.int (MF.bec m (MF.need m st.2 ts) k : Nat))) bp' = some (.lst ((List.range (m + 1 + (i + 1))).map fun k => V.int (MF.bec m (MF.need m st.2 ts) k : Nat))) := upd_same
    have q12 : upd H11 bp' (.lst ((List.range (m + 1 + (i + 1))).map fun k => V.int (MF.bec m (MF.need m st.2 ts) k : Nat))) nq = some (.lst ((MF.needL m st.2 ts).map V.bl)) := by rw [upd_ne nqb]; exact q11
    have K12 : PL (upd H11 bp' (.lst ((List.range (m + 1 + (i + 1))).map fun k => V.int (MF.bec m (MF.need m st.2 ts) k : Nat)))) kp ks := ⟨by rw [upd_ne nbkp.symm]; exact K11.lst, fun e he => by rw [upd_ne (ne_of (K11.tup e he) b11 (fun z => nomatch z))]; exact K11.tup e he⟩
    have s12 : Same H5 (upd H11 bp' (.lst ((List.range (m + 1 + (i + 1))).map fun k => V.int (MF.bec m (MF.need m st.2 ts) k : Nat)))) := s11.put fb
    generalize upd H11 bp' (.lst ((List.range (m + 1 + (i + 1))).map fun k => V.int (MF.bec m (MF.need m st.2 ts) k : Nat))) = H12 at b12 q12 K12 s12 ⊢
    have P12 := P5.same s12
    have te := P12.tup _ (List.mem_of_getElem? hen)
    rw [hen2] at te
    generalize hE : st.2[i] = e at *
    have ga : atI (es.map fun e => V.ref e.1) ((m : Int) + 1 + (i : Int) - 1) = some (.ref en.1) := by
     rw [atI_ok .non (by omega) (by rw [List.length_map]; omega), show ((m : Int) + 1 + (i : Int) - 1).toNat = m + i by omega, List.getD_eq_getElem?_getD, List.getElem?_map, hen]
     rfl
    walk_at "gs"
    refine ⟨_, _, .inl (.of q12), at_bl (by omega) (by omega), ?_⟩
    rw [show ((m : Int) + 1 + (i : Int)).toNat = m + 1 + i by omega, ← hneed]
    cases hn : MF.need m st.2 ts (m + 1 + i) with
    | false =>
     walk_at "go"
     refine ⟨s12, q12, b12, ks, K12, ?_, _, _, _, _, _, _, rfl⟩
     unfold MF.kept
     rw [hn]
     exact hp11
    | true =>
     walk_at "gs"
     refine ⟨_, _, .inl (.of P12.lst), ga, ?_⟩
     walk_at "gs"
     refine ⟨en.1, _, rfl, .of te, rfl, _, _, rfl, _, _, rfl, rfl, ?_⟩
     walk_at "gs"
     refine ⟨.inl ⟨by trivial, _, .of K12.lst⟩, ?_⟩
     walk_at "gs"
     refine ⟨_, _, .inl (.of b12), at_bec _ (by omega) (by omega), ?_⟩
     walk_at "gs"
     refine ⟨_, _, .inl (.of b12), at_bec _ (by omega) (by omega), ?_⟩
     walk_at "gs"
     refine ⟨by show 2 ≤ sizeLine; decide, fun tp H13 n13 => ?_⟩
     have K13 := K12.same n13.same
     have t13 : H13 tp = some (.tup [.int (MF.mp m (MF.need m st.2 ts) e).1, .int (MF.mp m (MF.need m st.2 ts) e).2]) := n13.at_
     refine ⟨kp, _, _, rfl, rfl, K13.lst, by rw [List.length_map]; omega, (s12.trans n13.same).put fk, ?_, ?_, _, K13.put t13, ?_, _, _, _, _, _, _, rfl⟩
     ·rw [upd_ne nqk]; exact n13.same _ _ q12
     ·rw [upd_ne nbkp]; exact n13.same _ _ b12
     ·unfold MF.kept
      rw [hn, if_pos rfl, psOf, List.map_append, List.getD_eq_getElem?_getD, hpe]
      show psOf ks ++ _ = _
      rw [hp11]
      rfl
   ·rintro σ H11 ⟨s11, q11, b11, ks, K11, hp11, v6, v7, v8, v9, v14, v15, rfl⟩
    exact hN _ _ ⟨s11, b11, ks, K11, hp11, _, _, _, _, _, _, rfl⟩
  rintro σ11 H11 ⟨s11, b11, ks, K11, hp11, v6, v7, v8, v9, v14, v15, rfl⟩
  have O11 := s11 _ _ (s5 _ _ hO)
  walk_at "gs"
  refine ⟨⟨_, .of O11⟩, compG_list (fun x => match x with | .str n => .int (MF.mt m (MF.need m st.2 ts) ((ME.vS st.1 n).getD 0)) | v => v) (.of O11) rfl (by rw [List.length_map]; omega) ?_ ?_⟩
  ·intro x H' Q' hx s' q'
   obtain ⟨n, hn, rfl⟩ := List.mem_map.mp hx
   obtain ⟨i, hi⟩ := List.mem_iff_getElem?.mp hn
   obtain ⟨ht, c, hc⟩ := tget i n hi
   rw [hc, Option.getD_some] at ht
   have hb := hin c (List.mem_of_getElem? ht)
   have get : DGet H' kd (.str n) (some (.int c)) := by
    have := DGet.k (k := .inr n) (s' _ _ (s11 _ _ k5))
    rw [valV_mE, hc] at this
    exact this
   simp only [hc, Option.getD_some] at q'
   walk_at "gs"
   refine ⟨kd, .int c, rfl, get, ?_⟩
   walk_at "gs"
   refine ⟨_, _, .inl (.of (s' _ _ b11)), at_bec _ (by omega) (by omega), ?_⟩
   walk_at "gs"
   refine ⟨kd, .int c, rfl, get, ?_⟩
   walk_at "gs"
   exact q'
  ·intro tq H12 n12
   have eq6 : (outs.map V.str).map (fun x => match x with | .str n => .int (MF.mt m (MF.need m st.2 ts) ((ME.vS st.1 n).getD 0)) | v => v) = (MF.swT m st.2 ts).map V.int := by
    unfold MF.swT
    rw [← hts]
    unfold ME.outsOf
    rw [List.map_map, List.map_map, List.map_map]
    rfl
   rw [eq6] at n12
   walk_at "gs"
   refine ⟨by show 2 ≤ sizeLine; decide, fun r H13 n13 => ?_⟩
   have s13 := n12.same.trans n13.same
   exact q H13 r kp tq ks (s5.trans (s11.trans s13)) (s5.nil fk) (s5.nil (s11.nil n12.was)) (K11.same s13) hp11 (n13.same _ _ n12.at_) n13.at_
theorem two2 (a b : Int) (i : Int) (h0 : 0 ≤ i) (h1 : i < 2) : ∃ x : Int, atI ([.int a, .int b] : List V) i = some (.int x) ∧ (x = a ∨ x = b) := by
 have : i = 0 ∨ i = 1 := by omega
 rcases this with rfl | rfl
 ·exact ⟨_, rfl, .inl rfl⟩
 ·exact ⟨_, rfl, .inr rfl⟩
theorem getD_mem {α : Type} {xs : List α} {n : Nat} (d : α) (h : n < xs.length) : xs.getD n d ∈ xs := by simp [List.getD, h]
def sp_law_outputs (_ : PySem.W.Frag) : Sp := fun vs H Q _ => ∃ (c : Int) (n : Nat) (np : Addr) (ns : List Str), vs = [.int c, .int n, .ref np] ∧ H np = some (.lst (ns.map V.str)) ∧ 1 ≤ ns.length ∧ ns.length ≤ 1000 ∧ n ≤ 100 ∧
 ∀ lp H' (os : List Str), Mad H lp (.lst (os.map V.str)) H' → os.length = n → (∀ p ∈ os, p ∈ ns) → Q (.ref lp) H'
def rd_law_outputs (K : PySem.W.Frag) : TS := (tSeq (tAsg (tLst tNil) (gName 3))
  (tSeq (tFor (iRng1 (tCons (cVar 1) tNil)) (gName 4) (tSeq (tAsg (tOp (cI2c (fun _ j => 0 < j) fun i j => .int (i % j)) (cVar 0) (tC (.int 2))) (gName 5))
  (tSeq (tAsg (tOp (cI2c CDiv fun i j => .int (i / j)) (cVar 0) (tC (.int 2))) (gName 0))
  (tSeq (tAsg (tOp (cIx K) (tLst (tCons (tCB (cLen K) (tCons (cVar 2) tNil)) (tCons (tCB cMin (tCons (tCB (cLen K) (tCons (cVar 2) tNil)) (tCons (tC (.int 5)) tNil))) tNil))) (cVar 5)) (gName 6))
  (tSeq (tDrop (tBM K "list" rAppend (cVar 3) (tCons (tOp (cIx K) (cVar 2) (tOp (cIx K) (tLst (tCons (tOp (cI2c (fun _ j => 0 < j) fun i j => .int (i % j)) (cVar 0) (cVar 6)) (tCons (tOp (cI2 fun i j => .int (i - j)) (tOp (cI2 fun i j => .int (i - j)) (tCB (cLen K) (tCons (cVar 2) tNil)) (tC (.int 1))) (tOp (cI2c (fun _ j => 0 < j) fun i j => .int (i % j)) (cVar 0) (cVar 6))) tNil))) (cVar 5))) tNil)))
  (tAsg (tOp (cI2c CDiv fun i j => .int (i / j)) (cVar 0) (cVar 6)) (gName 0)))))))
  (tRet (cVar 3))))
theorem tm_law_outputs (T : Txt K mg a) {cdv : Value} {A : Around} {outer : List Env} {s : Shared} {H : Hp} {E : XK} (hr : Room 0 (A.deeper (envOfC "_law_outputs" (defScope s_law_outputs) s.heap.objs.size a.f_law_outputs cdv))) :
  PSs (cxOf CX0 P w K mg base N_law_outputs "_law_outputs" (defScope s_law_outputs) a.f_law_outputs cdv A outer s H E).nox (defBody s_law_outputs) (rd_law_outputs K) :=
 (pss_cons (ps_set (i := 3) sc_law_outputs.nd rfl (by walk_at "o") (pe_lst pa_nil))
   (pss_cons (ps_for PassesOwn.never rfl (pi_range1 rfl T.no_range (pa_cons (cv 1) pa_nil)) (pg_name (i := 4) sc_law_outputs.nd rfl (by walk_at "o")) (pss_cons (ps_set (i := 5) sc_law_outputs.nd rfl (by walk_at "o") (pe_op o_mod (cv 0) pe_int))
   (pss_cons (ps_set (i := 0) sc_law_outputs.nd rfl (by walk_at "o") (pe_op o_fdiv (cv 0) pe_int))
   (pss_cons (ps_set (i := 6) sc_law_outputs.nd rfl (by walk_at "o") (pe_ix i_seq (pe_lst (pa_cons (pe_callB c_len (by rfl) T.no_len PySem.boot_len (pa_cons (cv 2) pa_nil)) (pa_cons (pe_callB (c_min rfl) (by rfl) T.no_min PyProof.Rows.boot_min (pa_cons (pe_callB c_len (by rfl) T.no_len PySem.boot_len (pa_cons (cv 2) pa_nil)) (pa_cons pe_int pa_nil))) pa_nil))) (cv 5) (fun _ _ => rfl)))
   (pss_cons (ps_expr (pe_bm PySem.F.plainAttrs_list PySem.F.slot_list_append PySem.F.type_list_append (mtr mt_append) (cv 3) (pa_cons (pe_ix i_seq (cv 2) (pe_ix i_seq (pe_lst (pa_cons (pe_op o_mod (cv 0) (cv 6)) (pa_cons (pe_op o_sub (pe_op o_sub (pe_callB c_len (by rfl) T.no_len PySem.boot_len (pa_cons (cv 2) pa_nil)) pe_int) (pe_op o_mod (cv 0) (cv 6))) pa_nil))) (cv 5) (fun _ _ => rfl)) (fun _ _ => rfl)) pa_nil)))
   (pss_one (ps_set (i := 0) sc_law_outputs.nd rfl (by walk_at "o") (pe_op o_fdiv (cv 0) (cv 6)))))))))
   (pss_one (ps_ret (cv 3)))))
theorem ok_law_outputs (T : Txt K mg a) : FnOk P w K mg base CX0 1 a.f_law_outputs a.d_law_outputs ["_law_cell", "_law_count", "_law_names"] (sp_law_outputs K) := by
 refine T.fn_law_outputs.ok sc_law_outputs (fun vs H Q E h => ?_) (fun cdv A outer s H vs Q E hr h => ⟨_, tm_law_outputs T hr, ?_⟩)
 ·obtain ⟨c, n, np, ns, rfl, _⟩ := h; rfl
 ·obtain ⟨c, n, np, ns, rfl, hN, h1, h2, hn, q⟩ := h
  show rd_law_outputs K _ [some (.int c), some (.int n), some (.ref np), none, none, none, none] H
  unfold rd_law_outputs
  have big : (5000 : Nat) ≤ sizeLine := by decide
  walk_at "gs"
  intro lp H1 n1
  walk_at "gs"
  rw [Int.toNat_natCast]
  refine for_rngG (fun i σ H2 => ∃ (ps : List Str) (d : Int) (v4 v5 v6 : Option V), Same H H2 ∧ H2 lp = some (.lst (ps.map V.str)) ∧ ps.length = i ∧ (∀ p ∈ ps, p ∈ ns) ∧ σ = [some (.int d), some (.int n), some (.ref np), some (.ref lp), v4, v5, v6]) ⟨[], _, none, none, none, n1.same, n1.at_, rfl, (fun t ht => absurd ht (by simp)), rfl⟩ ?_ ?_
  ·rintro i σ H2 hi ⟨ps, d, v4, v5, v6, s2, hl, hlen, hin, rfl⟩
   have N2 := s2 _ _ hN
   walk_at "gs"
   refine .inl ⟨_, .inl (.of N2), .inl ⟨_, .inl (.of N2), ?_⟩⟩
   rw [List.length_map]
   walk_at "gs"
   generalize hA : (if (5 : Int) < ns.length then (5 : Int) else (ns.length : Int)) = A
   have a1 : 1 ≤ A ∧ A ≤ ns.length := by rw [← hA]; split <;> omega
   refine ⟨by show 2 ≤ sizeLine; decide, fun l3 H3 n3 => ?_⟩
   obtain ⟨M, hM, hM3⟩ := two2 (ns.length : Int) A (d % 2) (by omega) (by omega)
   have m1 : 1 ≤ M ∧ M ≤ ns.length := by rcases hM3 with e | e <;> rw [e] <;> omega
   refine ⟨_, _, .inl n3.sq, hM, ?_⟩
   have b1 := Int.emod_nonneg (d / 2) (show M ≠ 0 by omega)
   have b2 := Int.emod_lt_of_pos (d / 2) (show 0 < M by omega)
   have N3 := n3.same _ _ N2
   have l3' := n3.same _ _ hl
   walk_at "gs"
   refine ⟨.inl ⟨by trivial, _, .of l3'⟩, ?_⟩
   walk_at "gs"
   refine .inl ⟨_, .inl (.of N3), ?_⟩
   rw [List.length_map]
   walk_at "gs"
   refine ⟨by show 2 ≤ sizeLine; decide, fun l4 H4 n4 => ?_⟩
   obtain ⟨x, hx, hx2⟩ := two2 (d / 2 % M) ((ns.length : Int) - 1 - d / 2 % M) (d % 2) (by omega) (by omega)
   have xb : 0 ≤ x ∧ x < ns.length := by rcases hx2 with e | e <;> rw [e] <;> omega
   refine ⟨_, _, .inl n4.sq, hx, _, _, .inl (.of (n4.same _ _ N3)), atI_map ("" : Str) xb.1 xb.2, ?_⟩
   refine ⟨lp, _, _, rfl, rfl, n4.same _ _ l3', by rw [List.length_map]; omega, ?_⟩
   walk_at "gs"
   refine ⟨ps ++ [ns.getD x.toNat ""], _, _, _, _, ((s2.trans n3.same).trans n4.same).put n1.was, by rw [upd_same, List.map_append]; rfl, by rw [List.length_append, hlen]; rfl, fun p hp => ?_, rfl⟩
   rcases List.mem_append.mp hp with hp | hp
   ·exact hin p hp
   ·rw [List.mem_singleton.mp hp]
    exact getD_mem _ (by omega)
  ·rintro σ H2 ⟨ps, d, v4, v5, v6, s2, hl, hlen, hin, rfl⟩
   walk_at "gs"
   exact q lp H2 ps ⟨n1.was, hl, s2⟩ hlen hin
theorem tab10 (c : Int) : ∃ w : Str, atI ([.str "and", .str "or", .str "either", .str "not", .str "choose", .str "most", .str "yes", .str "no", .str "either", .str "and"] : List V) (c % 10) = some (.str w) ∧ w ∈ words8 := by
 have : c % 10 = 0 ∨ c % 10 = 1 ∨ c % 10 = 2 ∨ c % 10 = 3 ∨ c % 10 = 4 ∨ c % 10 = 5 ∨ c % 10 = 6 ∨ c % 10 = 7 ∨ c % 10 = 8 ∨ c % 10 = 9 := by omega
 rcases this with h | h | h | h | h | h | h | h | h | h <;> rw [h] <;> exact ⟨_, rfl, by decide +kernel⟩
def szF (w : Str) (c : Int) : Int := if w = "and" ∨ w = "or" ∨ w = "either" then 2 + c % 5 else if w = "yes" ∨ w = "no" then 0 else if w = "not" then 1 else 3
theorem szF_ok {w : Str} (h : w ∈ words8) (c : Int) : ∃ n : Nat, szF w c = n ∧ WdA w n ∧ n ≤ 6 ∧ (n = 0 → w = "yes" ∨ w = "no") := by
 unfold words8 at h
 simp only [List.mem_cons, List.not_mem_nil, or_false] at h
 have sm : ∃ n : Nat, 2 + c % 5 = n ∧ 2 ≤ n ∧ n ≤ 6 := ⟨(2 + c % 5).toNat, by omega, by omega, by omega⟩
 obtain ⟨n, hn, n2, n6⟩ := sm
 unfold szF WdA
 rcases h with rfl | rfl | rfl | rfl | rfl | rfl | rfl | rfl
 ·exact ⟨n, by rw [if_pos (.inl rfl), hn], ⟨fun _ => by omega, fun z => absurd z (by decide +kernel)⟩, n6, fun z => by omega⟩
 ·exact ⟨n, by rw [if_pos (.inr (.inl rfl)), hn], ⟨fun _ => by omega, fun z => absurd z (by decide +kernel)⟩, n6, fun z => by omega⟩
 ·exact ⟨n, by rw [if_pos (.inr (.inr rfl)), hn], ⟨fun _ => by omega, fun z => absurd z (by decide +kernel)⟩, n6, fun z => by omega⟩
 ·exact ⟨1, by rw [if_neg (by decide +kernel), if_neg (by decide +kernel), if_pos rfl]; rfl, ⟨fun _ => by decide, fun z => absurd z (by decide +kernel)⟩, by decide, fun z => by omega⟩
 ·exact ⟨3, by rw [if_neg (by decide +kernel), if_neg (by decide +kernel), if_neg (by decide +kernel)]; rfl, ⟨fun _ => by decide, fun _ => rfl⟩, by decide, fun z => by omega⟩
 ·exact ⟨3, by rw [if_neg (by decide +kernel), if_neg (by decide +kernel), if_neg (by decide +kernel)]; rfl, ⟨fun _ => by decide, fun _ => rfl⟩, by decide, fun z => by omega⟩
 ·exact ⟨0, by rw [if_neg (by decide +kernel), if_pos (.inl rfl)]; rfl, ⟨fun z => absurd z (by decide +kernel), fun z => absurd z (by decide +kernel)⟩, by decide, fun _ => .inl rfl⟩
 ·exact ⟨0, by rw [if_neg (by decide +kernel), if_pos (.inr rfl)]; rfl, ⟨fun z => absurd z (by decide +kernel), fun z => absurd z (by decide +kernel)⟩, by decide, fun _ => .inr rfl⟩
def sp_law_gate (_ : PySem.W.Frag) : Sp := fun vs H Q _ => ∃ (nm : Str) (c : Int) (np : Addr) (ns : List Str), vs = [.str nm, .int c, .ref np] ∧ H np = some (.lst (ns.map V.str)) ∧ 1 ≤ ns.length ∧ ns.length ≤ 1000 ∧
 ∀ r lp H' (w : Str) (ps : List Str), Same H H' → H r = none → H lp = none → H' lp = some (.lst (ps.map V.str)) → H' r = some (.tup [.str nm, .str w, .ref lp]) → WdA w ps.length → ps.length ≤ 6 → w ∈ words8 → (ps.length = 0 → w = "yes" ∨ w = "no") → (∀ p ∈ ps, p ∈ ns) → Q (.ref r) H'
def rd_law_gate (K : PySem.W.Frag) : TS := (tSeq (tAsg (tOp (cIx K) (tLst (tVals [(.str "and"), (.str "or"), (.str "either"), (.str "not"), (.str "choose"), (.str "most"), (.str "yes"), (.str "no"), (.str "either"), (.str "and")])) (tOp (cI2c (fun _ j => 0 < j) fun i j => .int (i % j)) (cVar 1) (tC (.int 10)))) (gName 3))
  (tSeq (tAsg (tOp (cI2c CDiv fun i j => .int (i / j)) (cVar 1) (tC (.int 10))) (gName 1))
  (tSeq (tAsg (tC (.int 3)) (gName 4))
  (tMid (tIfS (cTst (tOp (cEq K) (cVar 3) (tC (.str "not")))) (tAsg (tC (.int 1)) (gName 4)) tNext)
  (tMid (tIfS (tOr (cTst (tOp (cEq K) (cVar 3) (tC (.str "yes")))) (cTst (tOp (cEq K) (cVar 3) (tC (.str "no"))))) (tAsg (tC (.int 0)) (gName 4)) tNext)
  (tMid (tIfS (tOr (cTst (tOp (cEq K) (cVar 3) (tC (.str "and")))) (tOr (cTst (tOp (cEq K) (cVar 3) (tC (.str "or")))) (cTst (tOp (cEq K) (cVar 3) (tC (.str "either")))))) (tAsg (tOp cAdd (tC (.int 2)) (tOp (cI2c (fun _ j => 0 < j) fun i j => .int (i % j)) (cVar 1) (tC (.int 5)))) (gName 4)) tNext)
  (tSeq (tAsg (tOp (cI2c (fun _ j => 0 < j) fun i j => .int (i % j)) (tOp (cI2c CDiv fun i j => .int (i / j)) (cVar 1) (tC (.int 5))) (tC (.int 2))) (gName 5))
  (tSeq (tAsg (tOp (cI2c CDiv fun i j => .int (i / j)) (cVar 1) (tC (.int 10))) (gName 1))
  (tSeq (tAsg (tLst tNil) (gName 6))
  (tSeq (tFor (iRng1 (tCons (cVar 4) tNil)) (gName 7) (tSeq (tAsg (tOp (cIx K) (tLst (tCons (tCB (cLen K) (tCons (cVar 2) tNil)) (tCons (tCB cMin (tCons (tC (.int 3)) (tCons (tCB (cLen K) (tCons (cVar 2) tNil)) tNil))) tNil))) (tCB cInt (tCons (cAndV (tOp (cEq K) (cVar 7) (tC (.int 0))) (tOp (cEq K) (cVar 5) (tC (.int 1)))) tNil))) (gName 8))
  (tSeq (tDrop (tBM K "list" rAppend (cVar 6) (tCons (tOp (cIx K) (cVar 2) (tOp (cIx K) (tLst (tCons (tOp (cI2c (fun _ j => 0 < j) fun i j => .int (i % j)) (cVar 1) (cVar 8)) (tCons (tOp (cI2 fun i j => .int (i - j)) (tOp (cI2 fun i j => .int (i - j)) (tCB (cLen K) (tCons (cVar 2) tNil)) (tC (.int 1))) (tOp (cI2c (fun _ j => 0 < j) fun i j => .int (i % j)) (cVar 1) (cVar 8))) tNil))) (tCB cInt (tCons (cAndV (tOp (cEq K) (cVar 7) (tC (.int 0))) (tOp (cEq K) (cVar 5) (tC (.int 1)))) tNil)))) tNil)))
  (tAsg (tOp (cI2c CDiv fun i j => .int (i / j)) (cVar 1) (cVar 8)) (gName 1)))))
  (tRet (tTup (tCons (cVar 0) (tCons (cVar 3) (tCons (cVar 6) tNil)))))))))))))))
theorem tm_law_gate (T : Txt K mg a) {cdv : Value} {A : Around} {outer : List Env} {s : Shared} {H : Hp} {E : XK} (hr : Room 0 (A.deeper (envOfC "_law_gate" (defScope s_law_gate) s.heap.objs.size a.f_law_gate cdv))) :
  PSs (cxOf CX0 P w K mg base N_law_gate "_law_gate" (defScope s_law_gate) a.f_law_gate cdv A outer s H E).nox (defBody s_law_gate) (rd_law_gate K) :=
 (pss_cons (ps_set (i := 3) sc_law_gate.nd rfl (by walk_at "o") (pe_ix i_seq (pe_lst (pa_consts (vs := [(.str "and"), (.str "or"), (.str "either"), (.str "not"), (.str "choose"), (.str "most"), (.str "yes"), (.str "no"), (.str "either"), (.str "and")]) rfl)) (pe_op o_mod (cv 1) pe_int) (fun _ _ => rfl)))
   (pss_cons (ps_set (i := 1) sc_law_gate.nd rfl (by walk_at "o") (pe_op o_fdiv (cv 1) pe_int))
   (pss_cons (ps_set (i := 4) sc_law_gate.nd rfl (by walk_at "o") pe_int)
   (pss_mid (ps_if (t_cmp (o_eq (hr8 hr)) (cv 3) pe_str (nomark _)) (pss_one (ps_set (i := 4) sc_law_gate.nd rfl (by walk_at "o") pe_int)) pss_nil)
   (pss_mid (ps_if (PW.pt (pw_or (t_cmp (o_eq (hr8 hr)) (cv 3) pe_str (nomark _)) (pw_or1 (t_cmp (o_eq (hr8 hr)) (cv 3) pe_str (nomark _))))) (pss_one (ps_set (i := 4) sc_law_gate.nd rfl (by walk_at "o") pe_int)) pss_nil)
   (pss_mid (ps_if (PW.pt (pw_or (t_cmp (o_eq (hr8 hr)) (cv 3) pe_str (nomark _)) (pw_or (t_cmp (o_eq (hr8 hr)) (cv 3) pe_str (nomark _)) (pw_or1 (t_cmp (o_eq (hr8 hr)) (cv 3) pe_str (nomark _)))))) (pss_one (ps_set (i := 4) sc_law_gate.nd rfl (by walk_at "o") (pe_op o_add pe_int (pe_op o_mod (cv 1) pe_int)))) pss_nil)
   (pss_cons (ps_set (i := 5) sc_law_gate.nd rfl (by walk_at "o") (pe_op o_mod (pe_op o_fdiv (cv 1) pe_int) pe_int))
   (pss_cons (ps_set (i := 1) sc_law_gate.nd rfl (by walk_at "o") (pe_op o_fdiv (cv 1) pe_int))
   (pss_cons (ps_set (i := 6) sc_law_gate.nd rfl (by walk_at "o") (pe_lst pa_nil))
   (pss_cons (ps_for PassesOwn.never rfl (pi_range1 rfl T.no_range (pa_cons (cv 4) pa_nil)) (pg_name (i := 7) sc_law_gate.nd rfl (by walk_at "o")) (pss_cons (ps_set (i := 8) sc_law_gate.nd rfl (by walk_at "o") (pe_ix i_seq (pe_lst (pa_cons (pe_callB c_len (by rfl) T.no_len PySem.boot_len (pa_cons (cv 2) pa_nil)) (pa_cons (pe_callB (c_min rfl) (by rfl) T.no_min PyProof.Rows.boot_min (pa_cons pe_int (pa_cons (pe_callB c_len (by rfl) T.no_len PySem.boot_len (pa_cons (cv 2) pa_nil)) pa_nil))) pa_nil))) (pe_callTy c_int (by rfl) T.no_int PyProof.Rows.boot_int (pa_cons (e_and (pe_cmpR (o_eq (hr8 hr)) (cv 7) pe_int (nomark _)) (pe_one (pe_cmpR (o_eq (hr8 hr)) (cv 5) pe_int (nomark _)))) pa_nil)) (fun _ _ => rfl)))
   (pss_cons (ps_expr (pe_bm PySem.F.plainAttrs_list PySem.F.slot_list_append PySem.F.type_list_append (mtr mt_append) (cv 6) (pa_cons (pe_ix i_seq (cv 2) (pe_ix i_seq (pe_lst (pa_cons (pe_op o_mod (cv 1) (cv 8)) (pa_cons (pe_op o_sub (pe_op o_sub (pe_callB c_len (by rfl) T.no_len PySem.boot_len (pa_cons (cv 2) pa_nil)) pe_int) (pe_op o_mod (cv 1) (cv 8))) pa_nil))) (pe_callTy c_int (by rfl) T.no_int PyProof.Rows.boot_int (pa_cons (e_and (pe_cmpR (o_eq (hr8 hr)) (cv 7) pe_int (nomark _)) (pe_one (pe_cmpR (o_eq (hr8 hr)) (cv 5) pe_int (nomark _)))) pa_nil)) (fun _ _ => rfl)) (fun _ _ => rfl)) pa_nil)))
   (pss_one (ps_set (i := 1) sc_law_gate.nd rfl (by walk_at "o") (pe_op o_fdiv (cv 1) (cv 8)))))))
   (pss_one (ps_ret (pe_tup (pa_cons (cv 0) (pa_cons (cv 3) (pa_cons (cv 6) pa_nil))))))))))))))))
theorem ok_law_gate (T : Txt K mg a) : FnOk P w K mg base CX0 1 a.f_law_gate a.d_law_gate ["_law_name", "_law_cell", "_law_names"] (sp_law_gate K) := by
 refine T.fn_law_gate.ok sc_law_gate (fun vs H Q E h => ?_) (fun cdv A outer s H vs Q E hr h => ⟨_, tm_law_gate T hr, ?_⟩)
 ·obtain ⟨nm, c, np, ns, rfl, _⟩ := h; rfl
 ·obtain ⟨nm, c, np, ns, rfl, hN, h1, h2, q⟩ := h
  show rd_law_gate K _ [some (.str nm), some (.int c), some (.ref np), none, none, none, none, none, none] H
  unfold rd_law_gate
  have big : (5000 : Nat) ≤ sizeLine := by decide
  obtain ⟨w, hw, hw8⟩ := tab10 c
  walk_at "gs"
  intro l1 H1 n1
  walk_at "gs"
  refine ⟨_, _, .inl n1.sq, hw, ?_⟩
  walk_at "gs"
  refine mid (fun σ' H' => H1 = H' ∧ σ' = [some (.str nm), some (.int (c / 10)), some (.ref np), some (.str w), some (.int (if w = "not" then 1 else 3)), none, none, none, none]) ?_ ?_
  ·intro N hN'
   walk_at "gs"
   by_cases g : w = "not"
   ·rw [if_pos g]; exact hN' _ _ ⟨rfl, by rw [if_pos g]⟩
   ·rw [if_neg g]; exact hN' _ _ ⟨rfl, by rw [if_neg g]⟩
  rintro σ2 H2 ⟨rfl, rfl⟩
  refine mid (fun σ' H' => H1 = H' ∧ σ' = [some (.str nm), some (.int (c / 10)), some (.ref np), some (.str w), some (.int (if w = "yes" ∨ w = "no" then 0 else if w = "not" then 1 else 3)), none, none, none, none]) ?_ ?_
  ·intro N hN'
   walk_at "gs"
   by_cases g : w = "yes"
   ·rw [if_pos g]; exact hN' _ _ ⟨rfl, by rw [if_pos (.inl g)]⟩
   rw [if_neg g]
   by_cases g' : w = "no"
   ·rw [if_pos g']; exact hN' _ _ ⟨rfl, by rw [if_pos (.inr g')]⟩
   ·rw [if_neg g']; exact hN' _ _ ⟨rfl, by rw [if_neg (show ¬ (w = "yes" ∨ w = "no") from fun z => z.elim g g')]⟩
  rintro σ3 H3 ⟨rfl, rfl⟩
  refine mid (fun σ' H' => H1 = H' ∧ σ' = [some (.str nm), some (.int (c / 10)), some (.ref np), some (.str w), some (.int (szF w (c / 10))), none, none, none, none]) ?_ ?_
  ·intro N hN'
   have fin : (w = "and" ∨ w = "or" ∨ w = "either") → N [some (.str nm), some (.int (c / 10)), some (.ref np), some (.str w), some (.int (2 + c / 10 % 5)), none, none, none, none] H1 := fun z => hN' _ _ ⟨rfl, by unfold szF; rw [if_pos z]⟩
   walk_at "gs"
   by_cases g : w = "and"
   ·rw [if_pos g]; walk_at "gs"; exact fin (.inl g)
   rw [if_neg g]
   by_cases g' : w = "or"
   ·rw [if_pos g']; walk_at "gs"; exact fin (.inr (.inl g'))
   rw [if_neg g']
   by_cases g'' : w = "either"
   ·rw [if_pos g'']; walk_at "gs"; exact fin (.inr (.inr g''))
   ·rw [if_neg g'']; exact hN' _ _ ⟨rfl, by unfold szF; rw [if_neg (show ¬ (w = "and" ∨ w = "or" ∨ w = "either") from fun z => z.elim g fun z => z.elim g' g'')]⟩
  rintro σ4 H4 ⟨rfl, rfl⟩
  obtain ⟨sz, hsz, hwa, hs6, hs0⟩ := szF_ok hw8 (c / 10)
  rw [hsz]
  walk_at "gs"
  intro lp H5 n5
  walk_at "gs"
  rw [Int.toNat_natCast]
  generalize c / 10 / 5 % 2 = late
  have s5 : Same H H5 := n1.same.trans n5.same
  refine for_rngG (fun i σ H6 => ∃ (ps : List Str) (d : Int) (v7 v8 : Option V), Same H H6 ∧ H6 lp = some (.lst (ps.map V.str)) ∧ ps.length = i ∧ (∀ p ∈ ps, p ∈ ns) ∧ σ = [some (.str nm), some (.int d), some (.ref np), some (.str w), some (.int (sz : Nat)), some (.int late), some (.ref lp), v7, v8]) ⟨[], _, none, none, s5, n5.at_, rfl, (fun t ht => absurd ht (by simp)), rfl⟩ ?_ ?_
  ·rintro i σ H6 hi ⟨ps, d, v7, v8, s6, hl, hlen, hin, rfl⟩
   have N6 := s6 _ _ hN
   by_cases hj : (0 : Int) + (i : Int) = 0
   ·have iz : 0 ≤ (if late = 1 then (1 : Int) else 0) ∧ (if late = 1 then (1 : Int) else 0) < 2 := by split <;> omega
    walk_at "gs"
    refine .inl ⟨_, .inl (.of N6), .inl ⟨_, .inl (.of N6), ?_⟩⟩
    rw [List.length_map]
    refine ⟨by show 2 ≤ sizeLine; decide, fun l3 H7 n7 => ?_⟩
    rw [if_pos hj]
    obtain ⟨M, hM, hM3⟩ := two2 (ns.length : Int) (if (ns.length : Int) < (3 : Int) then (ns.length : Int) else (3 : Int)) _ iz.1 iz.2
    have m1 : 1 ≤ M ∧ M ≤ ns.length := by rcases hM3 with e | e <;> rw [e] <;> first | omega | (split <;> omega)
    refine ⟨_, _, .inl n7.sq, hM, ?_⟩
    have b1 := Int.emod_nonneg d (show M ≠ 0 by omega)
    have b2 := Int.emod_lt_of_pos d (show 0 < M by omega)
    have N7 := n7.same _ _ N6
    have l7 := n7.same _ _ hl
    refine ⟨.inl ⟨by trivial, _, .of l7⟩, ?_⟩
    walk_at "gs"
    refine .inl ⟨_, .inl (.of N7), ?_⟩
    rw [List.length_map]
    walk_at "gs"
    refine ⟨by show 2 ≤ sizeLine; decide, fun l4 H8 n8 => ?_⟩
    rw [if_pos hj]
    obtain ⟨x, hx, hx2⟩ := two2 (d % M) ((ns.length : Int) - 1 - d % M) _ iz.1 iz.2
    have xb : 0 ≤ x ∧ x < ns.length := by rcases hx2 with e | e <;> rw [e] <;> omega
    refine ⟨_, _, .inl n8.sq, hx, _, _, .inl (.of (n8.same _ _ N7)), atI_map ("" : Str) xb.1 xb.2, ?_⟩
    refine ⟨lp, _, _, rfl, rfl, n8.same _ _ l7, by rw [List.length_map]; omega, ?_⟩
    walk_at "gs"
    refine ⟨ps ++ [ns.getD x.toNat ""], _, _, _, ((s6.trans n7.same).trans n8.same).put (n1.same.nil n5.was), by rw [upd_same, List.map_append]; rfl, by rw [List.length_append, hlen]; rfl, fun p hp => ?_, rfl⟩
    rcases List.mem_append.mp hp with hp | hp
    ·exact hin p hp
    ·rw [List.mem_singleton.mp hp]
     exact getD_mem _ (by omega)
   ·have iz : 0 ≤ (0 : Int) ∧ (0 : Int) < 2 := by omega
    walk_at "gs"
    refine .inl ⟨_, .inl (.of N6), .inl ⟨_, .inl (.of N6), ?_⟩⟩
    rw [List.length_map]
    refine ⟨by show 2 ≤ sizeLine; decide, fun l3 H7 n7 => ?_⟩
    rw [if_neg hj]
    obtain ⟨M, hM, hM3⟩ := two2 (ns.length : Int) (if (ns.length : Int) < (3 : Int) then (ns.length : Int) else (3 : Int)) _ iz.1 iz.2
    have m1 : 1 ≤ M ∧ M ≤ ns.length := by rcases hM3 with e | e <;> rw [e] <;> first | omega | (split <;> omega)
    refine ⟨_, _, .inl n7.sq, hM, ?_⟩
    have b1 := Int.emod_nonneg d (show M ≠ 0 by omega)
    have b2 := Int.emod_lt_of_pos d (show 0 < M by omega)
    have N7 := n7.same _ _ N6
    have l7 := n7.same _ _ hl
    refine ⟨.inl ⟨by trivial, _, .of l7⟩, ?_⟩
    walk_at "gs"
    refine .inl ⟨_, .inl (.of N7), ?_⟩
    rw [List.length_map]
    walk_at "gs"
    refine ⟨by show 2 ≤ sizeLine; decide, fun l4 H8 n8 => ?_⟩
    rw [if_neg hj]
    obtain ⟨x, hx, hx2⟩ := two2 (d % M) ((ns.length : Int) - 1 - d % M) _ iz.1 iz.2
    have xb : 0 ≤ x ∧ x < ns.length := by rcases hx2 with e | e <;> rw [e] <;> omega
    refine ⟨_, _, .inl n8.sq, hx, _, _, .inl (.of (n8.same _ _ N7)), atI_map ("" : Str) xb.1 xb.2, ?_⟩
    refine ⟨lp, _, _, rfl, rfl, n8.same _ _ l7, by rw [List.length_map]; omega, ?_⟩
    walk_at "gs"
    refine ⟨ps ++ [ns.getD x.toNat ""], _, _, _, ((s6.trans n7.same).trans n8.same).put (n1.same.nil n5.was), by rw [upd_same, List.map_append]; rfl, by rw [List.length_append, hlen]; rfl, fun p hp => ?_, rfl⟩
    rcases List.mem_append.mp hp with hp | hp
    ·exact hin p hp
    ·rw [List.mem_singleton.mp hp]
     exact getD_mem _ (by omega)
  ·rintro σ H6 ⟨ps, d, v7, v8, s6, hl, hlen, hin, rfl⟩
   walk_at "gs"
   refine ⟨by show 3 ≤ sizeLine; decide, fun r H7 n7 => ?_⟩
   exact q r lp H7 w ps (s6.trans n7.same) (s6.nil n7.was) (n1.same.nil n5.was) (n7.same _ _ hl) n7.at_ (by rw [hlen]; exact hwa) (by omega) hw8 (by rw [hlen]; exact hs0) hin
def sp_law_right (a : Adr) (_ : PySem.W.Frag) : Sp := fun vs H Q _ => ∃ (r g gx gl gk q d kp dp : Addr) (m : Nat) (es ks : List En) (ts : List Int), vs = [.ref r, .int m, .ref d] ∧ H r = some (.tup [.ref g, .ref q]) ∧ H d = some (.tup [.ref kp, .ref dp]) ∧ FoldAt a.c_Fold H g m es gx gl gk ∧ PL H kp ks ∧ psOf ks = psOf es ∧ H q = some (.lst (ts.map V.int)) ∧ H dp = some (.lst (ts.map V.int)) ∧
 MF.Ok m (psOf es) ∧ (psOf es).Nodup ∧ m ≤ 10 ∧ es.length ≤ 3000 ∧ ts.length ≤ 100 ∧ gl ≠ kp ∧ gl ≠ q ∧ ∀ H', Un2 gl gk H H' → Q (.bl true) H'
theorem eq_ints {K : PySem.W.Frag} {H : Hp} {p q : Addr} {xs : List Int} (h1 : SqL K H p (xs.map V.int)) (h2 : SqL K H q (xs.map V.int)) : EqRef K H p q true := by
 refine .inl ⟨rfl, DeepEq.lst (n := 3) h1 h2 rfl fun i y z hy hz => ?_⟩
 rw [hy] at hz
 cases hz
 obtain ⟨t, rfl, _⟩ := get_int hy
 exact .flat rfl
def rd_law_right (a : Adr) (K : PySem.W.Frag) : TS := (tSeq (tAsg (cVar 2) (gTup K 2 (gCons (gName 3) (gCons (gName 4) gNil))))
  (tMid (tIfS (tOr (tNot (cTru K (tCB (cIsinst K) (tCons (cVar 0) (tCons (tC (.ty "tuple")) tNil))))) (tOr (cTst (tOp (cNe K) (tCB (cLen K) (tCons (cVar 0) tNil)) (tC (.int 2)))) (tOr (cTst (tOp (cNe K) (tFld K (tOp (cIx K) (cVar 0) (tC (.int 0))) "many") (cVar 1))) (cTst (tOp (cNe K) (tOp (cIx K) (cVar 0) (tC (.int 1))) (cVar 4)))))) (tRet (tC (.bl false))) tNext)
  (tMid (tIfS (cTst (tOp (cNe K) (tMeth a.c_Fold "total" (sp_Fold_total a K) [] E0 (tOp (cIx K) (cVar 0) (tC (.int 0))) tNil) (tOp cAdd (tOp cAdd (tC (.int 1)) (cVar 1)) (tCB (cLen K) (tCons (cVar 3) tNil))))) (tRet (tC (.bl false))) tNext)
  (tMid (tFor (iRng1 (tCons (tCB (cLen K) (tCons (cVar 3) tNil)) tNil)) (gName 5) (tSeq (tAsg (tMeth a.c_Fold "pair" (sp_Fold_pair a K) [] E0 (tOp (cIx K) (cVar 0) (tC (.int 0))) (tCons (tOp cAdd (tOp cAdd (tC (.int 1)) (cVar 1)) (cVar 5)) tNil)) (gName 6))
  (tIfS (tOr (tNot (cTru K (tCB (cIsinst K) (tCons (cVar 6) (tCons (tC (.ty "tuple")) tNil))))) (tOr (cTst (tOp (cNe K) (cVar 6) (tOp (cIx K) (cVar 3) (cVar 5)))) (tOr (cTru K (tCB (cIsinst K) (tCons (tOp (cIx K) (cVar 6) (tC (.int 0))) (tCons (tC (.ty "bool")) tNil)))) (cTru K (tCB (cIsinst K) (tCons (tOp (cIx K) (cVar 6) (tC (.int 1))) (tCons (tC (.ty "bool")) tNil))))))) (tRet (tC (.bl false))) tNext)))
  (tMid (tFor (iRng1 (tCons (tCB (cLen K) (tCons (cVar 3) tNil)) tNil)) (gName 5) (tSeq (tAsg (tOp cMul (tC (.int 2)) (tOp cAdd (tOp cAdd (tC (.int 1)) (cVar 1)) (cVar 5))) (gName 7))
  (tIfS (tOr (cTst (tOp (cNe K) (tMeth a.c_Fold "both" (sp_Fold_both a K) [] E0 (tOp (cIx K) (cVar 0) (tC (.int 0))) (tCons (tOp (cIx K) (tOp (cIx K) (cVar 3) (cVar 5)) (tC (.int 0))) (tCons (tOp (cIx K) (tOp (cIx K) (cVar 3) (cVar 5)) (tC (.int 1))) tNil))) (cVar 7))) (cTst (tOp (cNe K) (tMeth a.c_Fold "both" (sp_Fold_both a K) [] E0 (tOp (cIx K) (cVar 0) (tC (.int 0))) (tCons (tOp (cIx K) (tOp (cIx K) (cVar 3) (cVar 5)) (tC (.int 1))) (tCons (tOp (cIx K) (tOp (cIx K) (cVar 3) (cVar 5)) (tC (.int 0))) tNil))) (cVar 7)))) (tRet (tC (.bl false))) tNext)))
  (tSeq (tIfS (cTst (tOp (cNe K) (tMeth a.c_Fold "total" (sp_Fold_total a K) [] E0 (tOp (cIx K) (cVar 0) (tC (.int 0))) tNil) (tOp cAdd (tOp cAdd (tC (.int 1)) (cVar 1)) (tCB (cLen K) (tCons (cVar 3) tNil))))) (tRet (tC (.bl false))) tNext)
  (tRet (tOp (cEq K) (tCB (cLen K) (tCons (tComp (iList K (tOp (cIx K) (cVar 0) (tC (.int 1)))) 1 [] (gName 0) (tOr (cTru K (tCB (cIsinst K) (tCons (cVar 0) (tCons (tC (.ty "bool")) tNil)))) (tNot (cTru K (tCB (cIsinst K) (tCons (cVar 0) (tCons (tC (.ty "int")) tNil)))))) (cVar 0)) tNil)) (tC (.int 0))))))))))
theorem tm_law_right (T : Txt K mg a) {cdv : Value} {A : Around} {outer : List Env} {s : Shared} {H : Hp} {E : XK} (hr : Room 3 (A.deeper (envOfC "_law_right" (defScope s_law_right) s.heap.objs.size a.f_law_right cdv))) :
  PSs (cxOf CX0 P w K mg base N_law_right "_law_right" (defScope s_law_right) a.f_law_right cdv A outer s H E).nox (defBody s_law_right) (rd_law_right a K) :=
 (pss_cons (ps_asg (cv 2) (pg_tup rfl (pgs_cons (pg_name (i := 3) sc_law_right.nd rfl (by walk_at "o")) (pgs_cons (pg_name (i := 4) sc_law_right.nd rfl (by walk_at "o")) pgs_nil))))
   (pss_mid (ps_if (PW.pt (pw_or (pt_not (pt_tru (pe_callB c_isinst (by rfl) T.no_isinstance PyProof.Rows.boot_isinstance (pa_cons (cv 0) (pa_cons (pe_bltn (v := .ty "tuple") rfl T.no_tuple PyProof.Rows.boot_tuple rfl) pa_nil))))) (pw_or (t_cmp (o_ne (hr8 hr)) (pe_callB c_len (by rfl) T.no_len PySem.boot_len (pa_cons (cv 0) pa_nil)) pe_int (nomark _)) (pw_or (t_cmp (o_ne (hr8 hr)) (pe_fld (pe_ix i_seq (cv 0) pe_int (fun _ _ => rfl)) rfl) (cv 1) (nomark _)) (pw_or1 (t_cmp (o_ne (hr8 hr)) (pe_ix i_seq (cv 0) pe_int (fun _ _ => rfl)) (cv 4) (nomark _))))))) (pss_one (ps_ret pe_bl)) pss_nil)
   (pss_mid (ps_if (t_cmp (o_ne (hr8 hr)) (pe_meth0 (pe_ix i_seq (cv 0) pe_int (fun _ _ => rfl)) T.cl_Fold T.me_Fold_total (ok_Fold_total T) (hr.mono (by decide)) T.bi_Fold_total .nil pass0) (pe_op o_add (pe_op o_add pe_int (cv 1)) (pe_callB c_len (by rfl) T.no_len PySem.boot_len (pa_cons (cv 3) pa_nil))) (nomark _)) (pss_one (ps_ret pe_bl)) pss_nil)
   (pss_mid (ps_for PassesOwn.never rfl (pi_range1 rfl T.no_range (pa_cons (pe_callB c_len (by rfl) T.no_len PySem.boot_len (pa_cons (cv 3) pa_nil)) pa_nil)) (pg_name (i := 5) sc_law_right.nd rfl (by walk_at "o")) (pss_cons (ps_set (i := 6) sc_law_right.nd rfl (by walk_at "o") (pe_meth (pe_ix i_seq (cv 0) pe_int (fun _ _ => rfl)) T.cl_Fold T.me_Fold_pair (ok_Fold_pair T) (hr.mono (by decide)) T.bi_Fold_pair .nil pass0 (pa_cons (pe_op o_add (pe_op o_add pe_int (cv 1)) (cv 5)) pa_nil)))
   (pss_one (ps_if (PW.pt (pw_or (pt_not (pt_tru (pe_callB c_isinst (by rfl) T.no_isinstance PyProof.Rows.boot_isinstance (pa_cons (cv 6) (pa_cons (pe_bltn (v := .ty "tuple") rfl T.no_tuple PyProof.Rows.boot_tuple rfl) pa_nil))))) (pw_or (t_cmp (o_ne (hr8 hr)) (cv 6) (pe_ix i_seq (cv 3) (cv 5) (fun _ _ => rfl)) (nomark _)) (pw_or (pt_tru (pe_callB c_isinst (by rfl) T.no_isinstance PyProof.Rows.boot_isinstance (pa_cons (pe_ix i_seq (cv 6) pe_int (fun _ _ => rfl)) (pa_cons (pe_bltn (v := .ty "bool") rfl T.no_bool PyProof.Rows.boot_bool rfl) pa_nil)))) (pw_or1 (pt_tru (pe_callB c_isinst (by rfl) T.no_isinstance PyProof.Rows.boot_isinstance (pa_cons (pe_ix i_seq (cv 6) pe_int (fun _ _ => rfl)) (pa_cons (pe_bltn (v := .ty "bool") rfl T.no_bool PyProof.Rows.boot_bool rfl) pa_nil))))))))) (pss_one (ps_ret pe_bl)) pss_nil))))
   (pss_mid (ps_for PassesOwn.never rfl (pi_range1 rfl T.no_range (pa_cons (pe_callB c_len (by rfl) T.no_len PySem.boot_len (pa_cons (cv 3) pa_nil)) pa_nil)) (pg_name (i := 5) sc_law_right.nd rfl (by walk_at "o")) (pss_cons (ps_set (i := 7) sc_law_right.nd rfl (by walk_at "o") (pe_op o_mul pe_int (pe_op o_add (pe_op o_add pe_int (cv 1)) (cv 5))))
   (pss_one (ps_if (PW.pt (pw_or (t_cmp (o_ne (hr8 hr)) (pe_meth (pe_ix i_seq (cv 0) pe_int (fun _ _ => rfl)) T.cl_Fold T.me_Fold_both (ok_Fold_both T) (hr.mono (by decide)) T.bi_Fold_both .nil pass0 (pa_cons (pe_ix i_seq (pe_ix i_seq (cv 3) (cv 5) (fun _ _ => rfl)) pe_int (fun _ _ => rfl)) (pa_cons (pe_ix i_seq (pe_ix i_seq (cv 3) (cv 5) (fun _ _ => rfl)) pe_int (fun _ _ => rfl)) pa_nil))) (cv 7) (nomark _)) (pw_or1 (t_cmp (o_ne (hr8 hr)) (pe_meth (pe_ix i_seq (cv 0) pe_int (fun _ _ => rfl)) T.cl_Fold T.me_Fold_both (ok_Fold_both T) (hr.mono (by decide)) T.bi_Fold_both .nil pass0 (pa_cons (pe_ix i_seq (pe_ix i_seq (cv 3) (cv 5) (fun _ _ => rfl)) pe_int (fun _ _ => rfl)) (pa_cons (pe_ix i_seq (pe_ix i_seq (cv 3) (cv 5) (fun _ _ => rfl)) pe_int (fun _ _ => rfl)) pa_nil))) (cv 7) (nomark _))))) (pss_one (ps_ret pe_bl)) pss_nil))))
   (pss_cons (ps_if (t_cmp (o_ne (hr8 hr)) (pe_meth0 (pe_ix i_seq (cv 0) pe_int (fun _ _ => rfl)) T.cl_Fold T.me_Fold_total (ok_Fold_total T) (hr.mono (by decide)) T.bi_Fold_total .nil pass0) (pe_op o_add (pe_op o_add pe_int (cv 1)) (pe_callB c_len (by rfl) T.no_len PySem.boot_len (pa_cons (cv 3) pa_nil))) (nomark _)) (pss_one (ps_ret pe_bl)) pss_nil)
   (pss_one (ps_ret (pe_cmpR (o_eq (hr8 hr)) (pe_callB c_len (by rfl) T.no_len PySem.boot_len (pa_cons (pe_comp (N := ["_law_tie"]) (k := 1) (sel := []) (CScope.of (defScope s_law_right).names (by decide +kernel)) (CNames.of N_law_right (by decide +kernel)) rfl (pi_list (pe_ix i_seq (cv 0) pe_int (fun _ _ => rfl))) (fun _ _ _ _ => (pg_name (i := 0) (show List.Nodup (["_law_tie"] : List Str) by decide +kernel) rfl (by walk_at "o"))) (fun _ _ _ _ => (pts_one (PW.pt (pw_or (pt_tru (pe_callB c_isinst (by rfl) T.no_isinstance PyProof.Rows.boot_isinstance (pa_cons (cv 0) (pa_cons (pe_bltn (v := .ty "bool") rfl T.no_bool PyProof.Rows.boot_bool rfl) pa_nil)))) (pw_or1 (pt_not (pt_tru (pe_callB c_isinst (by rfl) T.no_isinstance PyProof.Rows.boot_isinstance (pa_cons (cv 0) (pa_cons (pe_bltn (v := .ty "int") rfl T.no_int PyProof.Rows.boot_int rfl) pa_nil)))))))))) (fun _ _ _ _ => (cv 0))) pa_nil)) pe_int (nomark _))))))))))
theorem ok_law_right (T : Txt K mg a) : FnOk P w K mg base CX0 4 a.f_law_right a.d_law_right ["_law_found", "_law_many", "_law_due_here"] (sp_law_right a K) := by
 refine T.fn_law_right.ok sc_law_right (fun vs H Q E h => ?_) (fun cdv A outer s H vs Q E hr h => ⟨_, tm_law_right T hr, ?_⟩)
 ·obtain ⟨r, g, gx, gl, gk, q, d, kp, dp, m, es, ks, ts, rfl, _⟩ := h; rfl
 ·obtain ⟨r, g, gx, gl, gk, q, d, kp, dp, m, es, ks, ts, rfl, hr', hd, hf, hP, hps, hq, hdp, ok, nd, m10, hz, htz, n1, n2, k⟩ := h
  show rd_law_right a K _ [some (.ref r), some (.int m), some (.ref d), none, none, none, none, none] H
  unfold rd_law_right
  have big : (20000 : Nat) ≤ sizeLine := by decide
  have hl : ks.length = es.length := by have := congrArg List.length hps; rw [List.length_map, List.length_map] at this; exact this
  walk_at "gs"
  refine ⟨d, _, rfl, .of hd, rfl, _, _, rfl, _, _, rfl, rfl, ?_⟩
  walk_at "gs"
  refine mid (fun σ' H' => H = H' ∧ σ' = [some (.ref r), some (.int m), some (.ref d), some (.ref kp), some (.ref dp), none, none, none]) ?_ ?_
  ·intro N hN
   walk_at "gs"
   refine ⟨_, true, .tup hr', rfl, ?_⟩
   walk_at "gs"
   refine .inl ⟨_, .inr (.of hr'), ?_⟩
   walk_at "gs"
   refine ⟨_, _, .inr (.of hr'), rfl, g, a.c_Fold, gx, _, _, rfl, hf.ins, T.cl_Fold, T.na_Fold_many, rfl, ?_⟩
   walk_at "gs"
   refine ⟨_, _, .inr (.of hr'), rfl, ?_⟩
   walk_at "gs"
   refine ⟨true, eq_ints (.of hq) (.of hdp), ?_⟩
   walk_at "gs"
   exact hN _ _ ⟨rfl, rfl⟩
  rintro σ1 H1 ⟨rfl, rfl⟩
  refine mid (fun σ' H' => H = H' ∧ σ' = [some (.ref r), some (.int m), some (.ref d), some (.ref kp), some (.ref dp), none, none, none]) ?_ ?_
  ·intro N hN
   walk_at "gs"
   refine ⟨_, _, .inr (.of hr'), rfl, g, gx, _, rfl, hf.ins, rfl, g, gx, gl, gk, m, es, rfl, hf, ?_⟩
   walk_at "gs"
   refine .inl ⟨_, .inl (.of hP.lst), ?_⟩
   rw [List.length_map, hl]
   walk_at "gs"
   exact hN _ _ ⟨rfl, rfl⟩
  rintro σ1 H1 ⟨rfl, rfl⟩
  refine mid (fun σ' H' => H = H' ∧ ∃ v5 v6, σ' = [some (.ref r), some (.int m), some (.ref d), some (.ref kp), some (.ref dp), v5, v6, none]) ?_ ?_
  ·intro N hN
   walk_at "gs"
   refine .inl ⟨_, .inl (.of hP.lst), ?_⟩
   rw [List.length_map, hl]
   walk_at "gs"
   rw [Int.toNat_natCast]
   refine for_rngG (fun i σ H2 => H = H2 ∧ ∃ v5 v6, σ = [some (.ref r), some (.int m), some (.ref d), some (.ref kp), some (.ref dp), v5, v6, none]) ⟨rfl, _, _, rfl⟩ ?_ ?_
   ·rintro i σ H2 hi ⟨rfl, v5, v6, rfl⟩
    have hil : i < ks.length := by omega
    have hee : es[i]? = some es[i] := List.getElem?_eq_getElem hi
    have ex : (ks[i]).2 = (es[i]).2 := by
     have h1 := congrArg (fun l => l[i]?) hps
     simp only [List.getElem?_map, List.getElem?_eq_getElem hi, List.getElem?_eq_getElem hil, Option.map_some] at h1
     exact Option.some.inj h1
    have t1 := hf.prs.tup _ (List.getElem_mem hi)
    have t2 := hP.tup _ (List.getElem_mem hil)
    rw [ex] at t2
    walk_at "gs"
    refine ⟨_, _, .inr (.of hr'), rfl, g, gx, _, rfl, hf.ins, rfl, ?_⟩
    walk_at "gs"
    refine ⟨g, gx, gl, gk, m, _, es, rfl, hf, by omega, by omega, fun z => absurd z (by omega), fun e' _ he' => ?_⟩
    rw [show (1 + (m : Int) + (0 + (i : Int)) - (m : Int) - 1).toNat = i by omega, hee] at he'
    cases he'
    walk_at "gs"
    refine ⟨_, true, .tup t1, rfl, ?_⟩
    walk_at "gs"
    refine ⟨_, _, .inl (.of hP.lst), atI_ok .non (by omega) (by rw [List.length_map]; omega), ?_⟩
    rw [show (0 + (i : Int)).toNat = i by omega, getD_refs ks _ hil]
    walk_at "gs"
    refine ⟨true, eq_tup (.of t1) (.of t2) rfl, ?_⟩
    walk_at "gs"
    refine ⟨_, _, .inr (.of t1), rfl, _, false, .int _, rfl, ?_⟩
    walk_at "gs"
    refine ⟨_, _, .inr (.of t1), rfl, _, false, .int _, rfl, ?_⟩
    walk_at "go"
    first | exact ⟨trivial, _, _, rfl⟩ | exact ⟨rfl, _, _, rfl⟩
   ·rintro σ H2 ⟨rfl, v5, v6, rfl⟩
    exact hN _ _ ⟨rfl, _, _, rfl⟩
  rintro σ1 H1 ⟨rfl, v5, v6, rfl⟩
  refine mid (fun σ' H' => Un2 gl gk H H' ∧ (∃ es2, FoldAt a.c_Fold H' g m es2 gx gl gk ∧ psOf es2 = psOf es) ∧ PL H' kp ks ∧ ∃ v5 v6 v7, σ' = [some (.ref r), some (.int m), some (.ref d), some (.ref kp), some (.ref dp), v5, v6, v7]) ?_ ?_
  ·intro N hN
   walk_at "gs"
   refine .inl ⟨_, .inl (.of hP.lst), ?_⟩
   rw [List.length_map]
   walk_at "gs"
   rw [Int.toNat_natCast]
   refine for_rngG (fun i σ H2 => Un2 gl gk H H2 ∧ (∃ es2, FoldAt a.c_Fold H2 g m es2 gx gl gk ∧ psOf es2 = psOf es) ∧ PL H2 kp ks ∧ ∃ v5 v6 v7, σ = [some (.ref r), some (.int m), some (.ref d), some (.ref kp), some (.ref dp), v5, v6, v7]) ⟨Un2.refl, ⟨es, hf, rfl⟩, hP, _, _, _, rfl⟩ ?_ ?_
   ·rintro i σ H2 hi ⟨u2, ⟨es2, F2, hp2⟩, P2, v5, v6, v7, rfl⟩
    have hl2 : es2.length = es.length := by have := congrArg List.length hp2; rw [List.length_map, List.length_map] at this; exact this
    have hpe : (psOf es)[i]? = some (ks[i]).2 := by rw [← hps, List.getElem?_map, List.getElem?_eq_getElem hi]; rfl
    obtain ⟨o1, o2, o3, o4⟩ := ok _ _ hpe
    obtain ⟨t1, t2, t3, t4⟩ := MF.bt_told ok nd hpe
    have te := P2.tup _ (List.getElem_mem hi)
    have gr := getD_refs ks _ hi
    have ga : atI (ks.map fun e => V.ref e.1) (0 + (i : Int)) = some (.ref (ks[i]).1) := by
     rw [atI_ok .non (by omega) (by rw [List.length_map]; omega), show (0 + (i : Int)).toNat = i by omega, gr]
    have hmem := List.getElem_mem hi
    have r2 := u2 _ _ (ne_of hr' hf.prs.lst (fun z => nomatch z)) (ne_of hr' hf.prs.dct (fun z => nomatch z)) hr'
    generalize hE : ks[i] = e at *
    walk_at "gs"
    refine ⟨_, _, .inr (.of r2), rfl, g, gx, _, rfl, F2.ins, rfl, _, _, .inl (.of P2.lst), ga, ?_⟩
    walk_at "gs"
    refine ⟨_, _, .inr (.of te), rfl, _, _, .inl (.of P2.lst), ga, ?_⟩
    walk_at "gs"
    refine ⟨_, _, .inr (.of te), rfl, g, gx, gl, gk, m, e.2.1, e.2.2, es2, rfl, F2, by omega, by omega, by omega, by omega, by omega, fun H3 es3 u3 F3 q3 => ?_⟩
    rw [hp2, t2] at q3
    rw [hp2, t1]
    have P3 := P2.un F2.prs.lst F2.prs.dct n1.symm u3
    have hl3 : es3.length = es.length := by have := congrArg List.length q3; rw [List.length_map, List.length_map] at this; exact this
    have te3 := P3.tup _ hmem
    have r3 := u3 _ _ (ne_of r2 F2.prs.lst (fun z => nomatch z)) (ne_of r2 F2.prs.dct (fun z => nomatch z)) r2
    walk_at "gs"
    rw [if_neg (by simp)]
    refine ⟨_, _, .inr (.of r3), rfl, g, gx, _, rfl, F3.ins, rfl, _, _, .inl (.of P3.lst), ga, ?_⟩
    walk_at "gs"
    refine ⟨_, _, .inr (.of te3), rfl, _, _, .inl (.of P3.lst), ga, ?_⟩
    walk_at "gs"
    refine ⟨_, _, .inr (.of te3), rfl, g, gx, gl, gk, m, e.2.2, e.2.1, es3, rfl, F3, by omega, by omega, by omega, by omega, by omega, fun H4 es4 u4 F4 q4 => ?_⟩
    rw [q3, t4] at q4
    rw [q3, t3]
    walk_at "gs"
    rw [if_neg (by simp)]
    exact ⟨(u2.trans u3).trans u4, ⟨es4, F4, q4⟩, P3.un F3.prs.lst F3.prs.dct n1.symm u4, _, _, _, rfl⟩
   ·rintro σ H2 ⟨u2, hF2, P2, v5, v6, v7, rfl⟩
    exact hN _ _ ⟨u2, hF2, P2, _, _, _, rfl⟩
  rintro σ2 H2 ⟨u2, ⟨es2, F2, hp2⟩, P2, v5, v6, v7, rfl⟩
  have hl2 : es2.length = es.length := by have := congrArg List.length hp2; rw [List.length_map, List.length_map] at this; exact this
  have r2 := u2 _ _ (ne_of hr' hf.prs.lst (fun z => nomatch z)) (ne_of hr' hf.prs.dct (fun z => nomatch z)) hr'
  have q2 := u2 _ _ n2.symm (ne_of hq hf.prs.dct (fun z => nomatch z)) hq
  walk_at "gs"
  refine ⟨_, _, .inr (.of r2), rfl, g, gx, _, rfl, F2.ins, rfl, g, gx, gl, gk, m, es2, rfl, F2, ?_⟩
  walk_at "gs"
  refine .inl ⟨_, .inl (.of P2.lst), ?_⟩
  rw [List.length_map, hl, hl2]
  walk_at "gs"
  refine ⟨_, _, .inr (.of r2), rfl, ?_⟩
  walk_at "gs"
  refine ⟨⟨_, .of q2⟩, compG_filter (fun _ => false) (fun v => v) (.of q2) rfl (by rw [List.length_map]; omega) ?_ ?_ ?_⟩
  ·intro x H' Q' hx s' q'
   obtain ⟨t, _, rfl⟩ := List.mem_map.mp hx
   walk_at "gs"
   refine ⟨_, false, .int t, rfl, ?_⟩
   walk_at "gs"
   refine ⟨_, true, .int t, rfl, ?_⟩
   walk_at "gs"
   exact q'
  ·intro x H' Q' hx hq' s' q'
   exact q'
  ·intro l3 H3 n3
   walk_at "gs"
   refine .inl ⟨_, .inl n3.sq, ?_⟩
   have : ((ts.map V.int).filter fun _ => false) = [] := by rw [List.filter_eq_nil_iff]; intro a _; simp
   rw [this]
   walk_at "gs"
   exact k H3 (u2.trans n3.same.un)
def someS : Str := "jackdawslovemybigsphinxofquartz"
def s8a : Str := "abcdefgh"
def s8b : Str := "ijklmnop"
theorem some_cps : someS.cps.toList = [106, 97, 99, 107, 100, 97, 119, 115, 108, 111, 118, 101, 109, 121, 98, 105, 103, 115, 112, 104, 105, 110, 120, 111, 102, 113, 117, 97, 114, 116, 122] := by decide +kernel
theorem s8a_cps : s8a.cps.toList = (List.range 8).map (97 + ·) := by decide +kernel
theorem s8b_cps : s8b.cps.toList = (List.range 8).map (105 + ·) := by decide +kernel
theorem some_at {i : Int} (h0 : 0 ≤ i) (h1 : i < 31) : ∃ c, atI someS.cps.toList i = some c := by
 rw [atI_ok 0 h0 (by rw [some_cps]; exact h1)]
 exact ⟨_, rfl⟩
theorem s8a_at {i : Int} (h0 : 0 ≤ i) (h1 : i < 8) : atI s8a.cps.toList i = some (97 + i.toNat) := by
 rw [s8a_cps, atI_map 0 h0 (by rw [List.length_range]; exact h1)]
 have : i.toNat < 8 := by omega
 simp [List.getD, this]
theorem s8b_at {i : Int} (h0 : 0 ≤ i) (h1 : i < 8) : atI s8b.cps.toList i = some (105 + i.toNat) := by
 rw [s8b_cps, atI_map 0 h0 (by rw [List.length_range]; exact h1)]
 have : i.toNat < 8 := by omega
 simp [List.getD, this]
def gnm (k : Nat) : Str := "g" ++ (⟨#[97 + k % 8]⟩ : Str) ++ (⟨#[105 + k / 8]⟩ : Str)
theorem gnm_cps (k : Nat) : (gnm k).cps.toList = [103, 97 + k % 8, 105 + k / 8] := by
 unfold gnm
 rw [cps_app, cps_app]
 rfl
theorem gnm_inj {k j : Nat} (h : gnm k = gnm j) : k = j := by
 have e := congrArg (fun z : Str => z.cps.toList) h
 simp only [gnm_cps, List.cons.injEq, and_true] at e
 omega
def InN (z : Str) : Prop := ∃ c d : Nat, z.cps.toList = [c, 111, d]
theorem inN_ne {z : Str} (h : InN z) (k : Nat) : z ≠ gnm k := by
 intro e
 obtain ⟨c, d, h⟩ := h
 rw [e, gnm_cps] at h
 simp only [List.cons.injEq] at h
 omega
theorem swP_low {m : Nat} {P : List MF.Pr} {ts : List Int} (h : ∀ t ∈ ts, (t / 2).toNat ≤ m) : MF.swP m P ts = [] := by
 refine MF.kept_none (fun i => ?_) _
 cases e : MF.need m P ts (m + 1 + i) with
 | false => rfl
 | true =>
  have := MF.need_least (S := fun k => k ≤ m) h (fun j p hp hs => by omega) e
  omega
def Sure (m : Nat) (st : FdT) (ss : List Str) : Prop := ∀ n ∈ ss, ∃ t, ME.vS st.1 n = some t ∧ (t / 2).toNat ≤ m
theorem Sure.start {m : Nat} {ins : List Str} (hm : ins.length = m) : Sure m (fdC m ins []) ins := by
 intro n hn
 have h0 := fd0_ok ins
 obtain ⟨v, hv⟩ := h0.kn n hn
 have := h0.inn n v hv
 refine ⟨v, hv, ?_⟩
 have h2 := this.2
 simp only [List.length_nil] at h2
 omega
theorem Sure.step {m : Nat} {st : FdT} {ss : List Str} (h : Sure m st ss) {g : Gt} (hn : g.1 ∉ ss) : Sure m (fdS m st g) ss := by
 intro n hm
 obtain ⟨t, h1, h2⟩ := h n hm
 refine ⟨t, ?_, h2⟩
 show ME.vS (ME.pS st.1 g.1 _) n = some t
 rw [ME.vS_pS, if_neg (fun z : n = g.1 => hn (z ▸ hm))]
 exact h1
theorem Sure.more {m : Nat} {st : FdT} {ss : List Str} (h : Sure m st ss) {g : Gt} (hn : g.1 ∉ ss) (h0 : g.2.2 = []) (hw : g.2.1 = "yes" ∨ g.2.1 = "no") : Sure m (fdS m st g) (ss ++ [g.1]) := by
 intro n hm
 rcases List.mem_append.mp hm with hm | hm
 ·exact h.step hn n hm
 ·rw [List.mem_singleton] at hm
  subst hm
  refine ⟨(fdR m st g).1, ?_, ?_⟩
  ·show ME.vS (ME.pS st.1 g.1 _) g.1 = _
   rw [ME.vS_pS, if_pos rfl]
  ·unfold fdR gtR
   rcases hw with e | e <;> rw [e]
   ·rw [if_neg (by decide +kernel), if_neg (by decide +kernel), if_neg (by decide +kernel), if_neg (by decide +kernel), if_neg (by decide +kernel), if_neg (by decide +kernel), if_pos rfl]
    show ((1 : Int) / 2).toNat ≤ m
    exact Nat.zero_le _
   ·rw [if_neg (by decide +kernel), if_neg (by decide +kernel), if_neg (by decide +kernel), if_neg (by decide +kernel), if_neg (by decide +kernel), if_neg (by decide +kernel), if_neg (by decide +kernel)]
    show ((0 : Int) / 2).toNat ≤ m
    exact Nat.zero_le _
theorem at_neg1V {xs : List V} {y : V} : atI (xs ++ [y]) (-1) = some y := by
 have hl : (xs ++ [y]).length = xs.length + 1 := by rw [List.length_append]; rfl
 unfold atI ixN
 rw [hl, if_neg (by decide), if_pos (by omega)]
 show (xs ++ [y])[((-1 : Int) + ((xs.length + 1 : Nat) : Int)).toNat]? = _
 rw [show ((-1 : Int) + ((xs.length + 1 : Nat) : Int)).toNat = xs.length by omega, List.getElem?_append_right (Nat.le_refl _), Nat.sub_self]
 rfl
theorem deep_strs {K : PySem.W.Frag} {H : Hp} {p q : Addr} {n : Nat} {xs : List Str} (h1 : SqL K H p (xs.map V.str)) (h2 : SqL K H q (xs.map V.str)) : DeepEq K H (n + 1) (.ref p) (.ref q) := by
 refine DeepEq.lst h1 h2 rfl fun i y z hy hz => ?_
 rw [hy] at hz
 cases hz
 obtain ⟨s, _, rfl⟩ := get_map_of hy
 exact .flat rfl
def sp_law (K : PySem.W.Frag) : Sp := fun vs H Q _ => ∃ (p : Addr) (ns : List Int), vs = [.ref p] ∧ SqL K H p (ns.map V.int) ∧ ns.length ≤ 63 ∧ ∀ H', Q (.bl true) H'
def rd_law (a : Adr) (K : PySem.W.Frag) : TS := (tSeq (tAsg (tOp cAdd (tC (.int 1)) (tOp (cI2c (fun _ j => 0 < j) fun i j => .int (i % j)) (tCall (sp_law_cell_at K) [] E0 (tCons (cVar 0) (tCons (tC (.int 0)) tNil))) (tC (.int 10)))) (gName 1))
  (tSeq (tAsg (tC (.str "jackdawslovemybigsphinxofquartz")) (gName 2))
  (tSeq (tAsg (tComp (iRng1 (tCons (cVar 1) tNil)) 1 [2] (gName 0) tTrue (tOp cAdd (tOp cAdd (tOp (cIx K) (cVar 1) (cVar 0)) (tC (.str "o"))) (tOp (cIx K) (cVar 1) (tOp (cI2 fun i j => .int (i - j)) (tC (.int 30)) (cVar 0))))) (gName 3))
  (tSeq (tAsg (tCB (cList K) (tCons (cVar 3) tNil)) (gName 4))
  (tSeq (tAsg (tLst tNil) (gName 5))
  (tSeq (tAsg (tCB (cList K) (tCons (cVar 3) tNil)) (gName 6))
  (tMid (tFor (iRng2 (tCons (tC (.int 3)) (tCons (tCB cMin (tCons (tCB (cLen K) (tCons (cVar 0) tNil)) (tCons (tC (.int 50)) tNil))) tNil))) (gName 7) (tSeq (tAsg (tOp cAdd (tCall (sp_law_cell_at K) [] E0 (tCons (cVar 0) (tCons (cVar 7) tNil))) (tOp cMul (tC (.int 10)) (cVar 7))) (gName 8))
  (tSeq (tAsg (tOp cAdd (tOp cAdd (tC (.str "g")) (tOp (cIx K) (tC (.str "abcdefgh")) (tOp (cI2c (fun _ j => 0 < j) fun i j => .int (i % j)) (cVar 7) (tC (.int 8))))) (tOp (cIx K) (tC (.str "ijklmnop")) (tOp (cI2c CDiv fun i j => .int (i / j)) (cVar 7) (tC (.int 8))))) (gName 9))
  (tSeq (tDrop (tBM K "list" rAppend (cVar 5) (tCons (tCall (sp_law_gate K) [] E0 (tCons (cVar 9) (tCons (cVar 8) (tCons (cVar 3) tNil)))) tNil)))
  (tSeq (tDrop (tBM K "list" rAppend (cVar 3) (tCons (cVar 9) tNil)))
  (tIfS (cTst (tOp (cEq K) (tCB (cLen K) (tCons (tOp (cIx K) (tOp (cIx K) (cVar 5) (tUn cNeg (tC (.int 1)))) (tC (.int 2))) tNil)) (tC (.int 0)))) (tDrop (tBM K "list" rAppend (cVar 6) (tCons (cVar 9) tNil))) tNext))))))
  (tSeq (tAsg (tCall (sp_law_cell_at K) [] E0 (tCons (cVar 0) (tCons (tC (.int 2)) tNil))) (gName 8))
  (tSeq (tAsg (tCall (sp_law_outputs K) [] E0 (tCons (cVar 8) (tCons (tOp cAdd (tC (.int 1)) (tOp (cI2c (fun _ j => 0 < j) fun i j => .int (i % j)) (tCall (sp_law_cell_at K) [] E0 (tCons (cVar 0) (tCons (tC (.int 1)) tNil))) (tC (.int 16)))) (tCons (cVar 3) tNil)))) (gName 10))
  (tSeq (tAsg (tLst (tCons (tCB (cList K) (tCons (cVar 4) tNil)) (tCons (tCB (cList K) (tCons (cVar 5) tNil)) (tCons (tCB (cList K) (tCons (cVar 10) tNil)) tNil)))) (gName 11))
  (tSeq (tAsg (tCall (sp_folded a K) [] E0 (tCons (tMake a.c_Net (sp_Net___init__ a K) [] E0 (tCons (tOp (cIx K) (cVar 11) (tC (.int 0))) (tCons (tOp (cIx K) (cVar 11) (tC (.int 1))) (tCons (tOp (cIx K) (cVar 11) (tC (.int 2))) tNil)))) tNil)) (gName 12))
  (tMid (tIfS (tOr (tNot (cTru K (tCall (sp_law_right a K) [] E0 (tCons (cVar 12) (tCons (cVar 1) (tCons (tCall (sp_law_folded K) [] E0 (tCons (cVar 1) (tCons (cVar 5) (tCons (cVar 3) (tCons (cVar 10) tNil))))) tNil)))))) (cTst (tOp (cNe K) (cVar 11) (tLst (tCons (cVar 4) (tCons (cVar 5) (tCons (cVar 10) tNil))))))) (tRet (tC (.bl false))) tNext)
  (tSeq (tAsg (tComp (iRng1 (tCons (tC (.int 5)) tNil)) 1 [6, 8] (gName 0) tTrue (tOp (cIx K) (cVar 1) (tOp (cI2c (fun _ j => 0 < j) fun i j => .int (i % j)) (tOp (cI2c (fun _ j => 0 ≤ j) fun i j => .int (i / 2 ^ j.toNat)) (cVar 2) (tOp cMul (tC (.int 4)) (cVar 0))) (tCB (cLen K) (tCons (cVar 1) tNil))))) (gName 10))
  (tSeq (tAsg (tCall (sp_folded a K) [] E0 (tCons (tMake a.c_Net (sp_Net___init__ a K) [] E0 (tCons (cVar 4) (tCons (cVar 5) (tCons (cVar 10) tNil)))) tNil)) (gTup K 2 (gCons (gName 13) (gCons (gName 14) gNil))))
  (tRet (cAndV (tOp (cEq K) (tFld K (cVar 13) "many") (cVar 1)) (cAndV (tOp (cEq K) (tMeth a.c_Fold "total" (sp_Fold_total a K) [] E0 (cVar 13) tNil) (tOp cAdd (tC (.int 1)) (cVar 1))) (tOp (cEq K) (tCB (cLen K) (tCons (cVar 14) tNil)) (tC (.int 5))))))))))))))))))))
theorem tm_law (T : Txt K mg a) {cdv : Value} {A : Around} {outer : List Env} {s : Shared} {H : Hp} {E : XK} (hr : Room 9 (A.deeper (envOfC "law" (defScope s_law) s.heap.objs.size a.f_law cdv))) :
  PSs (cxOf CX0 P w K mg base N_law "law" (defScope s_law) a.f_law cdv A outer s H E).nox (defBody s_law) (rd_law a K) :=
 (pss_cons (ps_set (i := 1) sc_law.nd rfl (by walk_at "o") (pe_op o_add pe_int (pe_op o_mod (pe_call (ok_law_cell_at T) (hr.mono (by decide)) rfl T.mg_law_cell_at T.fn_law_cell_at.kp T.bi_law_cell_at .nil pass0 (pa_cons (cv 0) (pa_cons pe_int pa_nil))) pe_int)))
   (pss_cons (ps_set (i := 2) sc_law.nd rfl (by walk_at "o") pe_str)
   (pss_cons (ps_setC (i := 3) (N := ["_law_k", "_law_some"]) (k := 1) (sel := [2]) (CScope.of (defScope s_law).names (by decide +kernel)) (CNames.of N_law (by decide +kernel)) rfl (pi_range1 rfl T.no_range (pa_cons (cv 1) pa_nil)) (fun _ _ _ _ => (pg_name (i := 0) (show List.Nodup (["_law_k", "_law_some"] : List Str) by decide +kernel) rfl (by walk_at "o"))) (fun _ _ _ _ => pts_nil) (fun _ _ _ _ => (pe_op o_add (pe_op o_add (pe_ix i_seq (cv 1) (cv 0) (fun _ _ => rfl)) pe_str) (pe_ix i_seq (cv 1) (pe_op o_sub pe_int (cv 0)) (fun _ _ => rfl)))) sc_law.nd rfl (by walk_at "o") rfl)
   (pss_cons (ps_set (i := 4) sc_law.nd rfl (by walk_at "o") (pe_callTy c_list (by rfl) T.no_list PyProof.Rows.boot_list (pa_cons (cv 3) pa_nil)))
   (pss_cons (ps_set (i := 5) sc_law.nd rfl (by walk_at "o") (pe_lst pa_nil))
   (pss_cons (ps_set (i := 6) sc_law.nd rfl (by walk_at "o") (pe_callTy c_list (by rfl) T.no_list PyProof.Rows.boot_list (pa_cons (cv 3) pa_nil)))
   (pss_mid (ps_for PassesOwn.never rfl (pi_range2 rfl T.no_range (pa_cons pe_int (pa_cons (pe_callB (c_min rfl) (by rfl) T.no_min PyProof.Rows.boot_min (pa_cons (pe_callB c_len (by rfl) T.no_len PySem.boot_len (pa_cons (cv 0) pa_nil)) (pa_cons pe_int pa_nil))) pa_nil))) (pg_name (i := 7) sc_law.nd rfl (by walk_at "o")) (pss_cons (ps_set (i := 8) sc_law.nd rfl (by walk_at "o") (pe_op o_add (pe_call (ok_law_cell_at T) (hr.mono (by decide)) rfl T.mg_law_cell_at T.fn_law_cell_at.kp T.bi_law_cell_at .nil pass0 (pa_cons (cv 0) (pa_cons (cv 7) pa_nil))) (pe_op o_mul pe_int (cv 7))))
   (pss_cons (ps_set (i := 9) sc_law.nd rfl (by walk_at "o") (pe_op o_add (pe_op o_add pe_str (pe_ix i_seq pe_str (pe_op o_mod (cv 7) pe_int) (fun _ _ => rfl))) (pe_ix i_seq pe_str (pe_op o_fdiv (cv 7) pe_int) (fun _ _ => rfl))))
   (pss_cons (ps_expr (pe_bm PySem.F.plainAttrs_list PySem.F.slot_list_append PySem.F.type_list_append (mtr mt_append) (cv 5) (pa_cons (pe_call (ok_law_gate T) (hr.mono (by decide)) rfl T.mg_law_gate T.fn_law_gate.kp T.bi_law_gate .nil pass0 (pa_cons (cv 9) (pa_cons (cv 8) (pa_cons (cv 3) pa_nil)))) pa_nil)))
   (pss_cons (ps_expr (pe_bm PySem.F.plainAttrs_list PySem.F.slot_list_append PySem.F.type_list_append (mtr mt_append) (cv 3) (pa_cons (cv 9) pa_nil)))
   (pss_one (ps_if (t_cmp (o_eq (hr8 hr)) (pe_callB c_len (by rfl) T.no_len PySem.boot_len (pa_cons (pe_ix i_seq (pe_ix i_seq (cv 5) (pe_un u_neg pe_int) (fun _ _ => rfl)) pe_int (fun _ _ => rfl)) pa_nil)) pe_int (nomark _)) (pss_one (ps_expr (pe_bm PySem.F.plainAttrs_list PySem.F.slot_list_append PySem.F.type_list_append (mtr mt_append) (cv 6) (pa_cons (cv 9) pa_nil)))) pss_nil)))))))
   (pss_cons (ps_set (i := 8) sc_law.nd rfl (by walk_at "o") (pe_call (ok_law_cell_at T) (hr.mono (by decide)) rfl T.mg_law_cell_at T.fn_law_cell_at.kp T.bi_law_cell_at .nil pass0 (pa_cons (cv 0) (pa_cons pe_int pa_nil))))
   (pss_cons (ps_set (i := 10) sc_law.nd rfl (by walk_at "o") (pe_call (ok_law_outputs T) (hr.mono (by decide)) rfl T.mg_law_outputs T.fn_law_outputs.kp T.bi_law_outputs .nil pass0 (pa_cons (cv 8) (pa_cons (pe_op o_add pe_int (pe_op o_mod (pe_call (ok_law_cell_at T) (hr.mono (by decide)) rfl T.mg_law_cell_at T.fn_law_cell_at.kp T.bi_law_cell_at .nil pass0 (pa_cons (cv 0) (pa_cons pe_int pa_nil))) pe_int)) (pa_cons (cv 3) pa_nil)))))
   (pss_cons (ps_set (i := 11) sc_law.nd rfl (by walk_at "o") (pe_lst (pa_cons (pe_callTy c_list (by rfl) T.no_list PyProof.Rows.boot_list (pa_cons (cv 4) pa_nil)) (pa_cons (pe_callTy c_list (by rfl) T.no_list PyProof.Rows.boot_list (pa_cons (cv 5) pa_nil)) (pa_cons (pe_callTy c_list (by rfl) T.no_list PyProof.Rows.boot_list (pa_cons (cv 10) pa_nil)) pa_nil)))))
   (pss_cons (ps_set (i := 12) sc_law.nd rfl (by walk_at "o") (pe_call (ok_folded T) (hr.mono (by decide)) rfl T.mg_folded T.fn_folded.kp T.bi_folded .nil pass0 (pa_cons (pe_make T.mk_Net (ok_Net___init__ T) (hr.mono (by decide)) rfl T.mg_Net T.bi_Net___init__ .nil pass0 (pa_cons (pe_ix i_seq (cv 11) pe_int (fun _ _ => rfl)) (pa_cons (pe_ix i_seq (cv 11) pe_int (fun _ _ => rfl)) (pa_cons (pe_ix i_seq (cv 11) pe_int (fun _ _ => rfl)) pa_nil)))) pa_nil)))
   (pss_mid (ps_if (PW.pt (pw_or (pt_not (pt_tru (pe_call (ok_law_right T) (hr.mono (by decide)) rfl T.mg_law_right T.fn_law_right.kp T.bi_law_right .nil pass0 (pa_cons (cv 12) (pa_cons (cv 1) (pa_cons (pe_call (ok_law_folded T) (hr.mono (by decide)) rfl T.mg_law_folded T.fn_law_folded.kp T.bi_law_folded .nil pass0 (pa_cons (cv 1) (pa_cons (cv 5) (pa_cons (cv 3) (pa_cons (cv 10) pa_nil))))) pa_nil)))))) (pw_or1 (t_cmp (o_ne (hr8 hr)) (cv 11) (pe_lst (pa_cons (cv 4) (pa_cons (cv 5) (pa_cons (cv 10) pa_nil)))) (nomark _))))) (pss_one (ps_ret pe_bl)) pss_nil)
   (pss_cons (ps_setC (i := 10) (N := ["_law_j", "_law_sure", "_law_cell"]) (k := 1) (sel := [6, 8]) (CScope.of (defScope s_law).names (by decide +kernel)) (CNames.of N_law (by decide +kernel)) rfl (pi_range1 rfl T.no_range (pa_cons pe_int pa_nil)) (fun _ _ _ _ => (pg_name (i := 0) (show List.Nodup (["_law_j", "_law_sure", "_law_cell"] : List Str) by decide +kernel) rfl (by walk_at "o"))) (fun _ _ _ _ => pts_nil) (fun _ _ _ _ => (pe_ix i_seq (cv 1) (pe_op o_mod (pe_op o_shr (cv 2) (pe_op o_mul pe_int (cv 0))) (pe_callB c_len (by rfl) T.no_len PySem.boot_len (pa_cons (cv 1) pa_nil))) (fun _ _ => rfl))) sc_law.nd rfl (by walk_at "o") rfl)
   (pss_cons (ps_asg (pe_call (ok_folded T) (hr.mono (by decide)) rfl T.mg_folded T.fn_folded.kp T.bi_folded .nil pass0 (pa_cons (pe_make T.mk_Net (ok_Net___init__ T) (hr.mono (by decide)) rfl T.mg_Net T.bi_Net___init__ .nil pass0 (pa_cons (cv 4) (pa_cons (cv 5) (pa_cons (cv 10) pa_nil)))) pa_nil)) (pg_tup rfl (pgs_cons (pg_name (i := 13) sc_law.nd rfl (by walk_at "o")) (pgs_cons (pg_name (i := 14) sc_law.nd rfl (by walk_at "o")) pgs_nil))))
   (pss_one (ps_ret (e_and (pe_cmpR (o_eq (hr8 hr)) (pe_fld (cv 13) rfl) (cv 1) (nomark _)) (e_and (pe_cmpR (o_eq (hr8 hr)) (pe_meth0 (cv 13) T.cl_Fold T.me_Fold_total (ok_Fold_total T) (hr.mono (by decide)) T.bi_Fold_total .nil pass0) (pe_op o_add pe_int (cv 1)) (nomark _)) (pe_one (pe_cmpR (o_eq (hr8 hr)) (pe_callB c_len (by rfl) T.no_len PySem.boot_len (pa_cons (cv 14) pa_nil)) pe_int (nomark _)))))))))))))))))))))
theorem ok_law (T : Txt K mg a) : FnOk P w K mg base CX0 10 a.f_law a.d_law ["_law_script"] (sp_law K) := by
 refine T.fn_law.ok sc_law (fun vs H Q E h => ?_) (fun cdv A outer s H vs Q E hr h => ⟨_, tm_law T hr, ?_⟩)
 ·obtain ⟨p, ns, rfl, _⟩ := h; rfl
 ·obtain ⟨p, ns, rfl, hS, hl, k⟩ := h
  show rd_law a K _ [some (.ref p), none, none, none, none, none, none, none, none, none, none, none, none, none, none] H
  unfold rd_law
  have big : (20000 : Nat) ≤ sizeLine := by decide
  walk_at "gs"
  refine ⟨p, ns, 0, rfl, hS, fun c0 hc0 => ?_⟩
  walk_at "gs"
  obtain ⟨m, hm⟩ := Int.eq_ofNat_of_zero_le (by omega : 0 ≤ 1 + c0 % 10)
  rw [hm]
  have m1 : 1 ≤ m := by omega
  have m10 : m ≤ 10 := by omega
  walk_at "gs"
  rw [Int.toNat_natCast]
  refine fun np hnp => comp_gen (n := m) (item := fun i => .int ((0 : Int) + (i : Nat))) (fun σ => ∃ v, σ = [v, some (.str someS)]) (fun i H3 => (∃ xs : List Str, H3 np = some (.lst (xs.map V.str)) ∧ xs.length = i ∧ ∀ x ∈ xs, InN x) ∧ Same H H3) ⟨_, rfl⟩ ⟨⟨[], upd_same, rfl, fun x hx => by simp at hx⟩, same_upd hnp⟩ ?_ ?_ ?_ ?_
  ·intro i H3 hi _
   exact ⟨hi, fun x H4 hy => hy⟩
  ·intro H3 _
   exact Nat.le_refl _
  ·rintro i σ2 H3 R hi ⟨v, rfl⟩ ⟨⟨xs, h1, hxl, hxi⟩, s3⟩ hR
   obtain ⟨c, hc⟩ := some_at (i := (0 : Int) + (i : Int)) (by omega) (by omega)
   obtain ⟨d, hd⟩ := some_at (i := 30 - ((0 : Int) + (i : Int))) (by omega) (by omega)
   walk_at "gs"
   refine ⟨c, hc, by show 1 + 1 ≤ sizeLine; omega, by decide, d, hd, by rw [PySem.Str.length_append]; show 1 + 1 + 1 ≤ sizeLine; omega, ?_⟩
   refine ⟨_, h1, by rw [List.length_map]; omega, hR _ _ ⟨_, rfl⟩ ⟨⟨xs ++ [((⟨#[c]⟩ : Str) ++ ("o" : Str) ++ (⟨#[d]⟩ : Str) : Str)], by rw [upd_same, List.map_append]; rfl, by rw [List.length_append, hxl]; rfl, fun x hx => ?_⟩, s3.put hnp⟩⟩
   rcases List.mem_append.mp hx with hx | hx
   ·exact hxi x hx
   ·rw [List.mem_singleton] at hx
    subst hx
    exact ⟨c, d, by rw [cps_app, cps_app]; rfl⟩
  rintro H3 ⟨⟨ins, h3, hil, hii⟩, s3⟩
  walk_at "gs"
  refine ⟨_, .inl (.of h3), fun ip H4 n4 => ?_⟩
  walk_at "gs"
  intro gp H5 n5
  walk_at "gs"
  have h5 := n5.same _ _ (n4.same _ _ h3)
  refine ⟨_, .inl (.of h5), fun sp H6 n6 => ?_⟩
  have np6 := n6.same _ _ h5
  have ip6 := n6.same _ _ (n5.same _ _ n4.at_)
  have gp6 := n6.same _ _ n5.at_
  have s06 : Same H H6 := ((s3.trans n4.same).trans n5.same).trans n6.same
  have d1 : np ≠ ip := ne_of_none h3 n4.was
  have d2 : np ≠ gp := ne_of_none (n4.same _ _ h3) n5.was
  have d3 : np ≠ sp := ne_of_none h5 n6.was
  have d4 : ip ≠ gp := ne_of_none n4.at_ n5.was
  have d5 : ip ≠ sp := ne_of_none (n5.same _ _ n4.at_) n6.was
  have d6 : gp ≠ sp := ne_of_none n5.at_ n6.was
  have f3 : H gp = none := s3.nil (n4.same.nil n5.was)
  have f4 : H sp = none := s3.nil (n4.same.nil (n5.same.nil n6.was))
  have sc : Scr K H6 p (ns.map V.int) (fun b => b = np ∨ b = gp ∨ b = sp) := by
   refine (Scr.of hS ?_).keep s06.keep
   rintro b (rfl | rfl | rfl)
   ·exact hnp
   ·exact f3
   ·exact f4
  walk_at "gs"
  refine mid (fun σ' H' => ∃ (gs : List Gt) (gv : List V) (ss : List Str) (v7 v8 v9 : Option V), H' np = some (.lst ((ins ++ gs.map (·.1)).map V.str)) ∧ H' ip = some (.lst (ins.map V.str)) ∧ H' gp = some (.lst gv) ∧ H' sp = some (.lst (ss.map V.str)) ∧ GtsAt (fun b => b ≠ np ∧ b ≠ gp ∧ b ≠ sp) K H' gv gs ∧ gs.length ≤ 60 ∧ 1 ≤ ss.length ∧ ss.length ≤ 100 ∧
   ME.WG WdA ins gs ∧ (∀ g ∈ gs, g.2.1 ∈ words8) ∧ Sure m (fdC m ins gs) ss ∧ (∀ n ∈ ss, n ∈ ins ++ gs.map (·.1)) ∧ Scr K H' p (ns.map V.int) (fun b => b = np ∨ b = gp ∨ b = sp) ∧
   σ' = [some (.ref p), some (.int m), some (.str someS), some (.ref np), some (.ref ip), some (.ref gp), some (.ref sp), v7, v8, v9, none, none, none, none, none]) ?_ ?_
  ·intro N hN
   walk_at "gs"
   refine .inl ⟨_, .inl sc.sq, ?_⟩
   rw [List.length_map]
   walk_at "gs"
   generalize hR : (if (50 : Int) < ns.length then (50 : Int) else ns.length) = R
   have hR1 : R ≤ 50 := by rw [← hR]; split <;> omega
   have hR0 : 0 ≤ R := by rw [← hR]; split <;> omega
   walk_at "gs"
   refine for_rngG (fun i σ H7 => ∃ (gs : List Gt) (gv : List V) (ss : List Str) (v7 v8 v9 : Option V), H7 np = some (.lst ((ins ++ gs.map (·.1)).map V.str)) ∧ H7 ip = some (.lst (ins.map V.str)) ∧ H7 gp = some (.lst gv) ∧ H7 sp = some (.lst (ss.map V.str)) ∧ GtsAt (fun b => b ≠ np ∧ b ≠ gp ∧ b ≠ sp) K H7 gv gs ∧ gs.length = i ∧ 1 ≤ ss.length ∧ ss.length ≤ 10 + i ∧
    ME.WG WdA ins gs ∧ (∀ g ∈ gs, g.2.1 ∈ words8) ∧ Sure m (fdC m ins gs) ss ∧ (∀ n ∈ ss, n ∈ ins ++ gs.map (·.1)) ∧ (∀ n ∈ gs.map (·.1), ∃ j, j < 3 + i ∧ n = gnm j) ∧ Scr K H7 p (ns.map V.int) (fun b => b = np ∨ b = gp ∨ b = sp) ∧
    σ = [some (.ref p), some (.int m), some (.str someS), some (.ref np), some (.ref ip), some (.ref gp), some (.ref sp), v7, v8, v9, none, none, none, none, none])
    ⟨[], [], ins, none, none, none, by rw [List.map_nil, List.append_nil]; exact np6, ip6, gp6, n6.at_, GtsAt.nil, rfl, by omega, by omega, trivial, (fun g hg => by simp at hg), Sure.start hil, (fun n hn => by simpa using hn), (fun n hn => by simp at hn), sc, rfl⟩ ?_ ?_
   ·rintro i σ H7 hi ⟨gs, gv, ss, v7, v8, v9, np7, ip7, gp7, sp7, G7, hgl, hs1, hs2, hW, hw8, hsu, hss, hgn, sc7, rfl⟩
    have hnew : gnm (3 + i) ∉ ins ++ gs.map (·.1) := fun h => by
     rcases List.mem_append.mp h with h | h
     ·exact inN_ne (hii _ h) _ rfl
     ·obtain ⟨j, hj, e⟩ := hgn _ h
      have := gnm_inj e
      omega
    have hnl : (ins ++ gs.map (·.1)).length = m + i := by rw [List.length_append, List.length_map]; omega
    have ha := s8a_at (i := (3 + (i : Int)) % 8) (by omega) (by omega)
    have hb := s8b_at (i := (3 + (i : Int)) / 8) (by omega) (by omega)
    have eg : ((("g" : Str) ++ (⟨#[97 + ((3 + (i : Int)) % 8).toNat]⟩ : Str)) ++ (⟨#[105 + ((3 + (i : Int)) / 8).toNat]⟩ : Str) : Str) = gnm (3 + i) := by
     unfold gnm
     rw [show ((3 + (i : Int)) % 8).toNat = (3 + i) % 8 by omega, show ((3 + (i : Int)) / 8).toNat = (3 + i) / 8 by omega]
    walk_at "gs"
    refine ⟨p, ns, 3 + i, by simp, sc7.sq, fun c hc => ?_⟩
    walk_at "gs"
    refine ⟨_, ha, by show 1 + 1 ≤ sizeLine; omega, ?_⟩
    walk_at "gs"
    refine ⟨_, hb, by rw [PySem.Str.length_append]; show 1 + 1 + 1 ≤ sizeLine; omega, ?_⟩
    rw [eg]
    walk_at "gs"
    refine ⟨.inl ⟨by trivial, _, .of gp7⟩, gnm (3 + i), _, np, ins ++ gs.map (·.1), rfl, np7, by omega, by omega, fun r lp H8 w ps s8 fr fl al ar hw h6 h8 h0 hin => ?_⟩
    have np8 := s8 _ _ np7
    have gp8 := s8 _ _ gp7
    have sp8 := s8 _ _ sp7
    have e1 : lp ≠ np := (ne_of_none np7 fl).symm
    have e2 : lp ≠ gp := (ne_of_none gp7 fl).symm
    have e3 : lp ≠ sp := (ne_of_none sp7 fl).symm
    have r1 : r ≠ np := (ne_of_none np7 fr).symm
    have r2 : r ≠ gp := (ne_of_none gp7 fr).symm
    have r3 : r ≠ sp := (ne_of_none sp7 fr).symm
    have hgv : gv.length = i := by rw [G7.1, hgl]
    refine ⟨gp, _, _, rfl, rfl, gp8, by omega, ?_⟩
    have k1 : ∀ {b : Addr} {o : HO}, b ≠ gp → H8 b = some o → upd H8 gp (.lst (gv ++ [.ref r])) b = some o := fun n e => by rw [upd_ne n]; exact e
    have gp9 : upd H8 gp (.lst (gv ++ [.ref r])) gp = some (.lst (gv ++ [.ref r])) := upd_same
    have np9 := k1 d2 np8
    have sp9 := k1 d6.symm sp8
    have ip9 := k1 d4 (s8 _ _ ip7)
    have al9 := k1 e2 al
    have ar9 := k1 r2 ar
    have K9 : Keep (fun b => b ≠ np ∧ b ≠ gp ∧ b ≠ sp) H7 (upd H8 gp (.lst (gv ++ [.ref r]))) := fun b o nb e => k1 nb.2.1 (s8 _ _ e)
    generalize upd H8 gp (.lst (gv ++ [.ref r])) = H9 at gp9 np9 sp9 ip9 al9 ar9 K9 ⊢
    walk_at "gs"
    refine ⟨.inl ⟨by trivial, _, .of np9⟩, np, _, _, rfl, rfl, np9, by rw [List.length_map]; omega, ?_⟩
    have ens : (ins ++ gs.map (·.1)).map V.str ++ [V.str (gnm (3 + i))] = (ins ++ (gs ++ [(gnm (3 + i), w, ps)]).map (·.1)).map V.str := by simp only [List.map_append, List.map_cons, List.map_nil, List.append_assoc]
    rw [ens]
    have k2 : ∀ {b : Addr} {o : HO}, b ≠ np → H9 b = some o → upd H9 np (.lst ((ins ++ (gs ++ [(gnm (3 + i), w, ps)]).map (·.1)).map V.str)) b = some o := fun n e => by rw [upd_ne n]; exact e
    have np10 : upd H9 np (.lst ((ins ++ (gs ++ [(gnm (3 + i), w, ps)]).map (·.1)).map V.str)) np = some (.lst ((ins ++ (gs ++ [(gnm (3 + i), w, ps)]).map (·.1)).map V.str)) := upd_same
    have gp10 := k2 d2.symm gp9
    have sp10 := k2 d3.symm sp9
    have ip10 := k2 d1.symm ip9
    have al10 := k2 e1 al9
    have ar10 := k2 r1 ar9
    have K10 : Keep (fun b => b ≠ np ∧ b ≠ gp ∧ b ≠ sp) H7 (upd H9 np (.lst ((ins ++ (gs ++ [(gnm (3 + i), w, ps)]).map (·.1)).map V.str))) := fun b o nb e => k2 nb.1 (K9 b o nb e)
    generalize upd H9 np (.lst ((ins ++ (gs ++ [(gnm (3 + i), w, ps)]).map (·.1)).map V.str)) = H10 at np10 gp10 sp10 ip10 al10 ar10 K10 ⊢
    have hW' : ME.WG WdA ins (gs ++ [(gnm (3 + i), w, ps)]) := ME.WG_snoc _ _ _ hW hin hw h6
    have hw8' : ∀ g ∈ gs ++ [(gnm (3 + i), w, ps)], g.2.1 ∈ words8 := fun g hg => by
     rcases List.mem_append.mp hg with hg | hg
     ·exact hw8 g hg
     ·rw [List.mem_singleton] at hg; subst hg; exact h8
    have ef : fdC m ins (gs ++ [(gnm (3 + i), w, ps)]) = fdS m (fdC m ins gs) (gnm (3 + i), w, ps) := by unfold fdC; rw [List.foldl_append]; rfl
    have hns : gnm (3 + i) ∉ ss := fun z => hnew (hss _ z)
    have hss' : ∀ n ∈ ss, n ∈ ins ++ (gs ++ [(gnm (3 + i), w, ps)]).map (·.1) := fun n hn => by rw [List.map_append, ← List.append_assoc]; exact List.mem_append_left _ (hss n hn)
    have hgn' : ∀ n ∈ (gs ++ [(gnm (3 + i), w, ps)]).map (·.1), ∃ j, j < 3 + (i + 1) ∧ n = gnm j := fun n hn => by
     rw [List.map_append] at hn
     rcases List.mem_append.mp hn with hn | hn
     ·obtain ⟨j, hj, e⟩ := hgn n hn; exact ⟨j, by omega, e⟩
     ·simp only [List.map_cons, List.map_nil, List.mem_singleton] at hn
      exact ⟨3 + i, by omega, hn⟩
    have G10 : GtsAt (fun b => b ≠ np ∧ b ≠ gp ∧ b ≠ sp) K H10 (gv ++ [.ref r]) (gs ++ [(gnm (3 + i), w, ps)]) := (G7.keep K10).snoc (g := (gnm (3 + i), w, ps)) ⟨r1, r2, r3⟩ ⟨e1, e2, e3⟩ (.of ar10) (.of al10)
    have sc10 := sc7.keep (H' := H10) fun b o nb e => K10 b o ⟨fun z => nb (.inl z), fun z => nb (.inr (.inl z)), fun z => nb (.inr (.inr z))⟩ e
    have hg1 : (gs ++ [(gnm (3 + i), w, ps)]).length = i + 1 := by rw [List.length_append, hgl]; rfl
    have hmemg : gnm (3 + i) ∈ ins ++ (gs ++ [(gnm (3 + i), w, ps)]).map (·.1) := by rw [List.map_append, ← List.append_assoc]; exact List.mem_append_right _ (List.mem_singleton.mpr rfl)
    clear k1 k2 K9 K10 np9 sp9 ip9 al9 ar9 gp9 ens
    generalize gs ++ [(gnm (3 + i), w, ps)] = gs' at *
    walk_at "gs"
    refine ⟨_, _, .inl (.of gp10), at_neg1V, ?_⟩
    walk_at "gs"
    refine ⟨_, _, .inr (.of ar10), rfl, ?_⟩
    walk_at "gs"
    refine .inl ⟨_, .inl (.of al10), ?_⟩
    rw [List.length_map]
    by_cases hz : (ps.length : Int) = 0
    ·rw [if_pos hz]
     walk_at "gs"
     have hp0 : ps = [] := List.length_eq_zero_iff.mp (by omega)
     refine ⟨.inl ⟨by trivial, _, .of sp10⟩, sp, _, _, rfl, rfl, sp10, by rw [List.length_map]; omega, ?_⟩
     have k3 : ∀ {b : Addr} {o : HO}, b ≠ sp → H10 b = some o → upd H10 sp (.lst (ss.map V.str ++ [.str (gnm (3 + i))])) b = some o := fun n e => by rw [upd_ne n]; exact e
     refine ⟨gs', _, ss ++ [gnm (3 + i)], _, _, _, k3 d3 np10, k3 d5 ip10, k3 d6 gp10, by rw [upd_same, List.map_append]; rfl, G10.keep fun b o nb e => k3 nb.2.2 e, hg1, by rw [List.length_append]; omega, by rw [List.length_append, List.length_singleton]; omega, hW', hw8', by rw [ef]; exact hsu.more hns hp0 (h0 (by omega)), fun n hn => ?_, hgn', sc10.keep fun b o nb e => k3 (fun z => nb (.inr (.inr z))) e, rfl⟩
     rcases List.mem_append.mp hn with hn | hn
     ·exact hss' n hn
     ·rw [List.mem_singleton] at hn
      subst hn
      exact hmemg
    ·rw [if_neg hz]
     exact ⟨gs', _, ss, _, _, _, np10, ip10, gp10, sp10, G10, hg1, hs1, by omega, hW', hw8', by rw [ef]; exact hsu.step hns, hss', hgn', sc10, rfl⟩
   ·rintro σ H7 ⟨gs, gv, ss, v7, v8, v9, np7, ip7, gp7, sp7, G7, hgl, hs1, hs2, hW, hw8, hsu, hss, hgn, sc7, rfl⟩
    exact hN _ _ ⟨gs, gv, ss, _, _, _, np7, ip7, gp7, sp7, G7, by omega, hs1, by omega, hW, hw8, hsu, hss, sc7, rfl⟩
  rintro σ7 H7 ⟨gs, gv, ss, v7, v8, v9, np7, ip7, gp7, sp7, G7, hgl, hs1, hs2, hW, hw8, hsu, hss, sc7, rfl⟩
  have hnl : (ins ++ gs.map (·.1)).length = m + gs.length := by rw [List.length_append, List.length_map]; omega
  have hgvl : gv.length = gs.length := G7.1
  have fok : FdOk m (0 + gs.length) (ins ++ gs.map (·.1)) (fdC m ins gs) := by have h0 := fd0_ok ins; rw [hil] at h0; exact fd_all (by omega) gs 0 ins _ hW h0
  walk_at "gs"
  refine ⟨p, ns, 2, rfl, sc7.sq, fun c hc => ?_⟩
  walk_at "gs"
  refine ⟨p, ns, 1, rfl, sc7.sq, fun c1 hc1 => ?_⟩
  walk_at "gs"
  obtain ⟨no, hno⟩ := Int.eq_ofNat_of_zero_le (by omega : 0 ≤ 1 + c1 % 16)
  rw [hno]
  refine ⟨_, no, np, ins ++ gs.map (·.1), rfl, np7, by omega, by omega, by omega, fun op H8 os n8 hol hin => ?_⟩
  have ip8 := n8.same _ _ ip7
  have gp8 := n8.same _ _ gp7
  have sp8 := n8.same _ _ sp7
  have np8 := n8.same _ _ np7
  have G8 := (G7.same n8.same).weak (N' := fun _ => True) fun _ _ => trivial
  walk_at "gs"
  refine ⟨_, .inl (.of ip8), fun ia H9 n9 => ⟨_, .inl (.of (n9.same _ _ gp8)), fun ga H10 n10 => ⟨_, .inl (.of (n10.same _ _ (n9.same _ _ n8.at_))), fun oa H11 n11 => ?_⟩⟩⟩
  have s811 := (n9.same.trans n10.same).trans n11.same
  have ia11 := n11.same _ _ (n10.same _ _ n9.at_)
  have ga11 := n11.same _ _ n10.at_
  refine ⟨by show 3 ≤ sizeLine; decide, fun hd H12 n12 => ?_⟩
  have ia12 := n12.same _ _ ia11
  have ga12 := n12.same _ _ ga11
  have oa12 := n12.same _ _ n11.at_
  have s812 := s811.trans n12.same
  have G12 := G8.same s812
  walk_at "gs"
  refine ⟨_, _, .inl n12.sq, rfl, ?_⟩
  walk_at "gs"
  refine ⟨_, _, .inl n12.sq, rfl, ?_⟩
  walk_at "gs"
  refine ⟨_, _, .inl n12.sq, rfl, ?_⟩
  intro x dx hx hdx hne
  have sx : Same H12 (upd (upd H12 dx (.own x)) x (.ins a.c_Net dx [])) := fun b o e => by
   rw [upd_ne (ne_of_none e hx), upd_ne (ne_of_none e hdx)]; exact e
  refine ⟨x, dx, ia, ga, oa, ins, gs, os, gv, rfl, upd_same, .of (sx _ _ ia12), .of (sx _ _ ga12), G12.same sx, .of (sx _ _ oa12), by omega, by omega, by omega, fun H13 k13 N13 => ⟨rfl, ?_⟩⟩
  have s13 : Same H12 H13 := fun b o e => k13 b o (ne_of_none e hx) (sx b o e)
  have hwo : ∀ o ∈ os, o ∈ ins ++ gs.map (·.1) := hin
  refine ⟨x, ins, gs, os, rfl, N13, hW, hwo, by omega, by omega, by omega, fun H14 r14 g gx gl gk q14 es14 s14 _ hgl14 hgk14 hq14 F14 p14 a14 t14 hglq => ?_⟩
  rw [hil] at F14 p14 a14
  have s814 := (s812.trans s13).trans s14
  have tis : MF.Tis m (fdC m ins gs).2 (ME.outsOf 0 (fdC m ins gs).1 os) := fok.args hwo
  walk_at "gs"
  refine mid (fun σ' H' => H' ip = some (.lst (ins.map V.str)) ∧ H' gp = some (.lst gv) ∧ H' sp = some (.lst (ss.map V.str)) ∧ GtsAt (fun _ => True) K H' gv gs ∧ σ' = [some (.ref p), some (.int m), some (.str someS), some (.ref np), some (.ref ip), some (.ref gp), some (.ref sp), v7, some (.int c), v9, some (.ref op), some (.ref hd), some (.ref r14), none, none]) ?_ ?_
  ·intro N hN
   walk_at "gs"
   refine ⟨m, gp, np, op, ins, gs.map (·.1), gs, gv, os, rfl, s814 _ _ gp8, G8.same s814, s814 _ _ np8, hil, s814 _ _ n8.at_, hW, hw8, hwo, m10, by omega, by omega, by rw [List.length_map]; omega, fun H15 r15 kp dp ks s15 hkp hdp K15 p15 d15 t15 => ?_⟩
   have F15 := F14.same s15
   have hlen : es14.length ≤ 3000 := by
    have h1 := congrArg List.length p14
    have h2 := MF.swP_len m (fdC m ins gs).2 (ME.outsOf 0 (fdC m ins gs).1 os)
    have h3 := fok.len
    rw [List.length_map] at h1
    omega
   walk_at "gs"
   refine ⟨r14, g, gx, gl, gk, q14, r15, kp, dp, m, es14, ks, _, rfl, s15 _ _ t14, t15, F15, K15, by rw [p15, p14], s15 _ _ a14, d15, by rw [p14]; exact MF.swP_ok fok.ok _, by rw [p14]; exact MF.swP_nd fok.ok fok.nd _, m10, hlen, by unfold MF.swT ME.outsOf; rw [List.length_map, List.length_map]; omega, ne_of_none F14.prs.lst hkp, hglq, fun H16 u16 => ?_⟩
   have s16 : Same H13 H16 := fun b o e => u16 b o (ne_of_none e hgl14) (ne_of_none e hgk14) (s15 _ _ (s14 _ _ e))
   walk_at "gs"
   rw [if_neg (by simp)]
   refine ⟨by show 3 ≤ sizeLine; decide, fun cp H17 n17 => ?_⟩
   have s17 : Same H12 H17 := s13.trans (s16.trans n17.same)
   have s87 := s812.trans s17
   have G17 := G12.same s17
   refine ⟨true, .inl ⟨rfl, DeepEq.lst (n := 3) (.of (s17 _ _ n12.at_)) (.of n17.at_) rfl fun j y z hy hz => ?_⟩, ?_⟩
   ·match j, hy, hz with
    | 0, hy, hz => cases hy; cases hz; exact deep_strs (.of (s17 _ _ ia12)) (.of (s87 _ _ ip8))
    | 1, hy, hz =>
     cases hy; cases hz
     refine DeepEq.lst (n := 2) (.of (s17 _ _ ga12)) (.of (s87 _ _ gp8)) rfl fun i y z hy hz => ?_
     have hi : i < gs.length := by rw [← hgvl]; exact (List.getElem?_eq_some_iff.mp hy).1
     obtain ⟨t, qq, e1, _, _, e2, e3⟩ := G17.2 i gs[i] (by simp [hi])
     rw [hy] at hz e1
     cases hz
     cases e1
     refine DeepEq.tup (n := 1) e2 e2 rfl fun i y z hy hz => ?_
     match i, hy, hz with
     | 0, hy, hz => cases hy; cases hz; exact .flat rfl
     | 1, hy, hz => cases hy; cases hz; exact .flat rfl
     | 2, hy, hz => cases hy; cases hz; exact deep_strs e3 e3
     | n + 3, hy, _ => simp at hy
    | 2, hy, hz => cases hy; cases hz; exact deep_strs (.of (s17 _ _ oa12)) (.of (s87 _ _ n8.at_))
    | n + 3, hy, _ => simp at hy
   ·rw [if_neg (by simp)]
    exact hN _ _ ⟨s87 _ _ ip8, s87 _ _ gp8, s87 _ _ sp8, G17, rfl⟩
  rintro σ8 H8' ⟨ip9, gp9, sp9, G9, rfl⟩
  walk_at "gs"
  refine fun op2 hop2 => comp_gen (n := 5) (item := fun i => .int ((0 : Int) + (i : Nat))) (fun σ => ∃ v, σ = [v, some (.ref sp), some (.int c)]) (fun i H3 => (∃ xs : List Str, H3 op2 = some (.lst (xs.map V.str)) ∧ xs.length = i ∧ ∀ x ∈ xs, x ∈ ss) ∧ Same H8' H3) ⟨_, rfl⟩ ⟨⟨[], upd_same, rfl, fun x hx => by simp at hx⟩, same_upd hop2⟩ ?_ ?_ ?_ ?_
  ·intro i H3 hi _
   exact ⟨hi, fun x H4 hy => hy⟩
  ·intro H3 _
   exact Nat.le_refl _
  ·rintro i σ2 H3 R hi ⟨v, rfl⟩ ⟨⟨xs, h1, hxl, hxi⟩, s3⟩ hR
   have sp3 := s3 _ _ sp9
   walk_at "gs"
   refine .inl ⟨_, .inl (.of sp3), ?_⟩
   rw [List.length_map]
   have x1 := Int.emod_nonneg (c / 2 ^ (4 * ((0 : Int) + (i : Int))).toNat) (show (ss.length : Int) ≠ 0 by omega)
   have x2 := Int.emod_lt_of_pos (c / 2 ^ (4 * ((0 : Int) + (i : Int))).toNat) (show 0 < (ss.length : Int) by omega)
   walk_at "gs"
   generalize c / 2 ^ (4 * ((0 : Int) + (i : Int))).toNat % (ss.length : Int) = ix at x1 x2
   obtain ⟨o, ho, hat⟩ : ∃ o, o ∈ ss ∧ atI (ss.map V.str) ix = some (.str o) := by
    have hl9 : ix.toNat < ss.length := by omega
    refine ⟨ss[ix.toNat], List.getElem_mem _, ?_⟩
    rw [atI_ok .non x1 (by rw [List.length_map]; exact x2)]
    simp [List.getD, hl9]
   refine ⟨_, _, .inl (.of sp3), hat, _, h1, by rw [List.length_map]; omega, hR _ _ ⟨_, rfl⟩ ⟨⟨xs ++ [o], by rw [upd_same, List.map_append]; rfl, by rw [List.length_append, hxl]; rfl, fun x hx => ?_⟩, s3.put hop2⟩⟩
   rcases List.mem_append.mp hx with hx | hx
   ·exact hxi x hx
   ·rw [List.mem_singleton] at hx
    subst hx
    exact ho
  rintro H3 ⟨⟨os2, h3', hol2, hos2⟩, s3'⟩
  intro x2 dx2 hx2 hdx2 hne2
  have sx2 : Same H3 (upd (upd H3 dx2 (.own x2)) x2 (.ins a.c_Net dx2 [])) := fun b o e => by
   rw [upd_ne (ne_of_none e hx2), upd_ne (ne_of_none e hdx2)]; exact e
  refine ⟨x2, dx2, ip, gp, op2, ins, gs, os2, gv, rfl, upd_same, .of (sx2 _ _ (s3' _ _ ip9)), .of (sx2 _ _ (s3' _ _ gp9)), (G9.same s3').same sx2, .of (sx2 _ _ h3'), by omega, by omega, by omega, fun H23 k23 N23 => ⟨rfl, ?_⟩⟩
  have hwo2 : ∀ o ∈ os2, o ∈ ins ++ gs.map (·.1) := fun o h => hss o (hos2 o h)
  refine ⟨x2, ins, gs, os2, rfl, N23, hW, hwo2, by omega, by omega, by omega, fun H24 r24 g2 gx2 gl2 gk2 q24 es24 s24 _ _ _ _ F24 p24 a24 t24 _ => ?_⟩
  rw [hil] at F24 p24 a24
  have hlow : ∀ t ∈ ME.outsOf 0 (fdC m ins gs).1 os2, (t / 2).toNat ≤ m := by
   intro t ht
   obtain ⟨n, hn, rfl⟩ := List.mem_map.mp ht
   obtain ⟨t', h1, h2⟩ := hsu n (hos2 n hn)
   rw [h1]
   exact h2
  have he0 : es24.length = 0 := by
   have := congrArg List.length p24
   rw [List.length_map, swP_low hlow] at this
   exact this
  refine ⟨r24, _, rfl, .of t24, rfl, _, _, rfl, _, _, rfl, rfl, g2, a.c_Fold, gx2, _, _, rfl, F24.ins, T.cl_Fold, T.na_Fold_many, rfl, ?_⟩
  walk_at "gs"
  refine ⟨g2, gx2, _, rfl, F24.ins, rfl, g2, gx2, gl2, gk2, m, es24, rfl, F24, ?_⟩
  rw [he0]
  walk_at "gs"
  rw [if_pos (by omega)]
  refine .inl ⟨_, .inl (.of a24), ?_⟩
  have h5 : ((MF.swT m (fdC m ins gs).2 (ME.outsOf 0 (fdC m ins gs).1 os2)).map V.int).length = 5 := by unfold MF.swT ME.outsOf; rw [List.length_map, List.length_map, List.length_map]; exact hol2
  rw [h5]
  exact k _
theorem lenN1 {us : List Value} (h : us.length = 1) : ∃ a, us = [a] := List.length_eq_one_iff.mp h
theorem lenN2 {us : List Value} (h : us.length = 2) : ∃ a b, us = [a, b] := by
 obtain _ | ⟨a, t⟩ := us
 ·cases h
 ·obtain ⟨b, rfl⟩ := lenN1 (Nat.succ.inj h)
  exact ⟨a, b, rfl⟩
theorem lenN3 {us : List Value} (h : us.length = 3) : ∃ a b c, us = [a, b, c] := by
 obtain _ | ⟨a, t⟩ := us
 ·cases h
 ·obtain ⟨b, c, rfl⟩ := lenN2 (Nat.succ.inj h)
  exact ⟨a, b, c, rfl⟩
theorem lenN4 {us : List Value} (h : us.length = 4) : ∃ a b c d, us = [a, b, c, d] := by
 obtain _ | ⟨a, t⟩ := us
 ·cases h
 ·obtain ⟨b, c, d, rfl⟩ := lenN3 (Nat.succ.inj h)
  exact ⟨a, b, c, d, rfl⟩
theorem all_mk {l : PySem.W.OpenLaw} {w : World} {K : PySem.W.Frag} {h : Heap} {mg : Str → Option Value} {fa : Addr} (X : K.In h) (G : h.Ns mainGlobals mg) (hfa : mg "law" = some (.ref fa))
  {f0 : Addr} {od0 an0 : Option Addr} {sl0 : Array (Option Value)} {oc0 kV0 dc0 pm0 cd0 ct0 : Value} {f1 : Addr} {od1 an1 : Option Addr} {sl1 : Array (Option Value)} {oc1 kV1 dc1 pm1 cd1 ct1 : Value} {f2 : Addr} {od2 an2 : Option Addr} {sl2 : Array (Option Value)} {oc2 kV2 dc2 pm2 cd2 ct2 : Value} {f3 : Addr} {od3 an3 : Option Addr} {sl3 : Array (Option Value)} {oc3 kV3 dc3 pm3 cd3 ct3 : Value} {f4 : Addr} {od4 an4 : Option Addr} {sl4 : Array (Option Value)} {oc4 kV4 dc4 pm4 cd4 ct4 : Value} {f5 : Addr} {od5 an5 : Option Addr} {sl5 : Array (Option Value)} {oc5 kV5 dc5 pm5 cd5 ct5 : Value} {f6 : Addr} {od6 an6 : Option Addr} {sl6 : Array (Option Value)} {oc6 kV6 dc6 pm6 cd6 ct6 : Value} {f7 : Addr} {od7 an7 : Option Addr} {sl7 : Array (Option Value)} {oc7 kV7 dc7 pm7 cd7 ct7 : Value} {f8 : Addr} {od8 an8 : Option Addr} {sl8 : Array (Option Value)} {oc8 kV8 dc8 pm8 cd8 ct8 : Value} {f9 : Addr} {od9 an9 : Option Addr} {sl9 : Array (Option Value)} {oc9 kV9 dc9 pm9 cd9 ct9 : Value} {f10 : Addr} {od10 an10 : Option Addr} {sl10 : Array (Option Value)} {oc10 kV10 dc10 pm10 cd10 ct10 : Value} {f11 : Addr} {od11 an11 : Option Addr} {sl11 : Array (Option Value)} {oc11 kV11 dc11 pm11 cd11 ct11 : Value} {f12 : Addr} {od12 an12 : Option Addr} {sl12 : Array (Option Value)} {oc12 kV12 dc12 pm12 cd12 ct12 : Value} {f13 : Addr} {od13 an13 : Option Addr} {sl13 : Array (Option Value)} {oc13 kV13 dc13 pm13 cd13 ct13 : Value} {f14 : Addr} {od14 an14 : Option Addr} {sl14 : Array (Option Value)} {oc14 kV14 dc14 pm14 cd14 ct14 : Value} {f15 : Addr} {od15 an15 : Option Addr} {sl15 : Array (Option Value)} {oc15 kV15 dc15 pm15 cd15 ct15 : Value} {f16 : Addr} {od16 an16 : Option Addr} {sl16 : Array (Option Value)} {oc16 kV16 dc16 pm16 cd16 ct16 : Value} {f17 : Addr} {od17 an17 : Option Addr} {sl17 : Array (Option Value)} {oc17 kV17 dc17 pm17 cd17 ct17 : Value} {f18 : Addr} {od18 an18 : Option Addr} {sl18 : Array (Option Value)} {oc18 kV18 dc18 pm18 cd18 ct18 : Value} {f19 : Addr} {od19 an19 : Option Addr} {sl19 : Array (Option Value)} {oc19 kV19 dc19 pm19 cd19 ct19 : Value} {f20 : Addr} {od20 an20 : Option Addr} {sl20 : Array (Option Value)} {oc20 kV20 dc20 pm20 cd20 ct20 : Value} {f21 : Addr} {od21 an21 : Option Addr} {sl21 : Array (Option Value)} {oc21 kV21 dc21 pm21 cd21 ct21 : Value} {f22 : Addr} {od22 an22 : Option Addr} {sl22 : Array (Option Value)} {oc22 kV22 dc22 pm22 cd22 ct22 : Value} {f23 : Addr} {od23 an23 : Option Addr} {sl23 : Array (Option Value)} {oc23 kV23 dc23 pm23 cd23 ct23 : Value} {f24 : Addr} {od24 an24 : Option Addr} {sl24 : Array (Option Value)} {oc24 kV24 dc24 pm24 cd24 ct24 : Value} {f25 : Addr} {od25 an25 : Option Addr} {sl25 : Array (Option Value)} {oc25 kV25 dc25 pm25 cd25 ct25 : Value} {f26 : Addr} {od26 an26 : Option Addr} {sl26 : Array (Option Value)} {oc26 kV26 dc26 pm26 cd26 ct26 : Value} {f27 : Addr} {od27 an27 : Option Addr} {sl27 : Array (Option Value)} {oc27 kV27 dc27 pm27 cd27 ct27 : Value} {f28 : Addr} {od28 an28 : Option Addr} {sl28 : Array (Option Value)} {oc28 kV28 dc28 pm28 cd28 ct28 : Value} {C_Fold : Addr} {C_Net : Addr} {ug_ALWAYS : Tok} {ug_NEVER : Tok}
  (aC_Fold : PySem.W.nsIn K mainGlobals "Fold" = some (some (.ref C_Fold)))
  (aC_Net : PySem.W.nsIn K mainGlobals "Net" = some (some (.ref C_Net)))
  (a0 : PySem.W.nsIn K mainGlobals "reached" = some (some (.ref f0)))
  (l0 : K.lookup f0 = some ⟨oc0, od0, .func (PySem.W.fnOf "reached" "reached" (defArgs s_reached) (defBody s_reached) (defScope s_reached) .none kV0 dc0 pm0 an0 cd0 ct0), sl0⟩)
  (c0 : PySem.W.codeIn K cd0 "reached" = true)
  (k0 : PySem.W.keepIn K (.ref f0) = true)
  (a1 : PySem.W.nsIn K mainGlobals "turned" = some (some (.ref f1)))
  (l1 : K.lookup f1 = some ⟨oc1, od1, .func (PySem.W.fnOf "turned" "turned" (defArgs s_turned) (defBody s_turned) (defScope s_turned) .none kV1 dc1 pm1 an1 cd1 ct1), sl1⟩)
  (c1 : PySem.W.codeIn K cd1 "turned" = true)
  (k1 : PySem.W.keepIn K (.ref f1) = true)
  (a2 : PySem.W.findIn K (.ref C_Fold) "__init__" = some (some (.ref f2)))
  (i2 : PySem.W.isFn K (.ref f2) = true)
  (l2 : K.lookup f2 = some ⟨oc2, od2, .func (PySem.W.fnOf "__init__" "Fold.__init__" (defArgs s_Fold___init__) (defBody s_Fold___init__) (defScope s_Fold___init__) .none kV2 dc2 pm2 an2 cd2 ct2), sl2⟩)
  (c2 : PySem.W.codeIn K cd2 "Fold.__init__" = true)
  (k2 : PySem.W.keepIn K (.ref f2) = true)
  (a3 : PySem.W.findIn K (.ref C_Fold) "total" = some (some (.ref f3)))
  (i3 : PySem.W.isFn K (.ref f3) = true)
  (l3 : K.lookup f3 = some ⟨oc3, od3, .func (PySem.W.fnOf "total" "Fold.total" (defArgs s_Fold_total) (defBody s_Fold_total) (defScope s_Fold_total) .none kV3 dc3 pm3 an3 cd3 ct3), sl3⟩)
  (c3 : PySem.W.codeIn K cd3 "Fold.total" = true)
  (k3 : PySem.W.keepIn K (.ref f3) = true)
  (a4 : PySem.W.findIn K (.ref C_Fold) "has_tie" = some (some (.ref f4)))
  (i4 : PySem.W.isFn K (.ref f4) = true)
  (l4 : K.lookup f4 = some ⟨oc4, od4, .func (PySem.W.fnOf "has_tie" "Fold.has_tie" (defArgs s_Fold_has_tie) (defBody s_Fold_has_tie) (defScope s_Fold_has_tie) .none kV4 dc4 pm4 an4 cd4 ct4), sl4⟩)
  (c4 : PySem.W.codeIn K cd4 "Fold.has_tie" = true)
  (k4 : PySem.W.keepIn K (.ref f4) = true)
  (a5 : PySem.W.findIn K (.ref C_Fold) "pair" = some (some (.ref f5)))
  (i5 : PySem.W.isFn K (.ref f5) = true)
  (l5 : K.lookup f5 = some ⟨oc5, od5, .func (PySem.W.fnOf "pair" "Fold.pair" (defArgs s_Fold_pair) (defBody s_Fold_pair) (defScope s_Fold_pair) .none kV5 dc5 pm5 an5 cd5 ct5), sl5⟩)
  (c5 : PySem.W.codeIn K cd5 "Fold.pair" = true)
  (k5 : PySem.W.keepIn K (.ref f5) = true)
  (a6 : PySem.W.findIn K (.ref C_Fold) "both" = some (some (.ref f6)))
  (i6 : PySem.W.isFn K (.ref f6) = true)
  (l6 : K.lookup f6 = some ⟨oc6, od6, .func (PySem.W.fnOf "both" "Fold.both" (defArgs s_Fold_both) (defBody s_Fold_both) (defScope s_Fold_both) .none kV6 dc6 pm6 an6 cd6 ct6), sl6⟩)
  (c6 : PySem.W.codeIn K cd6 "Fold.both" = true)
  (k6 : PySem.W.keepIn K (.ref f6) = true)
  (a7 : PySem.W.findIn K (.ref C_Fold) "and_knot" = some (some (.ref f7)))
  (i7 : PySem.W.isFn K (.ref f7) = true)
  (l7 : K.lookup f7 = some ⟨oc7, od7, .func (PySem.W.fnOf "and_knot" "Fold.and_knot" (defArgs s_Fold_and_knot) (defBody s_Fold_and_knot) (defScope s_Fold_and_knot) .none kV7 dc7 pm7 an7 cd7 ct7), sl7⟩)
  (c7 : PySem.W.codeIn K cd7 "Fold.and_knot" = true)
  (k7 : PySem.W.keepIn K (.ref f7) = true)
  (a8 : PySem.W.nsIn K mainGlobals "and_tie" = some (some (.ref f8)))
  (l8 : K.lookup f8 = some ⟨oc8, od8, .func (PySem.W.fnOf "and_tie" "and_tie" (defArgs s_and_tie) (defBody s_and_tie) (defScope s_and_tie) .none kV8 dc8 pm8 an8 cd8 ct8), sl8⟩)
  (c8 : PySem.W.codeIn K cd8 "and_tie" = true)
  (k8 : PySem.W.keepIn K (.ref f8) = true)
  (a9 : PySem.W.nsIn K mainGlobals "or_tie" = some (some (.ref f9)))
  (l9 : K.lookup f9 = some ⟨oc9, od9, .func (PySem.W.fnOf "or_tie" "or_tie" (defArgs s_or_tie) (defBody s_or_tie) (defScope s_or_tie) .none kV9 dc9 pm9 an9 cd9 ct9), sl9⟩)
  (c9 : PySem.W.codeIn K cd9 "or_tie" = true)
  (k9 : PySem.W.keepIn K (.ref f9) = true)
  (a10 : PySem.W.nsIn K mainGlobals "either_of_two" = some (some (.ref f10)))
  (l10 : K.lookup f10 = some ⟨oc10, od10, .func (PySem.W.fnOf "either_of_two" "either_of_two" (defArgs s_either_of_two) (defBody s_either_of_two) (defScope s_either_of_two) .none kV10 dc10 pm10 an10 cd10 ct10), sl10⟩)
  (c10 : PySem.W.codeIn K cd10 "either_of_two" = true)
  (k10 : PySem.W.keepIn K (.ref f10) = true)
  (a11 : PySem.W.nsIn K mainGlobals "either_tie" = some (some (.ref f11)))
  (l11 : K.lookup f11 = some ⟨oc11, od11, .func (PySem.W.fnOf "either_tie" "either_tie" (defArgs s_either_tie) (defBody s_either_tie) (defScope s_either_tie) .none kV11 dc11 pm11 an11 cd11 ct11), sl11⟩)
  (c11 : PySem.W.codeIn K cd11 "either_tie" = true)
  (k11 : PySem.W.keepIn K (.ref f11) = true)
  (a12 : PySem.W.nsIn K mainGlobals "choose_tie" = some (some (.ref f12)))
  (l12 : K.lookup f12 = some ⟨oc12, od12, .func (PySem.W.fnOf "choose_tie" "choose_tie" (defArgs s_choose_tie) (defBody s_choose_tie) (defScope s_choose_tie) .none kV12 dc12 pm12 an12 cd12 ct12), sl12⟩)
  (c12 : PySem.W.codeIn K cd12 "choose_tie" = true)
  (k12 : PySem.W.keepIn K (.ref f12) = true)
  (a13 : PySem.W.nsIn K mainGlobals "most_tie" = some (some (.ref f13)))
  (l13 : K.lookup f13 = some ⟨oc13, od13, .func (PySem.W.fnOf "most_tie" "most_tie" (defArgs s_most_tie) (defBody s_most_tie) (defScope s_most_tie) .none kV13 dc13 pm13 an13 cd13 ct13), sl13⟩)
  (c13 : PySem.W.codeIn K cd13 "most_tie" = true)
  (k13 : PySem.W.keepIn K (.ref f13) = true)
  (a14 : PySem.W.nsIn K mainGlobals "gate_tie" = some (some (.ref f14)))
  (l14 : K.lookup f14 = some ⟨oc14, od14, .func (PySem.W.fnOf "gate_tie" "gate_tie" (defArgs s_gate_tie) (defBody s_gate_tie) (defScope s_gate_tie) .none kV14 dc14 pm14 an14 cd14 ct14), sl14⟩)
  (c14 : PySem.W.codeIn K cd14 "gate_tie" = true)
  (k14 : PySem.W.keepIn K (.ref f14) = true)
  (a15 : PySem.W.nsIn K mainGlobals "moved_tie" = some (some (.ref f15)))
  (l15 : K.lookup f15 = some ⟨oc15, od15, .func (PySem.W.fnOf "moved_tie" "moved_tie" (defArgs s_moved_tie) (defBody s_moved_tie) (defScope s_moved_tie) .none kV15 dc15 pm15 an15 cd15 ct15), sl15⟩)
  (c15 : PySem.W.codeIn K cd15 "moved_tie" = true)
  (k15 : PySem.W.keepIn K (.ref f15) = true)
  (a16 : PySem.W.nsIn K mainGlobals "swept" = some (some (.ref f16)))
  (l16 : K.lookup f16 = some ⟨oc16, od16, .func (PySem.W.fnOf "swept" "swept" (defArgs s_swept) (defBody s_swept) (defScope s_swept) .none kV16 dc16 pm16 an16 cd16 ct16), sl16⟩)
  (c16 : PySem.W.codeIn K cd16 "swept" = true)
  (k16 : PySem.W.keepIn K (.ref f16) = true)
  (a17 : PySem.W.nsIn K mainGlobals "folded" = some (some (.ref f17)))
  (l17 : K.lookup f17 = some ⟨oc17, od17, .func (PySem.W.fnOf "folded" "folded" (defArgs s_folded) (defBody s_folded) (defScope s_folded) .none kV17 dc17 pm17 an17 cd17 ct17), sl17⟩)
  (c17 : PySem.W.codeIn K cd17 "folded" = true)
  (k17 : PySem.W.keepIn K (.ref f17) = true)
  (a18 : PySem.W.findIn K (.ref C_Net) "__init__" = some (some (.ref f18)))
  (i18 : PySem.W.isFn K (.ref f18) = true)
  (l18 : K.lookup f18 = some ⟨oc18, od18, .func (PySem.W.fnOf "__init__" "Net.__init__" (defArgs s_Net___init__) (defBody s_Net___init__) (defScope s_Net___init__) .none kV18 dc18 pm18 an18 cd18 ct18), sl18⟩)
  (c18 : PySem.W.codeIn K cd18 "Net.__init__" = true)
  (k18 : PySem.W.keepIn K (.ref f18) = true)
  (a19 : PySem.W.nsIn K mainGlobals "_law_cell_at" = some (some (.ref f19)))
  (l19 : K.lookup f19 = some ⟨oc19, od19, .func (PySem.W.fnOf "_law_cell_at" "_law_cell_at" (defArgs s_law_cell_at) (defBody s_law_cell_at) (defScope s_law_cell_at) .none kV19 dc19 pm19 an19 cd19 ct19), sl19⟩)
  (c19 : PySem.W.codeIn K cd19 "_law_cell_at" = true)
  (k19 : PySem.W.keepIn K (.ref f19) = true)
  (a20 : PySem.W.nsIn K mainGlobals "_law_gate" = some (some (.ref f20)))
  (l20 : K.lookup f20 = some ⟨oc20, od20, .func (PySem.W.fnOf "_law_gate" "_law_gate" (defArgs s_law_gate) (defBody s_law_gate) (defScope s_law_gate) .none kV20 dc20 pm20 an20 cd20 ct20), sl20⟩)
  (c20 : PySem.W.codeIn K cd20 "_law_gate" = true)
  (k20 : PySem.W.keepIn K (.ref f20) = true)
  (a21 : PySem.W.nsIn K mainGlobals "_law_both" = some (some (.ref f21)))
  (l21 : K.lookup f21 = some ⟨oc21, od21, .func (PySem.W.fnOf "_law_both" "_law_both" (defArgs s_law_both) (defBody s_law_both) (defScope s_law_both) .none kV21 dc21 pm21 an21 cd21 ct21), sl21⟩)
  (c21 : PySem.W.codeIn K cd21 "_law_both" = true)
  (k21 : PySem.W.keepIn K (.ref f21) = true)
  (a22 : PySem.W.nsIn K mainGlobals "_law_all" = some (some (.ref f22)))
  (l22 : K.lookup f22 = some ⟨oc22, od22, .func (PySem.W.fnOf "_law_all" "_law_all" (defArgs s_law_all) (defBody s_law_all) (defScope s_law_all) .none kV22 dc22 pm22 an22 cd22 ct22), sl22⟩)
  (c22 : PySem.W.codeIn K cd22 "_law_all" = true)
  (k22 : PySem.W.keepIn K (.ref f22) = true)
  (a23 : PySem.W.nsIn K mainGlobals "_law_any" = some (some (.ref f23)))
  (l23 : K.lookup f23 = some ⟨oc23, od23, .func (PySem.W.fnOf "_law_any" "_law_any" (defArgs s_law_any) (defBody s_law_any) (defScope s_law_any) .none kV23 dc23 pm23 an23 cd23 ct23), sl23⟩)
  (c23 : PySem.W.codeIn K cd23 "_law_any" = true)
  (k23 : PySem.W.keepIn K (.ref f23) = true)
  (a24 : PySem.W.nsIn K mainGlobals "_law_due" = some (some (.ref f24)))
  (l24 : K.lookup f24 = some ⟨oc24, od24, .func (PySem.W.fnOf "_law_due" "_law_due" (defArgs s_law_due) (defBody s_law_due) (defScope s_law_due) .none kV24 dc24 pm24 an24 cd24 ct24), sl24⟩)
  (c24 : PySem.W.codeIn K cd24 "_law_due" = true)
  (k24 : PySem.W.keepIn K (.ref f24) = true)
  (a25 : PySem.W.nsIn K mainGlobals "_law_folded" = some (some (.ref f25)))
  (l25 : K.lookup f25 = some ⟨oc25, od25, .func (PySem.W.fnOf "_law_folded" "_law_folded" (defArgs s_law_folded) (defBody s_law_folded) (defScope s_law_folded) .none kV25 dc25 pm25 an25 cd25 ct25), sl25⟩)
  (c25 : PySem.W.codeIn K cd25 "_law_folded" = true)
  (k25 : PySem.W.keepIn K (.ref f25) = true)
  (a26 : PySem.W.nsIn K mainGlobals "_law_right" = some (some (.ref f26)))
  (l26 : K.lookup f26 = some ⟨oc26, od26, .func (PySem.W.fnOf "_law_right" "_law_right" (defArgs s_law_right) (defBody s_law_right) (defScope s_law_right) .none kV26 dc26 pm26 an26 cd26 ct26), sl26⟩)
  (c26 : PySem.W.codeIn K cd26 "_law_right" = true)
  (k26 : PySem.W.keepIn K (.ref f26) = true)
  (a27 : PySem.W.nsIn K mainGlobals "_law_outputs" = some (some (.ref f27)))
  (l27 : K.lookup f27 = some ⟨oc27, od27, .func (PySem.W.fnOf "_law_outputs" "_law_outputs" (defArgs s_law_outputs) (defBody s_law_outputs) (defScope s_law_outputs) .none kV27 dc27 pm27 an27 cd27 ct27), sl27⟩)
  (c27 : PySem.W.codeIn K cd27 "_law_outputs" = true)
  (k27 : PySem.W.keepIn K (.ref f27) = true)
  (a28 : PySem.W.nsIn K mainGlobals "law" = some (some (.ref f28)))
  (l28 : K.lookup f28 = some ⟨oc28, od28, .func (PySem.W.fnOf "law" "law" (defArgs s_law) (defBody s_law) (defScope s_law) .none kV28 dc28 pm28 an28 cd28 ct28), sl28⟩)
  (c28 : PySem.W.codeIn K cd28 "law" = true)
  (k28 : PySem.W.keepIn K (.ref f28) = true)
  (pg_Fold : PySem.W.plainGet K C_Fold Str.empty = true)
  (hd_Fold : PySem.W.hasDictIn K C_Fold = true)
  (po_Fold : PySem.W.plainOver K C_Fold = true)
  (sa_Fold : PySem.W.findIn K (.ref C_Fold) "__setattr__" = some (some (.builtin "object.__setattr__")))
  (mk_Fold : PySem.W.makesIn K C_Fold = true)
  (kc_Fold : PySem.W.keepIn K (.ref C_Fold) = true)
  (n_Fold_many : PySem.W.findIn K (.ref C_Fold) "many" = some none)
  (n_Fold_pairs : PySem.W.findIn K (.ref C_Fold) "pairs" = some none)
  (n_Fold_knots : PySem.W.findIn K (.ref C_Fold) "knots" = some none)
  (pg_Net : PySem.W.plainGet K C_Net Str.empty = true)
  (hd_Net : PySem.W.hasDictIn K C_Net = true)
  (po_Net : PySem.W.plainOver K C_Net = true)
  (sa_Net : PySem.W.findIn K (.ref C_Net) "__setattr__" = some (some (.builtin "object.__setattr__")))
  (mk_Net : PySem.W.makesIn K C_Net = true)
  (kc_Net : PySem.W.keepIn K (.ref C_Net) = true)
  (n_Net_inputs : PySem.W.findIn K (.ref C_Net) "inputs" = some none)
  (n_Net_gates : PySem.W.findIn K (.ref C_Net) "gates" = some none)
  (n_Net_outputs : PySem.W.findIn K (.ref C_Net) "outputs" = some none)
  (g_ALWAYS : PySem.W.nsIn K mainGlobals "ALWAYS" = some (some (.int 1 ug_ALWAYS)))
  (g_NEVER : PySem.W.nsIn K mainGlobals "NEVER" = some (some (.int 0 ug_NEVER)))
  (z_bool : PySem.W.nsIn K mainGlobals "bool" = some none)
  (z_dict : PySem.W.nsIn K mainGlobals "dict" = some none)
  (z_enumerate : PySem.W.nsIn K mainGlobals "enumerate" = some none)
  (z_int : PySem.W.nsIn K mainGlobals "int" = some none)
  (z_isinstance : PySem.W.nsIn K mainGlobals "isinstance" = some none)
  (z_len : PySem.W.nsIn K mainGlobals "len" = some none)
  (z_list : PySem.W.nsIn K mainGlobals "list" = some none)
  (z_max : PySem.W.nsIn K mainGlobals "max" = some none)
  (z_min : PySem.W.nsIn K mainGlobals "min" = some none)
  (z_range : PySem.W.nsIn K mainGlobals "range" = some none)
  (z_reversed : PySem.W.nsIn K mainGlobals "reversed" = some none)
  (z_tuple : PySem.W.nsIn K mainGlobals "tuple" = some none) :
  ∃ fd : FuncData, (∀ (s : Shared) (v : Value), BindsTo s fd ⟨[v], []⟩ [("_law_script", v)]) ∧ ∀ base : Heap, K.In base → base.Ns mainGlobals mg → FnOk l.prog w K mg base CX0 10 fa fd ["_law_script"] (sp_law K) := by
 have e := hfa.symm.trans (PySem.W.mg_of X G a28)
 cases e
 have F0 := fun_mk (st := s_reached) l0 c0 k0
 have B0 := F0.binds (ps := ["fold", "knots", "stops"]) fun _ _ _ _ _ _ us hl => by obtain ⟨_, _, _, rfl⟩ := lenN3 hl; rfl
 have F1 := fun_mk (st := s_turned) l1 c1 k1
 have B1 := F1.binds (ps := ["tie"]) fun _ _ _ _ _ _ us hl => by obtain ⟨_, rfl⟩ := lenN1 hl; rfl
 have F2 := fun_mk (st := s_Fold___init__) l2 c2 k2
 have B2 := F2.binds (ps := ["self", "many"]) fun _ _ _ _ _ _ us hl => by obtain ⟨_, _, rfl⟩ := lenN2 hl; rfl
 have F3 := fun_mk (st := s_Fold_total) l3 c3 k3
 have B3 := F3.binds (ps := ["self"]) fun _ _ _ _ _ _ us hl => by obtain ⟨_, rfl⟩ := lenN1 hl; rfl
 have F4 := fun_mk (st := s_Fold_has_tie) l4 c4 k4
 have B4 := F4.binds (ps := ["self", "tie"]) fun _ _ _ _ _ _ us hl => by obtain ⟨_, _, rfl⟩ := lenN2 hl; rfl
 have F5 := fun_mk (st := s_Fold_pair) l5 c5 k5
 have B5 := F5.binds (ps := ["self", "knot"]) fun _ _ _ _ _ _ us hl => by obtain ⟨_, _, rfl⟩ := lenN2 hl; rfl
 have F6 := fun_mk (st := s_Fold_both) l6 c6 k6
 have B6 := F6.binds (ps := ["self", "one", "other"]) fun _ _ _ _ _ _ us hl => by obtain ⟨_, _, _, rfl⟩ := lenN3 hl; rfl
 have F7 := fun_mk (st := s_Fold_and_knot) l7 c7 k7
 have B7 := F7.binds (ps := ["self", "ties"]) fun _ _ _ _ _ _ us hl => by obtain ⟨_, _, rfl⟩ := lenN2 hl; rfl
 have F8 := fun_mk (st := s_and_tie) l8 c8 k8
 have B8 := F8.binds (ps := ["fold", "ties"]) fun _ _ _ _ _ _ us hl => by obtain ⟨_, _, rfl⟩ := lenN2 hl; rfl
 have F9 := fun_mk (st := s_or_tie) l9 c9 k9
 have B9 := F9.binds (ps := ["fold", "ties"]) fun _ _ _ _ _ _ us hl => by obtain ⟨_, _, rfl⟩ := lenN2 hl; rfl
 have F10 := fun_mk (st := s_either_of_two) l10 c10 k10
 have B10 := F10.binds (ps := ["fold", "one", "other"]) fun _ _ _ _ _ _ us hl => by obtain ⟨_, _, _, rfl⟩ := lenN3 hl; rfl
 have F11 := fun_mk (st := s_either_tie) l11 c11 k11
 have B11 := F11.binds (ps := ["fold", "ties"]) fun _ _ _ _ _ _ us hl => by obtain ⟨_, _, rfl⟩ := lenN2 hl; rfl
 have F12 := fun_mk (st := s_choose_tie) l12 c12 k12
 have B12 := F12.binds (ps := ["fold", "ties"]) fun _ _ _ _ _ _ us hl => by obtain ⟨_, _, rfl⟩ := lenN2 hl; rfl
 have F13 := fun_mk (st := s_most_tie) l13 c13 k13
 have B13 := F13.binds (ps := ["fold", "ties"]) fun _ _ _ _ _ _ us hl => by obtain ⟨_, _, rfl⟩ := lenN2 hl; rfl
 have F14 := fun_mk (st := s_gate_tie) l14 c14 k14
 have B14 := F14.binds (ps := ["fold", "word", "ties"]) fun _ _ _ _ _ _ us hl => by obtain ⟨_, _, _, rfl⟩ := lenN3 hl; rfl
 have F15 := fun_mk (st := s_moved_tie) l15 c15 k15
 have B15 := F15.binds (ps := ["moved", "tie"]) fun _ _ _ _ _ _ us hl => by obtain ⟨_, _, rfl⟩ := lenN2 hl; rfl
 have F16 := fun_mk (st := s_swept) l16 c16 k16
 have B16 := F16.binds (ps := ["fold", "ties"]) fun _ _ _ _ _ _ us hl => by obtain ⟨_, _, rfl⟩ := lenN2 hl; rfl
 have F17 := fun_mk (st := s_folded) l17 c17 k17
 have B17 := F17.binds (ps := ["net"]) fun _ _ _ _ _ _ us hl => by obtain ⟨_, rfl⟩ := lenN1 hl; rfl
 have F18 := fun_mk (st := s_Net___init__) l18 c18 k18
 have B18 := F18.binds (ps := ["self", "inputs", "gates", "outputs"]) fun _ _ _ _ _ _ us hl => by obtain ⟨_, _, _, _, rfl⟩ := lenN4 hl; rfl
 have F19 := fun_mk (st := s_law_cell_at) l19 c19 k19
 have B19 := F19.binds (ps := ["_law_script", "_law_k"]) fun _ _ _ _ _ _ us hl => by obtain ⟨_, _, rfl⟩ := lenN2 hl; rfl
 have F20 := fun_mk (st := s_law_gate) l20 c20 k20
 have B20 := F20.binds (ps := ["_law_name", "_law_cell", "_law_names"]) fun _ _ _ _ _ _ us hl => by obtain ⟨_, _, _, rfl⟩ := lenN3 hl; rfl
 have F21 := fun_mk (st := s_law_both) l21 c21 k21
 have B21 := F21.binds (ps := ["_law_book", "_law_one", "_law_other"]) fun _ _ _ _ _ _ us hl => by obtain ⟨_, _, _, rfl⟩ := lenN3 hl; rfl
 have F22 := fun_mk (st := s_law_all) l22 c22 k22
 have B22 := F22.binds (ps := ["_law_book", "_law_some"]) fun _ _ _ _ _ _ us hl => by obtain ⟨_, _, rfl⟩ := lenN2 hl; rfl
 have F23 := fun_mk (st := s_law_any) l23 c23 k23
 have B23 := F23.binds (ps := ["_law_book", "_law_some"]) fun _ _ _ _ _ _ us hl => by obtain ⟨_, _, rfl⟩ := lenN2 hl; rfl
 have F24 := fun_mk (st := s_law_due) l24 c24 k24
 have B24 := F24.binds (ps := ["_law_book", "_law_word", "_law_some"]) fun _ _ _ _ _ _ us hl => by obtain ⟨_, _, _, rfl⟩ := lenN3 hl; rfl
 have F25 := fun_mk (st := s_law_folded) l25 c25 k25
 have B25 := F25.binds (ps := ["_law_many", "_law_gates", "_law_names", "_law_outputs_here"]) fun _ _ _ _ _ _ us hl => by obtain ⟨_, _, _, _, rfl⟩ := lenN4 hl; rfl
 have F26 := fun_mk (st := s_law_right) l26 c26 k26
 have B26 := F26.binds (ps := ["_law_found", "_law_many", "_law_due_here"]) fun _ _ _ _ _ _ us hl => by obtain ⟨_, _, _, rfl⟩ := lenN3 hl; rfl
 have F27 := fun_mk (st := s_law_outputs) l27 c27 k27
 have B27 := F27.binds (ps := ["_law_cell", "_law_count", "_law_names"]) fun _ _ _ _ _ _ us hl => by obtain ⟨_, _, _, rfl⟩ := lenN3 hl; rfl
 have F28 := fun_mk (st := s_law) l28 c28 k28
 have B28 := F28.binds (ps := ["_law_script"]) fun _ _ _ _ _ _ us hl => by obtain ⟨_, rfl⟩ := lenN1 hl; rfl
 have T : Txt K mg ⟨f0, _, f1, _, f2, _, f3, _, f4, _, f5, _, f6, _, f7, _, f8, _, f9, _, f10, _, f11, _, f12, _, f13, _, f14, _, f15, _, f16, _, f17, _, f18, _, f19, _, f20, _, f21, _, f22, _, f23, _, f24, _, f25, _, f26, _, f27, _, _, _, C_Fold, C_Net⟩ := ⟨PySem.W.mg_of X G a0, F0, B0, PySem.W.mg_of X G a1, F1, B1, F2, B2, F3, B3, ⟨a3, i3, k3⟩, F4, B4, ⟨a4, i4, k4⟩, F5, B5, ⟨a5, i5, k5⟩, F6, B6, ⟨a6, i6, k6⟩, F7, B7, ⟨a7, i7, k7⟩, PySem.W.mg_of X G a8, F8, B8, PySem.W.mg_of X G a9, F9, B9, PySem.W.mg_of X G a10, F10, B10, PySem.W.mg_of X G a11, F11, B11, PySem.W.mg_of X G a12, F12, B12, PySem.W.mg_of X G a13, F13, B13, PySem.W.mg_of X G a14, F14, B14, PySem.W.mg_of X G a15, F15, B15, PySem.W.mg_of X G a16, F16, B16, PySem.W.mg_of X G a17, F17, B17, F18, B18, PySem.W.mg_of X G a19, F19, B19, PySem.W.mg_of X G a20, F20, B20, PySem.W.mg_of X G a21, F21, B21, PySem.W.mg_of X G a22, F22, B22, PySem.W.mg_of X G a23, F23, B23, PySem.W.mg_of X G a24, F24, B24, PySem.W.mg_of X G a25, F25, B25, PySem.W.mg_of X G a26, F26, B26, PySem.W.mg_of X G a27, F27, B27, PySem.W.mg_of X G a28, F28, B28, PySem.W.mg_of X G aC_Fold, ⟨pg_Fold, hd_Fold, po_Fold, sa_Fold⟩, ⟨mk_Fold, a2, i2, kc_Fold⟩, n_Fold_many, n_Fold_pairs, n_Fold_knots, PySem.W.mg_of X G aC_Net, ⟨pg_Net, hd_Net, po_Net, sa_Net⟩, ⟨mk_Net, a18, i18, kc_Net⟩, n_Net_inputs, n_Net_gates, n_Net_outputs, ⟨_, PySem.W.mg_of X G g_ALWAYS, ⟨_, rfl⟩⟩, ⟨_, PySem.W.mg_of X G g_NEVER, ⟨_, rfl⟩⟩, PySem.W.mg_none_of X G z_bool, PySem.W.mg_none_of X G z_dict, PySem.W.mg_none_of X G z_enumerate, PySem.W.mg_none_of X G z_int, PySem.W.mg_none_of X G z_isinstance, PySem.W.mg_none_of X G z_len, PySem.W.mg_none_of X G z_list, PySem.W.mg_none_of X G z_max, PySem.W.mg_none_of X G z_min, PySem.W.mg_none_of X G z_range, PySem.W.mg_none_of X G z_reversed, PySem.W.mg_none_of X G z_tuple⟩
 exact ⟨_, fun s v => .of_eq rfl, fun base _ _ => ok_law T⟩
theorem walk {l : PySem.W.OpenLaw} {q : Program} {loose : List Str} {XP : (Str → Option Value) → Heap → Prop} {YP : World → Heap → Prop} {d : DefRec} {K : Params → PySem.W.Frag} (hn : l.most = some 63) (hdf : d.params.defaults = [])
  (hY : ∀ (w : World) (h : Heap), YP w h → (K w.params).In h)
  (F : ∀ (w : World) (mg : Str → Option Value) (fa : Addr) (h : Heap), (K w.params).In h → h.Ns mainGlobals mg → mg d.name = some (.ref fa) →
   ∃ fd : FuncData, (∀ (s : Shared) (u : Value), BindsTo s fd ⟨[u], []⟩ [("_law_script", u)]) ∧ ∀ base : Heap, (K w.params).In base → base.Ns mainGlobals mg → FnOk l.prog w (K w.params) mg base CX0 10 fa fd ["_law_script"] (sp_law (K w.params))) :
  PySem.W.WalkO q loose XP YP l.row.toRowW d [] (fun f vs => PySem.call f vs) :=
 L2.walk_of (n := 63) (k := 10) (x := "_law_script") (CX := fun _ => CX0) (sp := fun w => sp_law (K w.params)) hn (by decide) hdf ⟨rfl, by decide, by decide⟩ hY F (fun _ _ a ns hl _ hS => ⟨a, ns, rfl, hS, hl, fun _ => rfl⟩) fun _ _ _ _ _ z => z
end K16
lay_quick PySem.Challenge.pw_gatefold_k16_folded_tidy
namespace OT
open PySem PySem.W PySem.Spec PyProof.Rows L2
abbrev PM := Params
abbrev OB := Obj
noncomputable abbrev TP : Program := PySem.W.Fast.tw9384535992186916269
noncomputable def tT (i : Nat) : Stmt := TP.main.body.getD i (.Pass ⟨0, 0, 0, 0⟩)
abbrev vs (s : Str) (t : Nat) : Value := .str s t
abbrev vr (a : Nat) : Value := .ref a
abbrev vi (a : Int) (t : Nat) : Value := .int a t
abbrev vn : Value := .none
abbrev df (a : Array Value) : Data := .fields a
abbrev dq (a : Array Value) (n : Nat) : Data := .seq a n
abbrev dd (a : Array DictEntry) (n : Nat) : Data := .dict a n
noncomputable abbrev de (P : Params) (s : Str) (t : Nat) (v : Value) : DictEntry := .mk (PyData.keyHash P s) (.str s t) v
abbrev ob (t : String) (d : Data) (sl : Array (Option Value)) : Obj := ⟨.type t, none, d, sl⟩
abbrev nd := BT.node
abbrev nl := BT.nil
noncomputable abbrev y0 : String := PySem.W.SL.s2766695959194262286x5
noncomputable abbrev y1 : String := PySem.W.SL.s5856160107412720595x4
noncomputable abbrev y2 : String := PySem.W.SL.s658472552662922059x5
noncomputable abbrev y3 : String := PySem.W.SL.s14018661285674007319x4
noncomputable abbrev y4 : String := PySem.W.SL.s7097527257260152453x26
noncomputable abbrev y5 : String := PySem.W.SL.s6070975301684473832x10
noncomputable abbrev y6 : String := PySem.W.SL.s11030030927630378310x26
noncomputable abbrev y7 : String := PySem.W.SL.s10062305145149207511x16
noncomputable abbrev y8 : String := PySem.W.SL.s17162191345867700912x4
noncomputable abbrev y9 : String := PySem.W.SL.s5946037652744460706x9
noncomputable abbrev y10 : String := PySem.W.SL.s4278001404047624695x13
noncomputable abbrev y11 : String := PySem.W.SL.s2742458400755230247x6
noncomputable abbrev y12 : String := PySem.W.SL.s4209523147560561109x18
noncomputable abbrev y13 : String := PySem.W.SL.s14755015743595814543x17
noncomputable abbrev y14 : String := PySem.W.SL.s10220274742760427390x26
noncomputable abbrev y15 : String := PySem.W.SL.s4290257624100764138x5
noncomputable abbrev y16 : String := PySem.W.SL.s4860613602091757760x24
noncomputable abbrev y17 : String := PySem.W.SL.s7174869446012820540x8
noncomputable abbrev y18 : String := PySem.W.SL.s11443829558043349243x14
noncomputable abbrev y19 : String := PySem.W.SL.s6511155373996960695x17
noncomputable abbrev y20 : String := PySem.W.SL.s12411053484034534018x21
noncomputable abbrev b0 (P : PM) : OB := PySem.W.boot_o_0 P
noncomputable abbrev b1 (P : PM) : OB := PySem.W.boot_o_1 P
noncomputable abbrev b2 (P : PM) : OB := PySem.W.boot_o_2 P
noncomputable abbrev b3 (P : PM) : OB := PySem.W.boot_o_3 P
noncomputable abbrev b4 (P : PM) : OB := PySem.W.boot_o_4 P
noncomputable abbrev b5 (P : PM) : OB := PySem.W.boot_o_5 P
noncomputable abbrev b6 (P : PM) : OB := PySem.W.boot_o_6 P
noncomputable abbrev b7 (P : PM) : OB := PySem.W.boot_o_7 P
noncomputable abbrev b8 (P : PM) : OB := PySem.W.boot_o_8 P
noncomputable abbrev b9 (P : PM) : OB := PySem.W.boot_o_9 P
noncomputable abbrev b10 (P : PM) : OB := PySem.W.boot_o_10 P
noncomputable abbrev j0 (a b : Str) (s : Stmt) : OB := ⟨vn, none, .func (.mk a b (defArgs s) (.stmts (defBody s)) (defScope s) 0 [] vn vn vn vn none vn vn 0), ⟨[]⟩⟩
noncomputable abbrev j1 (a b : Str) (s : Stmt) (q : Str) (t n : Nat) : OB := ⟨(Value.type y17), none, .func (.mk a b (defArgs s) (.stmts (defBody s)) (defScope s) 3 [] vn vn vn (vs q t) none (vr n) vn 0), ⟨[]⟩⟩
abbrev q0 : Str := ⟨⟨[116,105,101]⟩⟩
abbrev q1 : Str := ⟨⟨[97,110,100,95,116,105,101]⟩⟩
abbrev q2 : Str := ⟨⟨[102,111,108,100]⟩⟩
abbrev q3 : Str := ⟨⟨[116,105,101,115]⟩⟩
abbrev q4 : Str := ⟨⟨[116,111,108,100]⟩⟩
abbrev q5 : Str := ⟨⟨[98,111,116,104]⟩⟩
abbrev q6 : Str := ⟨⟨[103,97,116,101,102,111,108,100,46,102,111,108,100,105,110,103]⟩⟩
abbrev q7 : Str := ⟨⟨[115,101,108,102]⟩⟩
abbrev q8 : Str := ⟨⟨[109,97,110,121]⟩⟩
abbrev q9 : Str := ⟨⟨[95,95,105,110,105,116,95,95]⟩⟩
abbrev q10 : Str := ⟨⟨[78,101,116,46,95,95,105,110,105,116,95,95]⟩⟩
abbrev q11 : Str := ⟨⟨[105,110,112,117,116,115]⟩⟩
abbrev q12 : Str := ⟨⟨[103,97,116,101,115]⟩⟩
abbrev q13 : Str := ⟨⟨[111,117,116,112,117,116,115]⟩⟩
abbrev q14 : Str := ⟨⟨[116,117,112,108,101]⟩⟩
abbrev q16 : Str := ⟨⟨[119,111,114,100]⟩⟩
abbrev q20 : Str := ⟨⟨[103,97,116,101,102,111,108,100,46,110,101,116,115]⟩⟩
abbrev q21 : Str := ⟨⟨[104,97,115,95,116,105,101]⟩⟩
abbrev q22 : Str := ⟨⟨[70,111,108,100,46,104,97,115,95,116,105,101]⟩⟩
abbrev q23 : Str := ⟨⟨[116,111,116,97,108]⟩⟩
abbrev q24 : Str := ⟨⟨[102,117,108,108,95,99,111,108,117,109,110]⟩⟩
abbrev q25 : Str := ⟨⟨[112,97,105,114]⟩⟩
abbrev q26 : Str := ⟨⟨[70,111,108,100,46,112,97,105,114]⟩⟩
abbrev q27 : Str := ⟨⟨[47,99,108,97,105,109,47,99,117,116,46,112,121]⟩⟩
abbrev q28 : Str := ⟨⟨[102,111,108,100,101,100]⟩⟩
abbrev q30 : Str := ⟨⟨[70,111,108,100]⟩⟩
abbrev q33 : Str := ⟨⟨[107,110,111,116]⟩⟩
abbrev q36 : Str := ⟨⟨[103,97,116,101,95,116,105,101]⟩⟩
abbrev q38 : Str := ⟨⟨[115,119,101,112,116]⟩⟩
abbrev q39 : Str := ⟨⟨[95,95,110,97,109,101,95,95]⟩⟩
abbrev q40 : Str := ⟨⟨[103,97,116,101,102,111,108,100,46,101,114,114,111,114,115]⟩⟩
abbrev q41 : Str := ⟨⟨[95,95,100,111,99,95,95]⟩⟩
abbrev q42 : Str := ⟨⟨[95,95,112,97,99,107,97,103,101,95,95]⟩⟩
abbrev q43 : Str := ⟨⟨[95,95,108,111,97,100,101,114,95,95]⟩⟩
abbrev q44 : Str := ⟨⟨[95,95,115,112,101,99,95,95]⟩⟩
abbrev q45 : Str := ⟨⟨[95,95,97,110,110,111,116,97,116,105,111,110,115,95,95]⟩⟩
abbrev q46 : Str := ⟨⟨[95,95,98,117,105,108,116,105,110,115,95,95]⟩⟩
abbrev q47 : Str := ⟨⟨[95,95,102,105,108,101,95,95]⟩⟩
abbrev q48 : Str := ⟨⟨[95,95,99,97,99,104,101,100,95,95]⟩⟩
abbrev q49 : Str := ⟨⟨[70,111,108,100,69,114,114,111,114]⟩⟩
abbrev q50 : Str := ⟨⟨[95,95,109,111,100,117,108,101,95,95]⟩⟩
abbrev q51 : Str := ⟨⟨[95,95,102,105,114,115,116,108,105,110,101,110,111,95,95]⟩⟩
abbrev q52 : Str := ⟨⟨[99,111,108,117,109,110,115]⟩⟩
abbrev q53 : Str := ⟨⟨[99,97,114,114,105,101,100]⟩⟩
abbrev q54 : Str := ⟨⟨[95,95,115,116,97,116,105,99,95,97,116,116,114,105,98,117,116,101,115,95,95]⟩⟩
abbrev q55 : Str := ⟨⟨[95,95,100,105,99,116,95,95]⟩⟩
abbrev q56 : Str := ⟨⟨[95,95,119,101,97,107,114,101,102,95,95]⟩⟩
abbrev q57 : Str := ⟨⟨[103,97,116,101,102,111,108,100,46,102,111,108,100,115]⟩⟩
abbrev q58 : Str := ⟨⟨[95,108,97,119,95,98,111,116,104]⟩⟩
abbrev q59 : Str := ⟨⟨[99,111,108,117,109,110,95,98,121]⟩⟩
abbrev q60 : Str := ⟨⟨[95,108,97,119,95,98,111,111,107]⟩⟩
abbrev q61 : Str := ⟨⟨[95,108,97,119,95,111,110,101]⟩⟩
abbrev q62 : Str := ⟨⟨[95,108,97,119,95,111,116,104,101,114]⟩⟩
abbrev q63 : Str := ⟨⟨[95,108,97,119,95,108,111,119]⟩⟩
abbrev q65 : Str := ⟨⟨[95,108,97,119,95,104,105,103,104]⟩⟩
abbrev q67 : Str := ⟨⟨[102,105,114,115,116]⟩⟩
abbrev q68 : Str := ⟨⟨[115,101,99,111,110,100]⟩⟩
abbrev q69 : Str := ⟨⟨[116,104,105,114,100]⟩⟩
abbrev q70 : Str := ⟨⟨[95,108,97,119,95,100,117,101]⟩⟩
abbrev q71 : Str := ⟨⟨[114,101,97,99,104,101,100]⟩⟩
abbrev q72 : Str := ⟨⟨[97,110,100,95,107,110,111,116]⟩⟩
abbrev q73 : Str := ⟨⟨[70,111,108,100,46,97,110,100,95,107,110,111,116]⟩⟩
abbrev q74 : Str := ⟨⟨[107,110,111,116,115]⟩⟩
abbrev q75 : Str := ⟨⟨[112,97,105,114,115]⟩⟩
abbrev q77 : Str := ⟨⟨[78,111,75,110,111,116]⟩⟩
abbrev q78 : Str := ⟨⟨[116,117,114,110,101,100]⟩⟩
abbrev q79 : Str := ⟨⟨[109,111,118,101,100]⟩⟩
abbrev q80 : Str := ⟨⟨[101,105,116,104,101,114,95,111,102,95,116,119,111]⟩⟩
abbrev q81 : Str := ⟨⟨[111,110,101]⟩⟩
abbrev q82 : Str := ⟨⟨[111,116,104,101,114]⟩⟩
abbrev q83 : Str := ⟨⟨[111,114,95,116,105,101]⟩⟩
abbrev q84 : Str := ⟨⟨[105,110,112,117,116,95,99,111,108,117,109,110,115]⟩⟩
abbrev q85 : Str := ⟨⟨[95,108,97,119,95,97,110,121]⟩⟩
abbrev q86 : Str := ⟨⟨[95,108,97,119,95,119,111,114,100]⟩⟩
abbrev q87 : Str := ⟨⟨[95,108,97,119,95,115,111,109,101]⟩⟩
abbrev q93 : Str := ⟨⟨[95,108,97,119,95,97,108,108]⟩⟩
abbrev q96 : Str := ⟨⟨[95,108,97,119,95,102,111,117,110,100]⟩⟩
abbrev q97 : Str := ⟨⟨[95,108,97,119,95,116,105,101]⟩⟩
abbrev q99 : Str := ⟨⟨[108,97,119,95,103,97,116,101,102,111,108,100,95,107,49,54,95,102,111,108,100,101,100,95,116,105,100,121]⟩⟩
abbrev q100 : Str := ⟨⟨[99,104,111,111,115,101,95,116,105,101]⟩⟩
abbrev q101 : Str := ⟨⟨[116,114,117,116,104,95,99,111,108,117,109,110,115]⟩⟩
abbrev q102 : Str := ⟨⟨[95,108,97,119,95,110,97,109,101]⟩⟩
abbrev q103 : Str := ⟨⟨[95,108,97,119,95,99,101,108,108]⟩⟩
abbrev q104 : Str := ⟨⟨[95,108,97,119,95,110,97,109,101,115]⟩⟩
abbrev q105 : Str := ⟨⟨[95,108,97,119,95,115,105,122,101]⟩⟩
abbrev q106 : Str := ⟨⟨[95,108,97,119,95,108,97,116,101]⟩⟩
abbrev q107 : Str := ⟨⟨[95,108,97,119,95,112,97,114,116,115]⟩⟩
abbrev q108 : Str := ⟨⟨[95,108,97,119,95,106]⟩⟩
abbrev q109 : Str := ⟨⟨[95,108,97,119,95,99,111,117,110,116]⟩⟩
abbrev q110 : Str := ⟨⟨[95,95,109,97,105,110,95,95]⟩⟩
abbrev q111 : Str := ⟨⟨[99,104,111,115,101,110,95,108,105,116]⟩⟩
abbrev q112 : Str := ⟨⟨[101,118,101,114,121]⟩⟩
abbrev q113 : Str := ⟨⟨[103,97,116,101,102,111,108,100,46,103,97,116,101,115]⟩⟩
abbrev q114 : Str := ⟨⟨[95,108,97,119,95,99,101,108,108,95,97,116]⟩⟩
abbrev q115 : Str := ⟨⟨[95,108,97,119,95,115,99,114,105,112,116]⟩⟩
abbrev q116 : Str := ⟨⟨[95,108,97,119,95,107]⟩⟩
abbrev q117 : Str := ⟨⟨[115,111,109,101,95,108,105,116]⟩⟩
abbrev q118 : Str := ⟨⟨[108,105,116]⟩⟩
abbrev q119 : Str := ⟨⟨[99,111,108,117,109,110]⟩⟩
abbrev q120 : Str := ⟨⟨[109,111,115,116,95,116,105,101]⟩⟩
abbrev q121 : Str := ⟨⟨[101,105,116,104,101,114,95,116,105,101]⟩⟩
abbrev q122 : Str := ⟨⟨[103,97,116,101,102,111,108,100,46,98,105,116,115]⟩⟩
abbrev q123 : Str := ⟨⟨[109,111,115,116,95,108,105,116]⟩⟩
abbrev q124 : Str := ⟨⟨[78,111,84,105,101]⟩⟩
abbrev q125 : Str := ⟨⟨[70,111,108,100,46,95,95,105,110,105,116,95,95]⟩⟩
abbrev q126 : Str := ⟨⟨[109,111,118,101,100,95,116,105,101]⟩⟩
abbrev q127 : Str := ⟨⟨[95,108,97,119,95,103,97,116,101]⟩⟩
abbrev q130 : Str := ⟨⟨[95,108,97,119,95,111,117,116,112,117,116,115]⟩⟩
abbrev q131 : Str := ⟨⟨[95,108,97,119,95,111,117,116,112,117,116,115,95,104,101,114,101]⟩⟩
abbrev q132 : Str := ⟨⟨[95,108,97,119,95,102,111,108,100,101,100]⟩⟩
abbrev q144 : Str := ⟨⟨[111,100,100,95,108,105,116]⟩⟩
abbrev q145 : Str := ⟨⟨[97,108,108,95,108,105,116]⟩⟩
abbrev q146 : Str := ⟨⟨[95,108,97,119,95,114,105,103,104,116]⟩⟩
abbrev q151 : Str := ⟨⟨[108,97,119]⟩⟩
abbrev q160 : Str := ⟨⟨[78,101,116]⟩⟩
abbrev q162 : Str := ⟨⟨[78,69,86,69,82]⟩⟩
abbrev q163 : Str := ⟨⟨[65,76,87,65,89,83]⟩⟩
abbrev q164 : Str := ⟨⟨[70,111,108,100,46,116,111,116,97,108]⟩⟩
abbrev q165 : Str := ⟨⟨[70,111,108,100,46,98,111,116,104]⟩⟩
abbrev q167 : Str := ⟨⟨[78,101,116,46,99,111,108,117,109,110,115]⟩⟩
abbrev q168 : Str := ⟨⟨[95,95,113,117,97,108,110,97,109,101,95,95]⟩⟩
abbrev q171 : Str := ⟨⟨[78,101,116,46,99,97,114,114,105,101,100]⟩⟩
abbrev q176 : Str := ⟨⟨[103,97,116,101,102,111,108,100,46,99,111,110,101,115]⟩⟩
abbrev q178 : Str := ⟨⟨[78,101,116,46,116,111,108,100]⟩⟩
abbrev q180 : Str := ⟨⟨[60,109,111,100,117,108,101,62]⟩⟩
noncomputable def o43 (P : PM) : OB := (ob y0 (dq ⟨[]⟩ 0) ⟨[]⟩)
noncomputable def o44 (P : PM) : OB := (Obj.mk vn none (df ⟨[]⟩) ⟨[]⟩)
noncomputable def o45 (P : PM) : OB := (ob y1 (df ⟨[vs q180 182,vs q180 183,vs q27 184,vi 1 0,vi 0 0,vi 0 0,vi 0 0,vi 0 0,vr 11,(Value.bool false),vi 181 0,vr 12,vn,vn,vn,vn,vi 185 0,vi 1 0,vs q27 186]⟩) ⟨[]⟩)
noncomputable def o46 (P : PM) : OB := (ob y2 Data.plain ⟨[(some (vr 13)),(some (vr 3)),(some (vr 3)),none,(some (vs q110 164)),none,(some (vr 0))]⟩)
noncomputable def o49 (P : PM) : OB := (ob y3 (dd ⟨[de P q39 165 (vs q40 187),de P q41 166 vn,de P q42 167 vn,de P q43 168 (Value.builtin y4),de P q44 169 vn,de P q45 170 (vr 6),de P q46 171 (vr 4),de P q47 173 (vs q27 172),de P q48 174 vn,de P q49 206 (vr 24)]⟩ 10) ⟨[]⟩)
noncomputable def o50 (P : PM) : OB := (Obj.mk vn none (df ⟨[vi 2 0,vi 0 0,vr 20]⟩) ⟨[]⟩)
noncomputable def o51 (P : PM) : OB := (ob y0 (dq ⟨[(Value.type y5)]⟩ 0) ⟨[]⟩)
noncomputable def o52 (P : PM) : OB := (ob y6 (df ⟨[(Value.builtin y7),(Value.type y8)]⟩) ⟨[]⟩)
noncomputable def o53 (P : PM) : OB := (ob y3 (dd ⟨[de P q50 196 (vs q40 187),de P q168 198 (vs q49 197),de P q51 200 (vi 2 199),de P q54 201 (vr 22)]⟩ 4) ⟨[]⟩)
noncomputable def o56 (P : PM) : OB := (ob y1 (df ⟨[vs q49 191,vs q49 192,vs q27 193,vi 2 0,vi 0 0,vi 0 0,vi 0 0,vi 0 0,vr 18,(Value.bool false),vi 181 0,vr 19,vn,vn,vn,vn,vi 194 0,vi 2 0,vs q27 195]⟩) ⟨[]⟩)
noncomputable def o57 (P : PM) : OB := (ob y2 Data.plain ⟨[(some (vr 20)),(some (vr 3)),(some (vr 17)),none,(some (vs q40 187)),none,(some (vr 0))]⟩)
noncomputable def o59 (P : PM) : OB := (ob y3 (dd ⟨[de P q50 196 (vs q40 187),de P q51 200 (vi 2 199),de P q54 201 (vr 22),de P q56 203 (vr 25),de P q41 204 vn]⟩ 3) ⟨[]⟩)
noncomputable def o60 (P : PM) : OB := (ob y8 (Data.cls (ClassData.mk q49 [(Value.type y5)] [vr 24,(Value.type y5),(Value.type y9),(Value.type y10),(Value.type y11)] 23 q49 true [] [] false none false)) ⟨[(some (vr 15)),none,(some (vs q49 189)),(some (vs q49 197)),(some (Value.builtin y12)),(some (Value.bool true))]⟩)
noncomputable def o61 (P : PM) : OB := (ob y13 (df ⟨[vs q56 202,vr 24,(Value.builtin y14),vn]⟩) ⟨[]⟩)
noncomputable def o62 (P : PM) : OB := (ob y15 (df ⟨[vr 24,vr 24,vr 24]⟩) ⟨[]⟩)
noncomputable def o63 (P : PM) : OB := (ob y6 (df ⟨[(Value.builtin y16),vr 24]⟩) ⟨[]⟩)
noncomputable def o64 (P : PM) : OB := (ob y3 (dd ⟨[de P q39 165 (vs q40 187),de P q41 166 vn,de P q42 167 vn,de P q43 168 (Value.builtin y4),de P q44 169 vn,de P q45 170 (vr 6),de P q46 171 (vr 4),de P q47 173 (vs q27 172),de P q48 174 vn,de P q49 206 (vr 24),de P q124 222 (vr 37)]⟩ 11) ⟨[]⟩)
noncomputable def o65 (P : PM) : OB := (Obj.mk vn none (df ⟨[vi 2 0,vi 0 0,vr 20,vi 4 0,vi 0 0,vr 33]⟩) ⟨[]⟩)
noncomputable def o66 (P : PM) : OB := (ob y8 (Data.cls (ClassData.mk q49 [(Value.type y5)] [vr 24,(Value.type y5),(Value.type y9),(Value.type y10),(Value.type y11)] 23 q49 true [] [vr 37] false none false)) ⟨[(some (vr 15)),none,(some (vs q49 189)),(some (vs q49 197)),(some (Value.builtin y12)),(some (Value.bool true))]⟩)
noncomputable def o67 (P : PM) : OB := (ob y0 (dq ⟨[vr 24]⟩ 0) ⟨[]⟩)
noncomputable def o69 (P : PM) : OB := (ob y3 (dd ⟨[de P q50 214 (vs q40 187),de P q168 216 (vs q124 215),de P q51 218 (vi 4 217),de P q54 219 (vr 35)]⟩ 4) ⟨[]⟩)
noncomputable def o72 (P : PM) : OB := (ob y1 (df ⟨[vs q124 209,vs q124 210,vs q27 211,vi 4 0,vi 0 0,vi 0 0,vi 0 0,vi 0 0,vr 31,(Value.bool false),vi 181 0,vr 32,vn,vn,vn,vn,vi 212 0,vi 4 0,vs q27 213]⟩) ⟨[]⟩)
noncomputable def o73 (P : PM) : OB := (ob y2 Data.plain ⟨[(some (vr 33)),(some (vr 3)),(some (vr 30)),none,(some (vs q40 187)),none,(some (vr 0))]⟩)
noncomputable def o75 (P : PM) : OB := (ob y3 (dd ⟨[de P q50 214 (vs q40 187),de P q51 218 (vi 4 217),de P q54 219 (vr 35),de P q41 220 vn]⟩ 2) ⟨[]⟩)
noncomputable def o76 (P : PM) : OB := (ob y8 (Data.cls (ClassData.mk q124 [vr 24] [vr 37,vr 24,(Value.type y5),(Value.type y9),(Value.type y10),(Value.type y11)] 36 q124 true [] [] false none false)) ⟨[(some (vr 28)),none,(some (vs q124 207)),(some (vs q124 215)),(some (Value.builtin y12)),(some (Value.bool true))]⟩)
noncomputable def o77 (P : PM) : OB := (ob y15 (df ⟨[vr 37,vr 37,vr 37]⟩) ⟨[]⟩)
noncomputable def o78 (P : PM) : OB := (ob y6 (df ⟨[(Value.builtin y16),vr 37]⟩) ⟨[]⟩)
noncomputable def o79 (P : PM) : OB := (ob y3 (dd ⟨[de P q39 165 (vs q57 247),de P q41 166 vn,de P q42 167 vn,de P q43 168 (Value.builtin y4),de P q44 169 vn,de P q45 170 (vr 6),de P q46 171 (vr 4),de P q47 173 (vs q27 172),de P q48 174 vn,de P q49 206 (vr 24),de P q124 222 (vr 37),de P q77 238 (vr 49),de P q71 246 (vr 56),de P q162 250 (vi 0 249),de P q163 252 (vi 1 251),de P q78 259 (vr 63)]⟩ 16) ⟨[]⟩)
noncomputable def o80 (P : PM) : OB := (Obj.mk vn none (df ⟨[vi 2 0,vi 0 0,vr 20,vi 4 0,vi 0 0,vr 33,vi 6 0,vi 0 0,vr 45,vi 9 0,vi 0 0,vr 55,vi 21 0,vi 0 0,vr 62]⟩) ⟨[]⟩)
noncomputable def o81 (P : PM) : OB := (ob y8 (Data.cls (ClassData.mk q49 [(Value.type y5)] [vr 24,(Value.type y5),(Value.type y9),(Value.type y10),(Value.type y11)] 23 q49 true [] [vr 37,vr 49] false none false)) ⟨[(some (vr 15)),none,(some (vs q49 189)),(some (vs q49 197)),(some (Value.builtin y12)),(some (Value.bool true))]⟩)
noncomputable def o84 (P : PM) : OB := (ob y3 (dd ⟨[de P q50 230 (vs q40 187),de P q168 232 (vs q77 231),de P q51 234 (vi 6 233),de P q54 235 (vr 47)]⟩ 4) ⟨[]⟩)
noncomputable def o87 (P : PM) : OB := (ob y1 (df ⟨[vs q77 225,vs q77 226,vs q27 227,vi 6 0,vi 0 0,vi 0 0,vi 0 0,vi 0 0,vr 43,(Value.bool false),vi 181 0,vr 44,vn,vn,vn,vn,vi 228 0,vi 6 0,vs q27 229]⟩) ⟨[]⟩)
noncomputable def o88 (P : PM) : OB := (ob y2 Data.plain ⟨[(some (vr 45)),(some (vr 3)),(some (vr 42)),none,(some (vs q40 187)),none,(some (vr 0))]⟩)
noncomputable def o90 (P : PM) : OB := (ob y3 (dd ⟨[de P q50 230 (vs q40 187),de P q51 234 (vi 6 233),de P q54 235 (vr 47),de P q41 236 vn]⟩ 2) ⟨[]⟩)
noncomputable def o91 (P : PM) : OB := (ob y8 (Data.cls (ClassData.mk q77 [vr 24] [vr 49,vr 24,(Value.type y5),(Value.type y9),(Value.type y10),(Value.type y11)] 48 q77 true [] [] false none false)) ⟨[(some (vr 40)),none,(some (vs q77 223)),(some (vs q77 231)),(some (Value.builtin y12)),(some (Value.bool true))]⟩)
noncomputable def o92 (P : PM) : OB := (ob y15 (df ⟨[vr 49,vr 49,vr 49]⟩) ⟨[]⟩)
noncomputable def o93 (P : PM) : OB := (ob y6 (df ⟨[(Value.builtin y16),vr 49]⟩) ⟨[]⟩)
noncomputable def o96 (P : PM) : OB := j0 q71 q71 (tT 5)
noncomputable def o97 (P : PM) : OB := (ob y1 (df ⟨[vs q71 241,vs q71 242,vs q27 243,vi 9 0,vi 3 0,vi 0 0,vi 0 0,vi 3 0,vr 52,(Value.bool true),vi 181 0,vr 53,vn,vn,vn,vr 54,vi 244 0,vi 9 0,vs q27 245]⟩) ⟨[]⟩)
noncomputable def o98 (P : PM) : OB := j1 q71 q71 (tT 5) q176 239 55
noncomputable def o101 (P : PM) : OB := (ob y0 (dq ⟨[vs q0 256]⟩ 0) ⟨[]⟩)
noncomputable def o103 (P : PM) : OB := j0 q78 q78 (tT 9)
noncomputable def o104 (P : PM) : OB := (ob y1 (df ⟨[vs q78 253,vs q78 254,vs q27 255,vi 21 0,vi 1 0,vi 0 0,vi 0 0,vi 3 0,vr 57,(Value.bool true),vi 181 0,vr 58,vn,vr 59,vr 60,vr 61,vi 257 0,vi 21 0,vs q27 258]⟩) ⟨[]⟩)
noncomputable def o105 (P : PM) : OB := j1 q78 q78 (tT 9) q57 247 62
noncomputable def o106 (P : PM) : OB := (ob y3 (dd ⟨[de P q39 165 (vs q6 333),de P q41 166 vn,de P q42 167 vn,de P q43 168 (Value.builtin y4),de P q44 169 vn,de P q45 170 (vr 6),de P q46 171 (vr 4),de P q47 173 (vs q27 172),de P q48 174 vn,de P q49 206 (vr 24),de P q124 222 (vr 37),de P q77 238 (vr 49),de P q71 246 (vr 56),de P q162 250 (vi 0 249),de P q163 252 (vi 1 251),de P q78 259 (vr 63),de P q30 332 (vr 115)]⟩ 17) ⟨[]⟩)
noncomputable def o107 (P : PM) : OB := (Obj.mk vn none (df ⟨[vi 2 0,vi 0 0,vr 20,vi 4 0,vi 0 0,vr 33,vi 6 0,vi 0 0,vr 45,vi 9 0,vi 0 0,vr 55,vi 21 0,vi 0 0,vr 62,vi 23 0,vi 0 0,vr 69]⟩) ⟨[]⟩)
noncomputable def o110 (P : PM) : OB := (ob y3 (dd ⟨[de P q50 267 (vs q57 247),de P q168 269 (vs q30 268),de P q51 271 (vi 23 270),de P q9 279 (vr 77),de P q23 286 (vr 84),de P q21 294 (vr 91),de P q25 302 (vr 98),de P q5 313 (vr 105),de P q72 321 (vr 112),de P q54 325 (vr 113)]⟩ 10) ⟨[]⟩)
noncomputable def o112 (P : PM) : OB := (Obj.mk vn none (df ⟨[vi 25 0,vi 4 0,vr 76,vi 30 0,vi 4 0,vr 83,vi 33 0,vi 4 0,vr 90,vi 36 0,vi 4 0,vr 97,vi 43 0,vi 4 0,vr 104,vi 56 0,vi 4 0,vr 111]⟩) ⟨[]⟩)
noncomputable def o113 (P : PM) : OB := (ob y1 (df ⟨[vs q30 262,vs q30 263,vs q27 264,vi 23 0,vi 0 0,vi 0 0,vi 0 0,vi 0 0,vr 67,(Value.bool false),vi 181 0,vr 68,vn,vn,vn,vn,vi 265 0,vi 23 0,vs q27 266]⟩) ⟨[]⟩)
noncomputable def o114 (P : PM) : OB := (ob y2 Data.plain ⟨[(some (vr 69)),(some (vr 3)),(some (vr 66)),none,(some (vs q57 247)),none,(some (vr 0))]⟩)
noncomputable def o117 (P : PM) : OB := (ob y0 (dq ⟨[vs q7 275,vs q8 276]⟩ 0) ⟨[]⟩)
noncomputable def o119 (P : PM) : OB := j0 q9 q125 (inClass (tT 10) 0)
noncomputable def o120 (P : PM) : OB := (ob y1 (df ⟨[vs q9 272,vs q125 273,vs q27 274,vi 25 0,vi 2 0,vi 0 0,vi 0 0,vi 3 0,vr 71,(Value.bool true),vi 181 0,vr 72,vn,vr 73,vr 74,vr 75,vi 277 0,vi 25 0,vs q27 278]⟩) ⟨[]⟩)
noncomputable def o121 (P : PM) : OB := j1 q9 q125 (inClass (tT 10) 0) q57 247 76
noncomputable def o124 (P : PM) : OB := (ob y0 (dq ⟨[vs q7 283]⟩ 0) ⟨[]⟩)
noncomputable def o126 (P : PM) : OB := j0 q23 q164 (inClass (tT 10) 1)
noncomputable def o127 (P : PM) : OB := (ob y1 (df ⟨[vs q23 280,vs q164 281,vs q27 282,vi 30 0,vi 1 0,vi 0 0,vi 0 0,vi 3 0,vr 78,(Value.bool true),vi 181 0,vr 79,vn,vr 80,vr 81,vr 82,vi 284 0,vi 30 0,vs q27 285]⟩) ⟨[]⟩)
noncomputable def o128 (P : PM) : OB := j1 q23 q164 (inClass (tT 10) 1) q57 247 83
noncomputable def o131 (P : PM) : OB := (ob y0 (dq ⟨[vs q7 290,vs q0 291]⟩ 0) ⟨[]⟩)
noncomputable def o133 (P : PM) : OB := j0 q21 q22 (inClass (tT 10) 2)
noncomputable def o134 (P : PM) : OB := (ob y1 (df ⟨[vs q21 287,vs q22 288,vs q27 289,vi 33 0,vi 2 0,vi 0 0,vi 0 0,vi 3 0,vr 85,(Value.bool true),vi 181 0,vr 86,vn,vr 87,vr 88,vr 89,vi 292 0,vi 33 0,vs q27 293]⟩) ⟨[]⟩)
noncomputable def o135 (P : PM) : OB := j1 q21 q22 (inClass (tT 10) 2) q57 247 90
noncomputable def o138 (P : PM) : OB := (ob y0 (dq ⟨[vs q7 298,vs q33 299]⟩ 0) ⟨[]⟩)
noncomputable def o140 (P : PM) : OB := j0 q25 q26 (inClass (tT 10) 3)
noncomputable def o141 (P : PM) : OB := (ob y1 (df ⟨[vs q25 295,vs q26 296,vs q27 297,vi 36 0,vi 2 0,vi 0 0,vi 0 0,vi 3 0,vr 92,(Value.bool true),vi 181 0,vr 93,vn,vr 94,vr 95,vr 96,vi 300 0,vi 36 0,vs q27 301]⟩) ⟨[]⟩)
noncomputable def o142 (P : PM) : OB := j1 q25 q26 (inClass (tT 10) 3) q57 247 97
noncomputable def o145 (P : PM) : OB := (ob y0 (dq ⟨[vs q7 306,vs q81 307,vs q82 308,vs q67 309,vs q68 310]⟩ 0) ⟨[]⟩)
noncomputable def o147 (P : PM) : OB := j0 q5 q165 (inClass (tT 10) 4)
noncomputable def o148 (P : PM) : OB := (ob y1 (df ⟨[vs q5 303,vs q165 304,vs q27 305,vi 43 0,vi 3 0,vi 0 0,vi 0 0,vi 3 0,vr 99,(Value.bool true),vi 181 0,vr 100,vn,vr 101,vr 102,vr 103,vi 311 0,vi 43 0,vs q27 312]⟩) ⟨[]⟩)
noncomputable def o149 (P : PM) : OB := j1 q5 q165 (inClass (tT 10) 4) q57 247 104
noncomputable def o152 (P : PM) : OB := (ob y0 (dq ⟨[vs q7 317,vs q3 318]⟩ 0) ⟨[]⟩)
noncomputable def o154 (P : PM) : OB := j0 q72 q73 (inClass (tT 10) 5)
noncomputable def o155 (P : PM) : OB := (ob y1 (df ⟨[vs q72 314,vs q73 315,vs q27 316,vi 56 0,vi 2 0,vi 0 0,vi 0 0,vi 3 0,vr 106,(Value.bool true),vi 181 0,vr 107,vn,vr 108,vr 109,vr 110,vi 319 0,vi 56 0,vs q27 320]⟩) ⟨[]⟩)
noncomputable def o156 (P : PM) : OB := j1 q72 q73 (inClass (tT 10) 5) q57 247 111
noncomputable def o157 (P : PM) : OB := (ob y0 (dq ⟨[vs q74 322,vs q8 323,vs q75 324]⟩ 0) ⟨[]⟩)
noncomputable def o158 (P : PM) : OB := (ob y3 (dd ⟨[de P q50 267 (vs q57 247),de P q51 271 (vi 23 270),de P q9 279 (vr 77),de P q23 286 (vr 84),de P q21 294 (vr 91),de P q25 302 (vr 98),de P q5 313 (vr 105),de P q72 321 (vr 112),de P q54 325 (vr 113),de P q55 327 (vr 116),de P q56 329 (vr 117),de P q41 330 vn]⟩ 4) ⟨[]⟩)
noncomputable def o159 (P : PM) : OB := (ob y8 (Data.cls (ClassData.mk q30 [(Value.type y11)] [vr 115,(Value.type y11)] 114 q30 true [] [] false none false)) ⟨[none,none,(some (vs q30 260)),(some (vs q30 268)),(some (Value.builtin y18)),(some (Value.bool true))]⟩)
noncomputable def o160 (P : PM) : OB := (ob y13 (df ⟨[vs q55 326,vr 115,(Value.builtin y19),(Value.builtin y20)]⟩) ⟨[]⟩)
noncomputable def o161 (P : PM) : OB := (ob y13 (df ⟨[vs q56 328,vr 115,(Value.builtin y14),vn]⟩) ⟨[]⟩)
noncomputable def o162 (P : PM) : OB := (ob y15 (df ⟨[vr 115,vr 115,vr 115]⟩) ⟨[]⟩)
noncomputable def o163 (P : PM) : OB := (ob y6 (df ⟨[(Value.builtin y16),vr 115]⟩) ⟨[]⟩)
noncomputable def o164 (P : PM) : OB := (ob y3 (dd ⟨[de P q39 165 (vs q113 437),de P q41 166 vn,de P q42 167 vn,de P q43 168 (Value.builtin y4),de P q44 169 vn,de P q45 170 (vr 6),de P q46 171 (vr 4),de P q47 173 (vs q27 172),de P q48 174 vn,de P q49 206 (vr 24),de P q124 222 (vr 37),de P q77 238 (vr 49),de P q71 246 (vr 56),de P q162 250 (vi 0 249),de P q163 252 (vi 1 251),de P q78 259 (vr 63),de P q30 332 (vr 115),de P q1 344 (vr 126),de P q83 350 (vr 131),de P q80 361 (vr 138),de P q121 371 (vr 145),de P q100 381 (vr 152),de P q120 392 (vr 159),de P q36 401 (vr 166),de P q126 409 (vr 173),de P q38 415 (vr 178),de P q28 421 (vr 183),de P q24 430 (vr 190),de P q84 436 (vr 195)]⟩ 29) ⟨[]⟩)
noncomputable def o165 (P : PM) : OB := (Obj.mk vn none (df ⟨[vi 2 0,vi 0 0,vr 20,vi 4 0,vi 0 0,vr 33,vi 6 0,vi 0 0,vr 45,vi 9 0,vi 0 0,vr 55,vi 21 0,vi 0 0,vr 62,vi 23 0,vi 0 0,vr 69,vi 62 0,vi 0 0,vr 125,vi 67 0,vi 0 0,vr 130,vi 69 0,vi 0 0,vr 137,vi 73 0,vi 0 0,vr 144,vi 78 0,vi 0 0,vr 151,vi 82 0,vi 0 0,vr 158,vi 87 0,vi 0 0,vr 165,vi 101 0,vi 0 0,vr 172,vi 103 0,vi 0 0,vr 177,vi 111 0,vi 0 0,vr 182,vi 120 0,vi 0 0,vr 189,vi 122 0,vi 0 0,vr 194]⟩) ⟨[]⟩)
noncomputable def o168 (P : PM) : OB := (ob y0 (dq ⟨[vs q2 338,vs q3 339,vs q4 340,vs q0 341]⟩ 0) ⟨[]⟩)
noncomputable def o170 (P : PM) : OB := j0 q1 q1 (tT 12)
noncomputable def o171 (P : PM) : OB := (ob y1 (df ⟨[vs q1 335,vs q1 336,vs q27 337,vi 62 0,vi 2 0,vi 0 0,vi 0 0,vi 3 0,vr 120,(Value.bool true),vi 181 0,vr 121,vn,vr 122,vr 123,vr 124,vi 342 0,vi 62 0,vs q27 343]⟩) ⟨[]⟩)
noncomputable def o172 (P : PM) : OB := j1 q1 q1 (tT 12) q6 333 125
noncomputable def o175 (P : PM) : OB := j0 q83 q83 (tT 13)
noncomputable def o176 (P : PM) : OB := (ob y1 (df ⟨[vs q83 345,vs q83 346,vs q27 347,vi 67 0,vi 2 0,vi 0 0,vi 0 0,vi 3 0,vr 127,(Value.bool true),vi 181 0,vr 128,vn,vn,vn,vr 129,vi 348 0,vi 67 0,vs q27 349]⟩) ⟨[]⟩)
noncomputable def o177 (P : PM) : OB := j1 q83 q83 (tT 13) q6 333 130
noncomputable def o180 (P : PM) : OB := (ob y0 (dq ⟨[vs q2 354,vs q81 355,vs q82 356,vs q67 357,vs q68 358]⟩ 0) ⟨[]⟩)
noncomputable def o182 (P : PM) : OB := j0 q80 q80 (tT 14)
noncomputable def o183 (P : PM) : OB := (ob y1 (df ⟨[vs q80 351,vs q80 352,vs q27 353,vi 69 0,vi 3 0,vi 0 0,vi 0 0,vi 3 0,vr 132,(Value.bool true),vi 181 0,vr 133,vn,vr 134,vr 135,vr 136,vi 359 0,vi 69 0,vs q27 360]⟩) ⟨[]⟩)
noncomputable def o184 (P : PM) : OB := j1 q80 q80 (tT 14) q6 333 137
noncomputable def o187 (P : PM) : OB := (ob y0 (dq ⟨[vs q2 365,vs q3 366,vs q4 367,vs q0 368]⟩ 0) ⟨[]⟩)
noncomputable def o189 (P : PM) : OB := j0 q121 q121 (tT 15)
noncomputable def o190 (P : PM) : OB := (ob y1 (df ⟨[vs q121 362,vs q121 363,vs q27 364,vi 73 0,vi 2 0,vi 0 0,vi 0 0,vi 3 0,vr 139,(Value.bool true),vi 181 0,vr 140,vn,vr 141,vr 142,vr 143,vi 369 0,vi 73 0,vs q27 370]⟩) ⟨[]⟩)
noncomputable def o191 (P : PM) : OB := j1 q121 q121 (tT 15) q6 333 144
noncomputable def o194 (P : PM) : OB := (ob y0 (dq ⟨[vs q2 375,vs q3 376,vs q67 377,vs q68 378]⟩ 0) ⟨[]⟩)
noncomputable def o196 (P : PM) : OB := j0 q100 q100 (tT 16)
noncomputable def o197 (P : PM) : OB := (ob y1 (df ⟨[vs q100 372,vs q100 373,vs q27 374,vi 78 0,vi 2 0,vi 0 0,vi 0 0,vi 3 0,vr 146,(Value.bool true),vi 181 0,vr 147,vn,vr 148,vr 149,vr 150,vi 379 0,vi 78 0,vs q27 380]⟩) ⟨[]⟩)
noncomputable def o198 (P : PM) : OB := j1 q100 q100 (tT 16) q6 333 151
noncomputable def o201 (P : PM) : OB := (ob y0 (dq ⟨[vs q2 385,vs q3 386,vs q67 387,vs q68 388,vs q69 389]⟩ 0) ⟨[]⟩)
noncomputable def o203 (P : PM) : OB := j0 q120 q120 (tT 17)
noncomputable def o204 (P : PM) : OB := (ob y1 (df ⟨[vs q120 382,vs q120 383,vs q27 384,vi 82 0,vi 2 0,vi 0 0,vi 0 0,vi 3 0,vr 153,(Value.bool true),vi 181 0,vr 154,vn,vr 155,vr 156,vr 157,vi 390 0,vi 82 0,vs q27 391]⟩) ⟨[]⟩)
noncomputable def o205 (P : PM) : OB := j1 q120 q120 (tT 17) q6 333 158
noncomputable def o208 (P : PM) : OB := (ob y0 (dq ⟨[vs q2 396,vs q16 397,vs q3 398]⟩ 0) ⟨[]⟩)
noncomputable def o210 (P : PM) : OB := j0 q36 q36 (tT 18)
noncomputable def o211 (P : PM) : OB := (ob y1 (df ⟨[vs q36 393,vs q36 394,vs q27 395,vi 87 0,vi 3 0,vi 0 0,vi 0 0,vi 3 0,vr 160,(Value.bool true),vi 181 0,vr 161,vn,vr 162,vr 163,vr 164,vi 399 0,vi 87 0,vs q27 400]⟩) ⟨[]⟩)
noncomputable def o212 (P : PM) : OB := j1 q36 q36 (tT 18) q6 333 165
noncomputable def o215 (P : PM) : OB := (ob y0 (dq ⟨[vs q79 405,vs q0 406]⟩ 0) ⟨[]⟩)
noncomputable def o217 (P : PM) : OB := j0 q126 q126 (tT 19)
noncomputable def o218 (P : PM) : OB := (ob y1 (df ⟨[vs q126 402,vs q126 403,vs q27 404,vi 101 0,vi 2 0,vi 0 0,vi 0 0,vi 3 0,vr 167,(Value.bool true),vi 181 0,vr 168,vn,vr 169,vr 170,vr 171,vi 407 0,vi 101 0,vs q27 408]⟩) ⟨[]⟩)
noncomputable def o219 (P : PM) : OB := j1 q126 q126 (tT 19) q6 333 172
noncomputable def o222 (P : PM) : OB := j0 q38 q38 (tT 20)
noncomputable def o223 (P : PM) : OB := (ob y1 (df ⟨[vs q38 410,vs q38 411,vs q27 412,vi 103 0,vi 2 0,vi 0 0,vi 0 0,vi 3 0,vr 174,(Value.bool true),vi 181 0,vr 175,vn,vn,vn,vr 176,vi 413 0,vi 103 0,vs q27 414]⟩) ⟨[]⟩)
noncomputable def o224 (P : PM) : OB := j1 q38 q38 (tT 20) q6 333 177
noncomputable def o227 (P : PM) : OB := j0 q28 q28 (tT 21)
noncomputable def o228 (P : PM) : OB := (ob y1 (df ⟨[vs q28 416,vs q28 417,vs q27 418,vi 111 0,vi 1 0,vi 0 0,vi 0 0,vi 3 0,vr 179,(Value.bool true),vi 181 0,vr 180,vn,vn,vn,vr 181,vi 419 0,vi 111 0,vs q27 420]⟩) ⟨[]⟩)
noncomputable def o229 (P : PM) : OB := j1 q28 q28 (tT 21) q6 333 182
noncomputable def o232 (P : PM) : OB := (ob y0 (dq ⟨[vs q8 427]⟩ 0) ⟨[]⟩)
noncomputable def o234 (P : PM) : OB := j0 q24 q24 (tT 23)
noncomputable def o235 (P : PM) : OB := (ob y1 (df ⟨[vs q24 424,vs q24 425,vs q27 426,vi 120 0,vi 1 0,vi 0 0,vi 0 0,vi 3 0,vr 184,(Value.bool true),vi 181 0,vr 185,vn,vr 186,vr 187,vr 188,vi 428 0,vi 120 0,vs q27 429]⟩) ⟨[]⟩)
noncomputable def o236 (P : PM) : OB := j1 q24 q24 (tT 23) q122 422 189
noncomputable def o239 (P : PM) : OB := j0 q84 q84 (tT 24)
noncomputable def o240 (P : PM) : OB := (ob y1 (df ⟨[vs q84 431,vs q84 432,vs q27 433,vi 122 0,vi 1 0,vi 0 0,vi 0 0,vi 3 0,vr 191,(Value.bool true),vi 181 0,vr 192,vn,vn,vn,vr 193,vi 434 0,vi 122 0,vs q27 435]⟩) ⟨[]⟩)
noncomputable def o241 (P : PM) : OB := j1 q84 q84 (tT 24) q122 422 194
noncomputable def o242 (P : PM) : OB := (ob y3 (dd ⟨[de P q39 165 (vs q20 498),de P q41 166 vn,de P q42 167 vn,de P q43 168 (Value.builtin y4),de P q44 169 vn,de P q45 170 (vr 6),de P q46 171 (vr 4),de P q47 173 (vs q27 172),de P q48 174 vn,de P q49 206 (vr 24),de P q124 222 (vr 37),de P q77 238 (vr 49),de P q71 246 (vr 56),de P q162 250 (vi 0 249),de P q163 252 (vi 1 251),de P q78 259 (vr 63),de P q30 332 (vr 115),de P q1 344 (vr 126),de P q83 350 (vr 131),de P q80 361 (vr 138),de P q121 371 (vr 145),de P q100 381 (vr 152),de P q120 392 (vr 159),de P q36 401 (vr 166),de P q126 409 (vr 173),de P q38 415 (vr 178),de P q28 421 (vr 183),de P q24 430 (vr 190),de P q84 436 (vr 195),de P q145 448 (vr 202),de P q117 457 (vr 209),de P q144 466 (vr 216),de P q111 475 (vr 223),de P q123 482 (vr 230),de P q59 491 (vr 237),de P q101 497 (vr 242)]⟩ 36) ⟨[]⟩)
noncomputable def o243 (P : PM) : OB := (Obj.mk vn none (df ⟨[vi 2 0,vi 0 0,vr 20,vi 4 0,vi 0 0,vr 33,vi 6 0,vi 0 0,vr 45,vi 9 0,vi 0 0,vr 55,vi 21 0,vi 0 0,vr 62,vi 23 0,vi 0 0,vr 69,vi 62 0,vi 0 0,vr 125,vi 67 0,vi 0 0,vr 130,vi 69 0,vi 0 0,vr 137,vi 73 0,vi 0 0,vr 144,vi 78 0,vi 0 0,vr 151,vi 82 0,vi 0 0,vr 158,vi 87 0,vi 0 0,vr 165,vi 101 0,vi 0 0,vr 172,vi 103 0,vi 0 0,vr 177,vi 111 0,vi 0 0,vr 182,vi 120 0,vi 0 0,vr 189,vi 122 0,vi 0 0,vr 194,vi 133 0,vi 0 0,vr 201,vi 138 0,vi 0 0,vr 208,vi 143 0,vi 0 0,vr 215,vi 148 0,vi 0 0,vr 222,vi 151 0,vi 0 0,vr 229,vi 153 0,vi 0 0,vr 236,vi 167 0,vi 0 0,vr 241]⟩) ⟨[]⟩)
noncomputable def o246 (P : PM) : OB := (ob y0 (dq ⟨[vs q52 442,vs q112 443,vs q118 444,vs q119 445]⟩ 0) ⟨[]⟩)
noncomputable def o248 (P : PM) : OB := j0 q145 q145 (tT 26)
noncomputable def o249 (P : PM) : OB := (ob y1 (df ⟨[vs q145 439,vs q145 440,vs q27 441,vi 133 0,vi 2 0,vi 0 0,vi 0 0,vi 3 0,vr 196,(Value.bool true),vi 181 0,vr 197,vn,vr 198,vr 199,vr 200,vi 446 0,vi 133 0,vs q27 447]⟩) ⟨[]⟩)
noncomputable def o250 (P : PM) : OB := j1 q145 q145 (tT 26) q113 437 201
noncomputable def o253 (P : PM) : OB := (ob y0 (dq ⟨[vs q52 452,vs q118 453,vs q119 454]⟩ 0) ⟨[]⟩)
noncomputable def o255 (P : PM) : OB := j0 q117 q117 (tT 27)
noncomputable def o256 (P : PM) : OB := (ob y1 (df ⟨[vs q117 449,vs q117 450,vs q27 451,vi 138 0,vi 1 0,vi 0 0,vi 0 0,vi 3 0,vr 203,(Value.bool true),vi 181 0,vr 204,vn,vr 205,vr 206,vr 207,vi 455 0,vi 138 0,vs q27 456]⟩) ⟨[]⟩)
noncomputable def o257 (P : PM) : OB := j1 q117 q117 (tT 27) q113 437 208
noncomputable def o260 (P : PM) : OB := (ob y0 (dq ⟨[vs q52 461,vs q118 462,vs q119 463]⟩ 0) ⟨[]⟩)
noncomputable def o262 (P : PM) : OB := j0 q144 q144 (tT 28)
noncomputable def o263 (P : PM) : OB := (ob y1 (df ⟨[vs q144 458,vs q144 459,vs q27 460,vi 143 0,vi 1 0,vi 0 0,vi 0 0,vi 3 0,vr 210,(Value.bool true),vi 181 0,vr 211,vn,vr 212,vr 213,vr 214,vi 464 0,vi 143 0,vs q27 465]⟩) ⟨[]⟩)
noncomputable def o264 (P : PM) : OB := j1 q144 q144 (tT 28) q113 437 215
noncomputable def o267 (P : PM) : OB := (ob y0 (dq ⟨[vs q52 470,vs q112 471,vs q67 472]⟩ 0) ⟨[]⟩)
noncomputable def o269 (P : PM) : OB := j0 q111 q111 (tT 29)
noncomputable def o270 (P : PM) : OB := (ob y1 (df ⟨[vs q111 467,vs q111 468,vs q27 469,vi 148 0,vi 2 0,vi 0 0,vi 0 0,vi 3 0,vr 217,(Value.bool true),vi 181 0,vr 218,vn,vr 219,vr 220,vr 221,vi 473 0,vi 148 0,vs q27 474]⟩) ⟨[]⟩)
noncomputable def o271 (P : PM) : OB := j1 q111 q111 (tT 29) q113 437 222
noncomputable def o274 (P : PM) : OB := (ob y0 (dq ⟨[vs q52 479]⟩ 0) ⟨[]⟩)
noncomputable def o276 (P : PM) : OB := j0 q123 q123 (tT 30)
noncomputable def o277 (P : PM) : OB := (ob y1 (df ⟨[vs q123 476,vs q123 477,vs q27 478,vi 151 0,vi 1 0,vi 0 0,vi 0 0,vi 3 0,vr 224,(Value.bool true),vi 181 0,vr 225,vn,vr 226,vr 227,vr 228,vi 480 0,vi 151 0,vs q27 481]⟩) ⟨[]⟩)
noncomputable def o278 (P : PM) : OB := j1 q123 q123 (tT 30) q113 437 229
noncomputable def o281 (P : PM) : OB := (ob y0 (dq ⟨[vs q16 486,vs q52 487,vs q112 488]⟩ 0) ⟨[]⟩)
noncomputable def o283 (P : PM) : OB := j0 q59 q59 (tT 31)
noncomputable def o284 (P : PM) : OB := (ob y1 (df ⟨[vs q59 483,vs q59 484,vs q27 485,vi 153 0,vi 3 0,vi 0 0,vi 0 0,vi 3 0,vr 231,(Value.bool true),vi 181 0,vr 232,vn,vr 233,vr 234,vr 235,vi 489 0,vi 153 0,vs q27 490]⟩) ⟨[]⟩)
noncomputable def o285 (P : PM) : OB := j1 q59 q59 (tT 31) q113 437 236
noncomputable def o288 (P : PM) : OB := j0 q101 q101 (tT 32)
noncomputable def o289 (P : PM) : OB := (ob y1 (df ⟨[vs q101 492,vs q101 493,vs q27 494,vi 167 0,vi 1 0,vi 0 0,vi 0 0,vi 3 0,vr 238,(Value.bool true),vi 181 0,vr 239,vn,vn,vn,vr 240,vi 495 0,vi 167 0,vs q27 496]⟩) ⟨[]⟩)
noncomputable def o290 (P : PM) : OB := j1 q101 q101 (tT 32) q113 437 241
noncomputable def o291 (P : PM) : OB := (ob y3 (dd ⟨[de P q39 165 (vs q99 549),de P q41 166 vn,de P q42 167 vn,de P q43 168 (Value.builtin y4),de P q44 169 vn,de P q45 170 (vr 6),de P q46 171 (vr 4),de P q47 173 (vs q27 172),de P q48 174 vn,de P q49 206 (vr 24),de P q124 222 (vr 37),de P q77 238 (vr 49),de P q71 246 (vr 56),de P q162 250 (vi 0 249),de P q163 252 (vi 1 251),de P q78 259 (vr 63),de P q30 332 (vr 115),de P q1 344 (vr 126),de P q83 350 (vr 131),de P q80 361 (vr 138),de P q121 371 (vr 145),de P q100 381 (vr 152),de P q120 392 (vr 159),de P q36 401 (vr 166),de P q126 409 (vr 173),de P q38 415 (vr 178),de P q28 421 (vr 183),de P q24 430 (vr 190),de P q84 436 (vr 195),de P q145 448 (vr 202),de P q117 457 (vr 209),de P q144 466 (vr 216),de P q111 475 (vr 223),de P q123 482 (vr 230),de P q59 491 (vr 237),de P q101 497 (vr 242),de P q160 548 (vr 274),de P q114 558 (vr 285),de P q127 573 (vr 292)]⟩ 39) ⟨[]⟩)
noncomputable def o292 (P : PM) : OB := (Obj.mk vn none (df ⟨[vi 2 0,vi 0 0,vr 20,vi 4 0,vi 0 0,vr 33,vi 6 0,vi 0 0,vr 45,vi 9 0,vi 0 0,vr 55,vi 21 0,vi 0 0,vr 62,vi 23 0,vi 0 0,vr 69,vi 62 0,vi 0 0,vr 125,vi 67 0,vi 0 0,vr 130,vi 69 0,vi 0 0,vr 137,vi 73 0,vi 0 0,vr 144,vi 78 0,vi 0 0,vr 151,vi 82 0,vi 0 0,vr 158,vi 87 0,vi 0 0,vr 165,vi 101 0,vi 0 0,vr 172,vi 103 0,vi 0 0,vr 177,vi 111 0,vi 0 0,vr 182,vi 120 0,vi 0 0,vr 189,vi 122 0,vi 0 0,vr 194,vi 133 0,vi 0 0,vr 201,vi 138 0,vi 0 0,vr 208,vi 143 0,vi 0 0,vr 215,vi 148 0,vi 0 0,vr 222,vi 151 0,vi 0 0,vr 229,vi 153 0,vi 0 0,vr 236,vi 167 0,vi 0 0,vr 241,vi 170 0,vi 0 0,vr 248,vi 191 0,vi 0 0,vr 284,vi 195 0,vi 0 0,vr 291]⟩) ⟨[]⟩)
noncomputable def o295 (P : PM) : OB := (ob y3 (dd ⟨[de P q50 507 (vs q20 498),de P q168 509 (vs q160 508),de P q51 511 (vi 170 510),de P q9 517 (vr 254),de P q4 523 (vr 259),de P q52 531 (vr 266),de P q53 537 (vr 271),de P q54 541 (vr 272)]⟩ 8) ⟨[]⟩)
noncomputable def o297 (P : PM) : OB := (Obj.mk vn none (df ⟨[vi 172 0,vi 4 0,vr 253,vi 177 0,vi 4 0,vr 258,vi 181 0,vi 4 0,vr 265,vi 185 0,vi 4 0,vr 270]⟩) ⟨[]⟩)
noncomputable def o298 (P : PM) : OB := (ob y1 (df ⟨[vs q160 502,vs q160 503,vs q27 504,vi 170 0,vi 0 0,vi 0 0,vi 0 0,vi 0 0,vr 246,(Value.bool false),vi 181 0,vr 247,vn,vn,vn,vn,vi 505 0,vi 170 0,vs q27 506]⟩) ⟨[]⟩)
noncomputable def o299 (P : PM) : OB := (ob y2 Data.plain ⟨[(some (vr 248)),(some (vr 3)),(some (vr 245)),none,(some (vs q20 498)),none,(some (vr 0))]⟩)
noncomputable def o302 (P : PM) : OB := j0 q9 q10 (inClass (tT 34) 0)
noncomputable def o303 (P : PM) : OB := (ob y1 (df ⟨[vs q9 512,vs q10 513,vs q27 514,vi 172 0,vi 4 0,vi 0 0,vi 0 0,vi 3 0,vr 250,(Value.bool true),vi 181 0,vr 251,vn,vn,vn,vr 252,vi 515 0,vi 172 0,vs q27 516]⟩) ⟨[]⟩)
noncomputable def o304 (P : PM) : OB := j1 q9 q10 (inClass (tT 34) 0) q20 498 253
noncomputable def o307 (P : PM) : OB := j0 q4 q178 (inClass (tT 34) 1)
noncomputable def o308 (P : PM) : OB := (ob y1 (df ⟨[vs q4 518,vs q178 519,vs q27 520,vi 177 0,vi 2 0,vi 0 0,vi 0 0,vi 3 0,vr 255,(Value.bool true),vi 181 0,vr 256,vn,vn,vn,vr 257,vi 521 0,vi 177 0,vs q27 522]⟩) ⟨[]⟩)
noncomputable def o309 (P : PM) : OB := j1 q4 q178 (inClass (tT 34) 1) q20 498 258
noncomputable def o312 (P : PM) : OB := (ob y0 (dq ⟨[vs q7 527,vs q8 528]⟩ 0) ⟨[]⟩)
noncomputable def o314 (P : PM) : OB := j0 q52 q167 (inClass (tT 34) 2)
noncomputable def o315 (P : PM) : OB := (ob y1 (df ⟨[vs q52 524,vs q167 525,vs q27 526,vi 181 0,vi 1 0,vi 0 0,vi 0 0,vi 3 0,vr 260,(Value.bool true),vi 181 0,vr 261,vn,vr 262,vr 263,vr 264,vi 529 0,vi 181 0,vs q27 530]⟩) ⟨[]⟩)
noncomputable def o316 (P : PM) : OB := j1 q52 q167 (inClass (tT 34) 2) q20 498 265
noncomputable def o319 (P : PM) : OB := j0 q53 q171 (inClass (tT 34) 3)
noncomputable def o320 (P : PM) : OB := (ob y1 (df ⟨[vs q53 532,vs q171 533,vs q27 534,vi 185 0,vi 3 0,vi 0 0,vi 0 0,vi 3 0,vr 267,(Value.bool true),vi 181 0,vr 268,vn,vn,vn,vr 269,vi 535 0,vi 185 0,vs q27 536]⟩) ⟨[]⟩)
noncomputable def o321 (P : PM) : OB := j1 q53 q171 (inClass (tT 34) 3) q20 498 270
noncomputable def o322 (P : PM) : OB := (ob y0 (dq ⟨[vs q12 538,vs q11 539,vs q13 540]⟩ 0) ⟨[]⟩)
noncomputable def o323 (P : PM) : OB := (ob y3 (dd ⟨[de P q50 507 (vs q20 498),de P q51 511 (vi 170 510),de P q9 517 (vr 254),de P q4 523 (vr 259),de P q52 531 (vr 266),de P q53 537 (vr 271),de P q54 541 (vr 272),de P q55 543 (vr 275),de P q56 545 (vr 276),de P q41 546 vn]⟩ 4) ⟨[]⟩)
noncomputable def o324 (P : PM) : OB := (ob y8 (Data.cls (ClassData.mk q160 [(Value.type y11)] [vr 274,(Value.type y11)] 273 q160 true [] [] false none false)) ⟨[none,none,(some (vs q160 500)),(some (vs q160 508)),(some (Value.builtin y18)),(some (Value.bool true))]⟩)
noncomputable def o325 (P : PM) : OB := (ob y13 (df ⟨[vs q55 542,vr 274,(Value.builtin y19),(Value.builtin y20)]⟩) ⟨[]⟩)
noncomputable def o326 (P : PM) : OB := (ob y13 (df ⟨[vs q56 544,vr 274,(Value.builtin y14),vn]⟩) ⟨[]⟩)
noncomputable def o327 (P : PM) : OB := (ob y15 (df ⟨[vr 274,vr 274,vr 274]⟩) ⟨[]⟩)
noncomputable def o328 (P : PM) : OB := (ob y6 (df ⟨[(Value.builtin y16),vr 274]⟩) ⟨[]⟩)
noncomputable def o331 (P : PM) : OB := (ob y0 (dq ⟨[vs q115 554,vs q116 555]⟩ 0) ⟨[]⟩)
noncomputable def o333 (P : PM) : OB := j0 q114 q114 (tT 36)
noncomputable def o334 (P : PM) : OB := (ob y1 (df ⟨[vs q114 551,vs q114 552,vs q27 553,vi 191 0,vi 2 0,vi 0 0,vi 0 0,vi 3 0,vr 279,(Value.bool true),vi 181 0,vr 280,vn,vr 281,vr 282,vr 283,vi 556 0,vi 191 0,vs q27 557]⟩) ⟨[]⟩)
noncomputable def o335 (P : PM) : OB := j1 q114 q114 (tT 36) q99 549 284
noncomputable def o338 (P : PM) : OB := (ob y0 (dq ⟨[vs q102 562,vs q103 563,vs q104 564,vs q86 565,vs q105 566,vs q106 567,vs q107 568,vs q108 569,vs q109 570]⟩ 0) ⟨[]⟩)
noncomputable def o340 (P : PM) : OB := j0 q127 q127 (tT 37)
noncomputable def o341 (P : PM) : OB := (ob y1 (df ⟨[vs q127 559,vs q127 560,vs q27 561,vi 195 0,vi 3 0,vi 0 0,vi 0 0,vi 3 0,vr 286,(Value.bool true),vi 181 0,vr 287,vn,vr 288,vr 289,vr 290,vi 571 0,vi 195 0,vs q27 572]⟩) ⟨[]⟩)
noncomputable def o342 (P : PM) : OB := j1 q127 q127 (tT 37) q99 549 291
noncomputable def o343 (P : PM) : OB := (ob y3 (dd ⟨[de P q39 165 (vs q99 549),de P q41 166 vn,de P q42 167 vn,de P q43 168 (Value.builtin y4),de P q44 169 vn,de P q45 170 (vr 6),de P q46 171 (vr 4),de P q47 173 (vs q27 172),de P q48 174 vn,de P q49 206 (vr 24),de P q124 222 (vr 37),de P q77 238 (vr 49),de P q71 246 (vr 56),de P q162 250 (vi 0 249),de P q163 252 (vi 1 251),de P q78 259 (vr 63),de P q30 332 (vr 115),de P q1 344 (vr 126),de P q83 350 (vr 131),de P q80 361 (vr 138),de P q121 371 (vr 145),de P q100 381 (vr 152),de P q120 392 (vr 159),de P q36 401 (vr 166),de P q126 409 (vr 173),de P q38 415 (vr 178),de P q28 421 (vr 183),de P q24 430 (vr 190),de P q84 436 (vr 195),de P q145 448 (vr 202),de P q117 457 (vr 209),de P q144 466 (vr 216),de P q111 475 (vr 223),de P q123 482 (vr 230),de P q59 491 (vr 237),de P q101 497 (vr 242),de P q160 548 (vr 274),de P q114 558 (vr 285),de P q127 573 (vr 292),de P q58 584 (vr 299),de P q93 594 (vr 306),de P q85 600 (vr 311),de P q70 613 (vr 318),de P q132 619 (vr 323),de P q146 625 (vr 328),de P q130 638 (vr 335),de P q151 644 (vr 340)]⟩ 47) ⟨[]⟩)
noncomputable def o344 (P : PM) : OB := (Obj.mk vn none (df ⟨[vi 2 0,vi 0 0,vr 20,vi 4 0,vi 0 0,vr 33,vi 6 0,vi 0 0,vr 45,vi 9 0,vi 0 0,vr 55,vi 21 0,vi 0 0,vr 62,vi 23 0,vi 0 0,vr 69,vi 62 0,vi 0 0,vr 125,vi 67 0,vi 0 0,vr 130,vi 69 0,vi 0 0,vr 137,vi 73 0,vi 0 0,vr 144,vi 78 0,vi 0 0,vr 151,vi 82 0,vi 0 0,vr 158,vi 87 0,vi 0 0,vr 165,vi 101 0,vi 0 0,vr 172,vi 103 0,vi 0 0,vr 177,vi 111 0,vi 0 0,vr 182,vi 120 0,vi 0 0,vr 189,vi 122 0,vi 0 0,vr 194,vi 133 0,vi 0 0,vr 201,vi 138 0,vi 0 0,vr 208,vi 143 0,vi 0 0,vr 215,vi 148 0,vi 0 0,vr 222,vi 151 0,vi 0 0,vr 229,vi 153 0,vi 0 0,vr 236,vi 167 0,vi 0 0,vr 241,vi 170 0,vi 0 0,vr 248,vi 191 0,vi 0 0,vr 284,vi 195 0,vi 0 0,vr 291,vi 213 0,vi 0 0,vr 298,vi 223 0,vi 0 0,vr 305,vi 228 0,vi 0 0,vr 310,vi 230 0,vi 0 0,vr 317,vi 250 0,vi 0 0,vr 322,vi 274 0,vi 0 0,vr 327,vi 291 0,vi 0 0,vr 334,vi 300 0,vi 0 0,vr 339]⟩) ⟨[]⟩)
noncomputable def o347 (P : PM) : OB := (ob y0 (dq ⟨[vs q60 577,vs q61 578,vs q62 579,vs q63 580,vs q65 581]⟩ 0) ⟨[]⟩)
noncomputable def o349 (P : PM) : OB := j0 q58 q58 (tT 38)
noncomputable def o350 (P : PM) : OB := (ob y1 (df ⟨[vs q58 574,vs q58 575,vs q27 576,vi 213 0,vi 3 0,vi 0 0,vi 0 0,vi 3 0,vr 293,(Value.bool true),vi 181 0,vr 294,vn,vr 295,vr 296,vr 297,vi 582 0,vi 213 0,vs q27 583]⟩) ⟨[]⟩)
noncomputable def o351 (P : PM) : OB := j1 q58 q58 (tT 38) q99 549 298
noncomputable def o354 (P : PM) : OB := (ob y0 (dq ⟨[vs q60 588,vs q87 589,vs q96 590,vs q97 591]⟩ 0) ⟨[]⟩)
noncomputable def o356 (P : PM) : OB := j0 q93 q93 (tT 39)
noncomputable def o357 (P : PM) : OB := (ob y1 (df ⟨[vs q93 585,vs q93 586,vs q27 587,vi 223 0,vi 2 0,vi 0 0,vi 0 0,vi 3 0,vr 300,(Value.bool true),vi 181 0,vr 301,vn,vr 302,vr 303,vr 304,vi 592 0,vi 223 0,vs q27 593]⟩) ⟨[]⟩)
noncomputable def o358 (P : PM) : OB := j1 q93 q93 (tT 39) q99 549 305
noncomputable def o361 (P : PM) : OB := j0 q85 q85 (tT 40)
noncomputable def o362 (P : PM) : OB := (ob y1 (df ⟨[vs q85 595,vs q85 596,vs q27 597,vi 228 0,vi 2 0,vi 0 0,vi 0 0,vi 3 0,vr 307,(Value.bool true),vi 181 0,vr 308,vn,vn,vn,vr 309,vi 598 0,vi 228 0,vs q27 599]⟩) ⟨[]⟩)
noncomputable def o363 (P : PM) : OB := j1 q85 q85 (tT 40) q99 549 310
noncomputable def o366 (P : PM) : OB := (ob y0 (dq ⟨[vs q60 604,vs q86 605,vs q87 606,vs q96 607,vs q97 608,vs q61 609,vs q62 610]⟩ 0) ⟨[]⟩)
noncomputable def o368 (P : PM) : OB := j0 q70 q70 (tT 41)
noncomputable def o369 (P : PM) : OB := (ob y1 (df ⟨[vs q70 601,vs q70 602,vs q27 603,vi 230 0,vi 3 0,vi 0 0,vi 0 0,vi 3 0,vr 312,(Value.bool true),vi 181 0,vr 313,vn,vr 314,vr 315,vr 316,vi 611 0,vi 230 0,vs q27 612]⟩) ⟨[]⟩)
noncomputable def o370 (P : PM) : OB := j1 q70 q70 (tT 41) q99 549 317
noncomputable def o373 (P : PM) : OB := j0 q132 q132 (tT 42)
noncomputable def o374 (P : PM) : OB := (ob y1 (df ⟨[vs q132 614,vs q132 615,vs q27 616,vi 250 0,vi 4 0,vi 0 0,vi 0 0,vi 3 0,vr 319,(Value.bool true),vi 181 0,vr 320,vn,vn,vn,vr 321,vi 617 0,vi 250 0,vs q27 618]⟩) ⟨[]⟩)
noncomputable def o375 (P : PM) : OB := j1 q132 q132 (tT 42) q99 549 322
noncomputable def o378 (P : PM) : OB := j0 q146 q146 (tT 43)
noncomputable def o379 (P : PM) : OB := (ob y1 (df ⟨[vs q146 620,vs q146 621,vs q27 622,vi 274 0,vi 3 0,vi 0 0,vi 0 0,vi 3 0,vr 324,(Value.bool true),vi 181 0,vr 325,vn,vn,vn,vr 326,vi 623 0,vi 274 0,vs q27 624]⟩) ⟨[]⟩)
noncomputable def o380 (P : PM) : OB := j1 q146 q146 (tT 43) q99 549 327
noncomputable def o383 (P : PM) : OB := (ob y0 (dq ⟨[vs q103 629,vs q109 630,vs q104 631,vs q131 632,vs q108 633,vs q106 634,vs q105 635]⟩ 0) ⟨[]⟩)
noncomputable def o385 (P : PM) : OB := j0 q130 q130 (tT 44)
noncomputable def o386 (P : PM) : OB := (ob y1 (df ⟨[vs q130 626,vs q130 627,vs q27 628,vi 291 0,vi 3 0,vi 0 0,vi 0 0,vi 3 0,vr 329,(Value.bool true),vi 181 0,vr 330,vn,vr 331,vr 332,vr 333,vi 636 0,vi 291 0,vs q27 637]⟩) ⟨[]⟩)
noncomputable def o387 (P : PM) : OB := j1 q130 q130 (tT 44) q99 549 334
noncomputable def o390 (P : PM) : OB := j0 q151 q151 (tT 45)
noncomputable def o391 (P : PM) : OB := (ob y1 (df ⟨[vs q151 639,vs q151 640,vs q27 641,vi 300 0,vi 1 0,vi 0 0,vi 0 0,vi 3 0,vr 336,(Value.bool true),vi 181 0,vr 337,vn,vn,vn,vr 338,vi 642 0,vi 300 0,vs q27 643]⟩) ⟨[]⟩)
noncomputable def o392 (P : PM) : OB := j1 q151 q151 (tT 45) q99 549 339
noncomputable def heap_46 (P : Params) : Heap := (Heap.mk ⟨[b0 P,b1 P,b2 P,b3 P,b4 P,b5 P,b6 P,b7 P,b8 P,b9 P,b10 P,o43 P,o44 P,o45 P,o46 P]⟩ (PySem.Life.mk [] [] [] 0 [] [] false ⟨[]⟩ [] 0 false false false 0 [2000,10,10] false 0 true [] [] 0 false))
noncomputable def tree_47 (P : PM) : BT := (nd (b0 P) (nd (b1 P) (nd (b3 P) (nd (b7 P) nl nl) (nd (o43 P) nl nl)) (nd (b5 P) (nd (b9 P) nl nl) (nd (o45 P) nl nl))) (nd (b2 P) (nd (b4 P) (nd (b8 P) nl nl) (nd (o44 P) nl nl)) (nd (b6 P) (nd (b10 P) nl nl) (nd (o46 P) nl nl))))
noncomputable def tree_63 (P : PM) : BT := (nd (b0 P) (nd (b1 P) (nd (o49 P) (nd (b7 P) (nd (o51 P) nl nl) (nd (o59 P) nl nl)) (nd (o43 P) (nd (o44 P) nl nl) (nd (o63 P) nl nl))) (nd (b5 P) (nd (b9 P) (nd (o53 P) nl nl) (nd (o61 P) nl nl)) (nd (o45 P) (nd (o57 P) nl nl) nl))) (nd (b2 P) (nd (b4 P) (nd (b8 P) (nd (o52 P) nl nl) (nd (o60 P) nl nl)) (nd (o50 P) (nd (o56 P) nl nl) nl)) (nd (b6 P) (nd (b10 P) (nd (o43 P) nl nl) (nd (o62 P) nl nl)) (nd (o46 P) (nd (o43 P) nl nl) nl))))
noncomputable def tree_78 (P : PM) : BT := (nd (b0 P) (nd (b1 P) (nd (o64 P) (nd (b7 P) (nd (o51 P) (nd (o43 P) nl nl) nl) (nd (o59 P) (nd (o78 P) nl nl) nl)) (nd (o43 P) (nd (o44 P) (nd (o43 P) nl nl) nl) (nd (o63 P) nl nl))) (nd (b5 P) (nd (b9 P) (nd (o53 P) (nd (o72 P) nl nl) nl) (nd (o61 P) nl nl)) (nd (o45 P) (nd (o57 P) (nd (o76 P) nl nl) nl) (nd (o52 P) nl nl)))) (nd (b2 P) (nd (b4 P) (nd (b8 P) (nd (o52 P) (nd (o44 P) nl nl) nl) (nd (o66 P) nl nl)) (nd (o65 P) (nd (o56 P) (nd (o75 P) nl nl) nl) (nd (o67 P) nl nl))) (nd (b6 P) (nd (b10 P) (nd (o43 P) (nd (o73 P) nl nl) nl) (nd (o62 P) nl nl)) (nd (o46 P) (nd (o43 P) (nd (o77 P) nl nl) nl) (nd (o69 P) nl nl)))))
noncomputable def tree_105 (P : PM) : BT := (nd (b0 P) (nd (b1 P) (nd (o79 P) (nd (b7 P) (nd (o51 P) (nd (o43 P) (nd (o105 P) nl nl) nl) (nd (o43 P) nl nl)) (nd (o59 P) (nd (o78 P) nl nl) (nd (o97 P) nl nl))) (nd (o43 P) (nd (o44 P) (nd (o43 P) nl nl) (nd (o93 P) nl nl)) (nd (o63 P) (nd (o43 P) nl nl) (nd (o101 P) nl nl)))) (nd (b5 P) (nd (b9 P) (nd (o53 P) (nd (o72 P) nl nl) (nd (o91 P) nl nl)) (nd (o61 P) (nd (o52 P) nl nl) (nd (o43 P) nl nl))) (nd (o45 P) (nd (o57 P) (nd (o76 P) nl nl) (nd (o44 P) nl nl)) (nd (o52 P) (nd (o87 P) nl nl) (nd (o103 P) nl nl))))) (nd (b2 P) (nd (b4 P) (nd (b8 P) (nd (o52 P) (nd (o44 P) nl nl) (nd (o90 P) nl nl)) (nd (o81 P) (nd (o67 P) nl nl) (nd (o98 P) nl nl))) (nd (o80 P) (nd (o56 P) (nd (o75 P) nl nl) (nd (o43 P) nl nl)) (nd (o67 P) (nd (o44 P) nl nl) (nd (o43 P) nl nl)))) (nd (b6 P) (nd (b10 P) (nd (o43 P) (nd (o73 P) nl nl) (nd (o92 P) nl nl)) (nd (o62 P) (nd (o84 P) nl nl) (nd (o44 P) nl nl))) (nd (o46 P) (nd (o43 P) (nd (o77 P) nl nl) (nd (o96 P) nl nl)) (nd (o69 P) (nd (o88 P) nl nl) (nd (o104 P) nl nl))))))
noncomputable def tree_163 (P : PM) : BT := (nd (b0 P) (nd (b1 P) (nd (o106 P) (nd (b7 P) (nd (o51 P) (nd (o43 P) (nd (o105 P) nl nl) (nd (o43 P) nl nl)) (nd (o43 P) (nd (o44 P) nl nl) (nd (o155 P) nl nl))) (nd (o59 P) (nd (o78 P) (nd (o43 P) nl nl) (nd (o147 P) nl nl)) (nd (o97 P) (nd (o131 P) nl nl) (nd (o163 P) nl nl)))) (nd (o43 P) (nd (o44 P) (nd (o43 P) (nd (o43 P) nl nl) (nd (o43 P) nl nl)) (nd (o93 P) (nd (o127 P) nl nl) (nd (o159 P) nl nl))) (nd (o63 P) (nd (o43 P) (nd (o119 P) nl nl) (nd (o44 P) nl nl)) (nd (o101 P) (nd (o135 P) nl nl) nl)))) (nd (b5 P) (nd (b9 P) (nd (o53 P) (nd (o72 P) (nd (o52 P) nl nl) (nd (o141 P) nl nl)) (nd (o91 P) (nd (o43 P) nl nl) (nd (o157 P) nl nl))) (nd (o61 P) (nd (o52 P) (nd (o117 P) nl nl) (nd (o149 P) nl nl)) (nd (o43 P) (nd (o133 P) nl nl) nl))) (nd (o45 P) (nd (o57 P) (nd (o76 P) (nd (o113 P) nl nl) (nd (o145 P) nl nl)) (nd (o44 P) (nd (o43 P) nl nl) (nd (o161 P) nl nl))) (nd (o52 P) (nd (o87 P) (nd (o121 P) nl nl) (nd (o43 P) nl nl)) (nd (o103 P) (nd (o44 P) nl nl) nl))))) (nd (b2 P) (nd (b4 P) (nd (b8 P) (nd (o52 P) (nd (o44 P) (nd (o43 P) nl nl) (nd (o140 P) nl nl)) (nd (o90 P) (nd (o124 P) nl nl) (nd (o156 P) nl nl))) (nd (o81 P) (nd (o67 P) (nd (o44 P) nl nl) (nd (o148 P) nl nl)) (nd (o98 P) (nd (o43 P) nl nl) nl))) (nd (o107 P) (nd (o56 P) (nd (o75 P) (nd (o112 P) nl nl) (nd (o44 P) nl nl)) (nd (o43 P) (nd (o128 P) nl nl) (nd (o160 P) nl nl))) (nd (o67 P) (nd (o44 P) (nd (o120 P) nl nl) (nd (o152 P) nl nl)) (nd (o43 P) (nd (o43 P) nl nl) nl)))) (nd (b6 P) (nd (b10 P) (nd (o43 P) (nd (o73 P) (nd (o110 P) nl nl) (nd (o142 P) nl nl)) (nd (o92 P) (nd (o126 P) nl nl) (nd (o158 P) nl nl))) (nd (o62 P) (nd (o84 P) (nd (o43 P) nl nl) (nd (o43 P) nl nl)) (nd (o44 P) (nd (o134 P) nl nl) nl))) (nd (o46 P) (nd (o43 P) (nd (o77 P) (nd (o114 P) nl nl) (nd (o43 P) nl nl)) (nd (o96 P) (nd (o44 P) nl nl) (nd (o162 P) nl nl))) (nd (o69 P) (nd (o88 P) (nd (o43 P) nl nl) (nd (o154 P) nl nl)) (nd (o104 P) (nd (o138 P) nl nl) nl))))))
noncomputable def tree_241 (P : PM) : BT := (nd (b0 P) (nd (b1 P) (nd (o164 P) (nd (b7 P) (nd (o51 P) (nd (o43 P) (nd (o105 P) (nd (o43 P) nl nl) (nd (o43 P) nl nl)) (nd (o43 P) (nd (o205 P) nl nl) nl)) (nd (o43 P) (nd (o44 P) (nd (o189 P) nl nl) nl) (nd (o155 P) (nd (o44 P) nl nl) nl))) (nd (o59 P) (nd (o78 P) (nd (o43 P) (nd (o43 P) nl nl) nl) (nd (o147 P) (nd (o43 P) nl nl) nl)) (nd (o97 P) (nd (o131 P) (nd (o197 P) nl nl) nl) (nd (o163 P) (nd (o229 P) nl nl) nl)))) (nd (o43 P) (nd (o44 P) (nd (o43 P) (nd (o43 P) (nd (o177 P) nl nl) (nd (o241 P) nl nl)) (nd (o43 P) (nd (o43 P) nl nl) nl)) (nd (o93 P) (nd (o127 P) (nd (o44 P) nl nl) nl) (nd (o159 P) (nd (o43 P) nl nl) nl))) (nd (o63 P) (nd (o43 P) (nd (o119 P) (nd (o43 P) nl nl) nl) (nd (o44 P) (nd (o217 P) nl nl) nl)) (nd (o101 P) (nd (o135 P) (nd (o201 P) nl nl) nl) (nd (o43 P) (nd (o43 P) nl nl) nl))))) (nd (b5 P) (nd (b9 P) (nd (o53 P) (nd (o72 P) (nd (o52 P) (nd (o175 P) nl nl) (nd (o239 P) nl nl)) (nd (o141 P) (nd (o44 P) nl nl) nl)) (nd (o91 P) (nd (o43 P) (nd (o191 P) nl nl) nl) (nd (o157 P) (nd (o223 P) nl nl) nl))) (nd (o61 P) (nd (o52 P) (nd (o117 P) (nd (o183 P) nl nl) nl) (nd (o149 P) (nd (o215 P) nl nl) nl)) (nd (o43 P) (nd (o133 P) (nd (o43 P) nl nl) nl) (nd (o44 P) (nd (o44 P) nl nl) nl)))) (nd (o45 P) (nd (o57 P) (nd (o76 P) (nd (o113 P) (nd (o44 P) nl nl) nl) (nd (o145 P) (nd (o211 P) nl nl) nl)) (nd (o44 P) (nd (o43 P) (nd (o43 P) nl nl) nl) (nd (o161 P) (nd (o227 P) nl nl) nl))) (nd (o52 P) (nd (o87 P) (nd (o121 P) (nd (o187 P) nl nl) nl) (nd (o43 P) (nd (o219 P) nl nl) nl)) (nd (o103 P) (nd (o44 P) (nd (o203 P) nl nl) nl) (nd (o171 P) (nd (o235 P) nl nl) nl)))))) (nd (b2 P) (nd (b4 P) (nd (b8 P) (nd (o52 P) (nd (o44 P) (nd (o43 P) (nd (o44 P) nl nl) (nd (o44 P) nl nl)) (nd (o140 P) (nd (o43 P) nl nl) nl)) (nd (o90 P) (nd (o124 P) (nd (o190 P) nl nl) nl) (nd (o156 P) (nd (o222 P) nl nl) nl))) (nd (o81 P) (nd (o67 P) (nd (o44 P) (nd (o182 P) nl nl) nl) (nd (o148 P) (nd (o44 P) nl nl) nl)) (nd (o98 P) (nd (o43 P) (nd (o198 P) nl nl) nl) (nd (o43 P) (nd (o43 P) nl nl) nl)))) (nd (o165 P) (nd (o56 P) (nd (o75 P) (nd (o112 P) (nd (o43 P) nl nl) nl) (nd (o44 P) (nd (o210 P) nl nl) nl)) (nd (o43 P) (nd (o128 P) (nd (o194 P) nl nl) nl) (nd (o160 P) (nd (o44 P) nl nl) nl))) (nd (o67 P) (nd (o44 P) (nd (o120 P) (nd (o44 P) nl nl) nl) (nd (o152 P) (nd (o218 P) nl nl) nl)) (nd (o43 P) (nd (o43 P) (nd (o43 P) nl nl) nl) (nd (o170 P) (nd (o234 P) nl nl) nl))))) (nd (b6 P) (nd (b10 P) (nd (o43 P) (nd (o73 P) (nd (o110 P) (nd (o176 P) nl nl) (nd (o240 P) nl nl)) (nd (o142 P) (nd (o208 P) nl nl) nl)) (nd (o92 P) (nd (o126 P) (nd (o43 P) nl nl) nl) (nd (o158 P) (nd (o224 P) nl nl) nl))) (nd (o62 P) (nd (o84 P) (nd (o43 P) (nd (o184 P) nl nl) nl) (nd (o43 P) (nd (o43 P) nl nl) nl)) (nd (o44 P) (nd (o134 P) (nd (o44 P) nl nl) nl) (nd (o168 P) (nd (o232 P) nl nl) nl)))) (nd (o46 P) (nd (o43 P) (nd (o77 P) (nd (o114 P) (nd (o180 P) nl nl) nl) (nd (o43 P) (nd (o212 P) nl nl) nl)) (nd (o96 P) (nd (o44 P) (nd (o196 P) nl nl) nl) (nd (o162 P) (nd (o228 P) nl nl) nl))) (nd (o69 P) (nd (o88 P) (nd (o43 P) (nd (o43 P) nl nl) nl) (nd (o154 P) (nd (o43 P) nl nl) nl)) (nd (o104 P) (nd (o138 P) (nd (o204 P) nl nl) nl) (nd (o172 P) (nd (o236 P) nl nl) nl)))))))
noncomputable def tree_290 (P : PM) : BT := (nd (b0 P) (nd (b1 P) (nd (o242 P) (nd (b7 P) (nd (o51 P) (nd (o43 P) (nd (o105 P) (nd (o43 P) nl nl) (nd (o43 P) nl nl)) (nd (o43 P) (nd (o205 P) nl nl) (nd (o271 P) nl nl))) (nd (o43 P) (nd (o44 P) (nd (o189 P) nl nl) (nd (o255 P) nl nl)) (nd (o155 P) (nd (o44 P) nl nl) (nd (o44 P) nl nl)))) (nd (o59 P) (nd (o78 P) (nd (o43 P) (nd (o43 P) nl nl) (nd (o43 P) nl nl)) (nd (o147 P) (nd (o43 P) nl nl) (nd (o43 P) nl nl))) (nd (o97 P) (nd (o131 P) (nd (o197 P) nl nl) (nd (o263 P) nl nl)) (nd (o163 P) (nd (o229 P) nl nl) nl)))) (nd (o43 P) (nd (o44 P) (nd (o43 P) (nd (o43 P) (nd (o177 P) nl nl) (nd (o241 P) nl nl)) (nd (o43 P) (nd (o43 P) nl nl) (nd (o43 P) nl nl))) (nd (o93 P) (nd (o127 P) (nd (o44 P) nl nl) (nd (o44 P) nl nl)) (nd (o159 P) (nd (o43 P) nl nl) nl))) (nd (o63 P) (nd (o43 P) (nd (o119 P) (nd (o43 P) nl nl) (nd (o43 P) nl nl)) (nd (o44 P) (nd (o217 P) nl nl) (nd (o283 P) nl nl))) (nd (o101 P) (nd (o135 P) (nd (o201 P) nl nl) (nd (o267 P) nl nl)) (nd (o43 P) (nd (o43 P) nl nl) nl))))) (nd (b5 P) (nd (b9 P) (nd (o53 P) (nd (o72 P) (nd (o52 P) (nd (o175 P) nl nl) (nd (o239 P) nl nl)) (nd (o141 P) (nd (o44 P) nl nl) (nd (o44 P) nl nl))) (nd (o91 P) (nd (o43 P) (nd (o191 P) nl nl) (nd (o257 P) nl nl)) (nd (o157 P) (nd (o223 P) nl nl) (nd (o289 P) nl nl)))) (nd (o61 P) (nd (o52 P) (nd (o117 P) (nd (o183 P) nl nl) (nd (o249 P) nl nl)) (nd (o149 P) (nd (o215 P) nl nl) (nd (o281 P) nl nl))) (nd (o43 P) (nd (o133 P) (nd (o43 P) nl nl) (nd (o43 P) nl nl)) (nd (o44 P) (nd (o44 P) nl nl) nl)))) (nd (o45 P) (nd (o57 P) (nd (o76 P) (nd (o113 P) (nd (o44 P) nl nl) (nd (o44 P) nl nl)) (nd (o145 P) (nd (o211 P) nl nl) (nd (o277 P) nl nl))) (nd (o44 P) (nd (o43 P) (nd (o43 P) nl nl) (nd (o43 P) nl nl)) (nd (o161 P) (nd (o227 P) nl nl) nl))) (nd (o52 P) (nd (o87 P) (nd (o121 P) (nd (o187 P) nl nl) (nd (o253 P) nl nl)) (nd (o43 P) (nd (o219 P) nl nl) (nd (o285 P) nl nl))) (nd (o103 P) (nd (o44 P) (nd (o203 P) nl nl) (nd (o269 P) nl nl)) (nd (o171 P) (nd (o235 P) nl nl) nl)))))) (nd (b2 P) (nd (b4 P) (nd (b8 P) (nd (o52 P) (nd (o44 P) (nd (o43 P) (nd (o44 P) nl nl) (nd (o44 P) nl nl)) (nd (o140 P) (nd (o43 P) nl nl) (nd (o43 P) nl nl))) (nd (o90 P) (nd (o124 P) (nd (o190 P) nl nl) (nd (o256 P) nl nl)) (nd (o156 P) (nd (o222 P) nl nl) (nd (o288 P) nl nl)))) (nd (o81 P) (nd (o67 P) (nd (o44 P) (nd (o182 P) nl nl) (nd (o248 P) nl nl)) (nd (o148 P) (nd (o44 P) nl nl) (nd (o44 P) nl nl))) (nd (o98 P) (nd (o43 P) (nd (o198 P) nl nl) (nd (o264 P) nl nl)) (nd (o43 P) (nd (o43 P) nl nl) nl)))) (nd (o243 P) (nd (o56 P) (nd (o75 P) (nd (o112 P) (nd (o43 P) nl nl) (nd (o43 P) nl nl)) (nd (o44 P) (nd (o210 P) nl nl) (nd (o276 P) nl nl))) (nd (o43 P) (nd (o128 P) (nd (o194 P) nl nl) (nd (o260 P) nl nl)) (nd (o160 P) (nd (o44 P) nl nl) nl))) (nd (o67 P) (nd (o44 P) (nd (o120 P) (nd (o44 P) nl nl) (nd (o44 P) nl nl)) (nd (o152 P) (nd (o218 P) nl nl) (nd (o284 P) nl nl))) (nd (o43 P) (nd (o43 P) (nd (o43 P) nl nl) (nd (o43 P) nl nl)) (nd (o170 P) (nd (o234 P) nl nl) nl))))) (nd (b6 P) (nd (b10 P) (nd (o43 P) (nd (o73 P) (nd (o110 P) (nd (o176 P) nl nl) (nd (o240 P) nl nl)) (nd (o142 P) (nd (o208 P) nl nl) (nd (o274 P) nl nl))) (nd (o92 P) (nd (o126 P) (nd (o43 P) nl nl) (nd (o43 P) nl nl)) (nd (o158 P) (nd (o224 P) nl nl) (nd (o290 P) nl nl)))) (nd (o62 P) (nd (o84 P) (nd (o43 P) (nd (o184 P) nl nl) (nd (o250 P) nl nl)) (nd (o43 P) (nd (o43 P) nl nl) (nd (o43 P) nl nl))) (nd (o44 P) (nd (o134 P) (nd (o44 P) nl nl) (nd (o44 P) nl nl)) (nd (o168 P) (nd (o232 P) nl nl) nl)))) (nd (o46 P) (nd (o43 P) (nd (o77 P) (nd (o114 P) (nd (o180 P) nl nl) (nd (o246 P) nl nl)) (nd (o43 P) (nd (o212 P) nl nl) (nd (o278 P) nl nl))) (nd (o96 P) (nd (o44 P) (nd (o196 P) nl nl) (nd (o262 P) nl nl)) (nd (o162 P) (nd (o228 P) nl nl) nl))) (nd (o69 P) (nd (o88 P) (nd (o43 P) (nd (o43 P) nl nl) (nd (o43 P) nl nl)) (nd (o154 P) (nd (o43 P) nl nl) (nd (o43 P) nl nl))) (nd (o104 P) (nd (o138 P) (nd (o204 P) nl nl) (nd (o270 P) nl nl)) (nd (o172 P) (nd (o236 P) nl nl) nl)))))))
noncomputable def tree_342 (P : PM) : BT := (nd (b0 P) (nd (b1 P) (nd (o291 P) (nd (b7 P) (nd (o51 P) (nd (o43 P) (nd (o105 P) (nd (o43 P) (nd (o43 P) nl nl) nl) (nd (o43 P) nl nl)) (nd (o43 P) (nd (o205 P) (nd (o44 P) nl nl) nl) (nd (o271 P) nl nl))) (nd (o43 P) (nd (o44 P) (nd (o189 P) (nd (o321 P) nl nl) nl) (nd (o255 P) nl nl)) (nd (o155 P) (nd (o44 P) nl nl) (nd (o44 P) nl nl)))) (nd (o59 P) (nd (o78 P) (nd (o43 P) (nd (o43 P) (nd (o43 P) nl nl) nl) (nd (o43 P) nl nl)) (nd (o147 P) (nd (o43 P) nl nl) (nd (o43 P) nl nl))) (nd (o97 P) (nd (o131 P) (nd (o197 P) (nd (o43 P) nl nl) nl) (nd (o263 P) nl nl)) (nd (o163 P) (nd (o229 P) nl nl) (nd (o297 P) nl nl))))) (nd (o43 P) (nd (o44 P) (nd (o43 P) (nd (o43 P) (nd (o177 P) (nd (o309 P) nl nl) nl) (nd (o241 P) nl nl)) (nd (o43 P) (nd (o43 P) (nd (o341 P) nl nl) nl) (nd (o43 P) nl nl))) (nd (o93 P) (nd (o127 P) (nd (o44 P) (nd (o325 P) nl nl) nl) (nd (o44 P) nl nl)) (nd (o159 P) (nd (o43 P) nl nl) (nd (o43 P) nl nl)))) (nd (o63 P) (nd (o43 P) (nd (o119 P) (nd (o43 P) (nd (o43 P) nl nl) nl) (nd (o43 P) nl nl)) (nd (o44 P) (nd (o217 P) nl nl) (nd (o283 P) nl nl))) (nd (o101 P) (nd (o135 P) (nd (o201 P) (nd (o333 P) nl nl) nl) (nd (o267 P) nl nl)) (nd (o43 P) (nd (o43 P) nl nl) (nd (o44 P) nl nl)))))) (nd (b5 P) (nd (b9 P) (nd (o53 P) (nd (o72 P) (nd (o52 P) (nd (o175 P) (nd (o307 P) nl nl) nl) (nd (o239 P) nl nl)) (nd (o141 P) (nd (o44 P) (nd (o43 P) nl nl) nl) (nd (o44 P) nl nl))) (nd (o91 P) (nd (o43 P) (nd (o191 P) (nd (o323 P) nl nl) nl) (nd (o257 P) nl nl)) (nd (o157 P) (nd (o223 P) nl nl) (nd (o289 P) nl nl)))) (nd (o61 P) (nd (o52 P) (nd (o117 P) (nd (o183 P) (nd (o315 P) nl nl) nl) (nd (o249 P) nl nl)) (nd (o149 P) (nd (o215 P) nl nl) (nd (o281 P) nl nl))) (nd (o43 P) (nd (o133 P) (nd (o43 P) (nd (o331 P) nl nl) nl) (nd (o43 P) nl nl)) (nd (o44 P) (nd (o44 P) nl nl) (nd (o299 P) nl nl))))) (nd (o45 P) (nd (o57 P) (nd (o76 P) (nd (o113 P) (nd (o44 P) (nd (o44 P) nl nl) nl) (nd (o44 P) nl nl)) (nd (o145 P) (nd (o211 P) nl nl) (nd (o277 P) nl nl))) (nd (o44 P) (nd (o43 P) (nd (o43 P) (nd (o327 P) nl nl) nl) (nd (o43 P) nl nl)) (nd (o161 P) (nd (o227 P) nl nl) (nd (o295 P) nl nl)))) (nd (o52 P) (nd (o87 P) (nd (o121 P) (nd (o187 P) (nd (o319 P) nl nl) nl) (nd (o253 P) nl nl)) (nd (o43 P) (nd (o219 P) nl nl) (nd (o285 P) nl nl))) (nd (o103 P) (nd (o44 P) (nd (o203 P) (nd (o335 P) nl nl) nl) (nd (o269 P) nl nl)) (nd (o171 P) (nd (o235 P) nl nl) (nd (o303 P) nl nl))))))) (nd (b2 P) (nd (b4 P) (nd (b8 P) (nd (o52 P) (nd (o44 P) (nd (o43 P) (nd (o44 P) (nd (o44 P) nl nl) nl) (nd (o44 P) nl nl)) (nd (o140 P) (nd (o43 P) (nd (o338 P) nl nl) nl) (nd (o43 P) nl nl))) (nd (o90 P) (nd (o124 P) (nd (o190 P) (nd (o322 P) nl nl) nl) (nd (o256 P) nl nl)) (nd (o156 P) (nd (o222 P) nl nl) (nd (o288 P) nl nl)))) (nd (o81 P) (nd (o67 P) (nd (o44 P) (nd (o182 P) (nd (o314 P) nl nl) nl) (nd (o248 P) nl nl)) (nd (o148 P) (nd (o44 P) nl nl) (nd (o44 P) nl nl))) (nd (o98 P) (nd (o43 P) (nd (o198 P) (nd (o44 P) nl nl) nl) (nd (o264 P) nl nl)) (nd (o43 P) (nd (o43 P) nl nl) (nd (o298 P) nl nl))))) (nd (o292 P) (nd (o56 P) (nd (o75 P) (nd (o112 P) (nd (o43 P) (nd (o43 P) nl nl) nl) (nd (o43 P) nl nl)) (nd (o44 P) (nd (o210 P) (nd (o342 P) nl nl) nl) (nd (o276 P) nl nl))) (nd (o43 P) (nd (o128 P) (nd (o194 P) (nd (o326 P) nl nl) nl) (nd (o260 P) nl nl)) (nd (o160 P) (nd (o44 P) nl nl) (nd (o52 P) nl nl)))) (nd (o67 P) (nd (o44 P) (nd (o120 P) (nd (o44 P) (nd (o44 P) nl nl) nl) (nd (o44 P) nl nl)) (nd (o152 P) (nd (o218 P) nl nl) (nd (o284 P) nl nl))) (nd (o43 P) (nd (o43 P) (nd (o43 P) (nd (o334 P) nl nl) nl) (nd (o43 P) nl nl)) (nd (o170 P) (nd (o234 P) nl nl) (nd (o302 P) nl nl)))))) (nd (b6 P) (nd (b10 P) (nd (o43 P) (nd (o73 P) (nd (o110 P) (nd (o176 P) (nd (o308 P) nl nl) nl) (nd (o240 P) nl nl)) (nd (o142 P) (nd (o208 P) (nd (o340 P) nl nl) nl) (nd (o274 P) nl nl))) (nd (o92 P) (nd (o126 P) (nd (o43 P) (nd (o324 P) nl nl) nl) (nd (o43 P) nl nl)) (nd (o158 P) (nd (o224 P) nl nl) (nd (o290 P) nl nl)))) (nd (o62 P) (nd (o84 P) (nd (o43 P) (nd (o184 P) (nd (o316 P) nl nl) nl) (nd (o250 P) nl nl)) (nd (o43 P) (nd (o43 P) nl nl) (nd (o43 P) nl nl))) (nd (o44 P) (nd (o134 P) (nd (o44 P) (nd (o43 P) nl nl) nl) (nd (o44 P) nl nl)) (nd (o168 P) (nd (o232 P) nl nl) (nd (o43 P) nl nl))))) (nd (o46 P) (nd (o43 P) (nd (o77 P) (nd (o114 P) (nd (o180 P) (nd (o312 P) nl nl) nl) (nd (o246 P) nl nl)) (nd (o43 P) (nd (o212 P) nl nl) (nd (o278 P) nl nl))) (nd (o96 P) (nd (o44 P) (nd (o196 P) (nd (o328 P) nl nl) nl) (nd (o262 P) nl nl)) (nd (o162 P) (nd (o228 P) nl nl) (nd (o43 P) nl nl)))) (nd (o69 P) (nd (o88 P) (nd (o43 P) (nd (o43 P) (nd (o320 P) nl nl) nl) (nd (o43 P) nl nl)) (nd (o154 P) (nd (o43 P) nl nl) (nd (o43 P) nl nl))) (nd (o104 P) (nd (o138 P) (nd (o204 P) (nd (o43 P) nl nl) nl) (nd (o270 P) nl nl)) (nd (o172 P) (nd (o236 P) nl nl) (nd (o304 P) nl nl))))))))
noncomputable def tree_392 (P : PM) : BT := (nd (b0 P) (nd (b1 P) (nd (o343 P) (nd (b7 P) (nd (o51 P) (nd (o43 P) (nd (o105 P) (nd (o43 P) (nd (o43 P) nl nl) nl) (nd (o43 P) (nd (o43 P) nl nl) nl)) (nd (o43 P) (nd (o205 P) (nd (o44 P) nl nl) nl) (nd (o271 P) nl nl))) (nd (o43 P) (nd (o44 P) (nd (o189 P) (nd (o321 P) nl nl) nl) (nd (o255 P) (nd (o387 P) nl nl) nl)) (nd (o155 P) (nd (o44 P) (nd (o43 P) nl nl) nl) (nd (o44 P) nl nl)))) (nd (o59 P) (nd (o78 P) (nd (o43 P) (nd (o43 P) (nd (o43 P) nl nl) nl) (nd (o43 P) (nd (o379 P) nl nl) nl)) (nd (o147 P) (nd (o43 P) (nd (o347 P) nl nl) nl) (nd (o43 P) nl nl))) (nd (o97 P) (nd (o131 P) (nd (o197 P) (nd (o43 P) nl nl) nl) (nd (o263 P) nl nl)) (nd (o163 P) (nd (o229 P) (nd (o363 P) nl nl) nl) (nd (o297 P) nl nl))))) (nd (o43 P) (nd (o44 P) (nd (o43 P) (nd (o43 P) (nd (o177 P) (nd (o309 P) nl nl) nl) (nd (o241 P) (nd (o375 P) nl nl) nl)) (nd (o43 P) (nd (o43 P) (nd (o341 P) nl nl) nl) (nd (o43 P) nl nl))) (nd (o93 P) (nd (o127 P) (nd (o44 P) (nd (o325 P) nl nl) nl) (nd (o44 P) (nd (o391 P) nl nl) nl)) (nd (o159 P) (nd (o43 P) (nd (o43 P) nl nl) nl) (nd (o43 P) nl nl)))) (nd (o63 P) (nd (o43 P) (nd (o119 P) (nd (o43 P) (nd (o43 P) nl nl) nl) (nd (o43 P) (nd (o383 P) nl nl) nl)) (nd (o44 P) (nd (o217 P) (nd (o351 P) nl nl) nl) (nd (o283 P) nl nl))) (nd (o101 P) (nd (o135 P) (nd (o201 P) (nd (o333 P) nl nl) nl) (nd (o267 P) nl nl)) (nd (o43 P) (nd (o43 P) (nd (o43 P) nl nl) nl) (nd (o44 P) nl nl)))))) (nd (b5 P) (nd (b9 P) (nd (o53 P) (nd (o72 P) (nd (o52 P) (nd (o175 P) (nd (o307 P) nl nl) nl) (nd (o239 P) (nd (o373 P) nl nl) nl)) (nd (o141 P) (nd (o44 P) (nd (o43 P) nl nl) nl) (nd (o44 P) nl nl))) (nd (o91 P) (nd (o43 P) (nd (o191 P) (nd (o323 P) nl nl) nl) (nd (o257 P) (nd (o44 P) nl nl) nl)) (nd (o157 P) (nd (o223 P) (nd (o357 P) nl nl) nl) (nd (o289 P) nl nl)))) (nd (o61 P) (nd (o52 P) (nd (o117 P) (nd (o183 P) (nd (o315 P) nl nl) nl) (nd (o249 P) (nd (o43 P) nl nl) nl)) (nd (o149 P) (nd (o215 P) (nd (o349 P) nl nl) nl) (nd (o281 P) nl nl))) (nd (o43 P) (nd (o133 P) (nd (o43 P) (nd (o331 P) nl nl) nl) (nd (o43 P) nl nl)) (nd (o44 P) (nd (o44 P) (nd (o44 P) nl nl) nl) (nd (o299 P) nl nl))))) (nd (o45 P) (nd (o57 P) (nd (o76 P) (nd (o113 P) (nd (o44 P) (nd (o44 P) nl nl) nl) (nd (o44 P) (nd (o44 P) nl nl) nl)) (nd (o145 P) (nd (o211 P) (nd (o43 P) nl nl) nl) (nd (o277 P) nl nl))) (nd (o44 P) (nd (o43 P) (nd (o43 P) (nd (o327 P) nl nl) nl) (nd (o43 P) nl nl)) (nd (o161 P) (nd (o227 P) (nd (o361 P) nl nl) nl) (nd (o295 P) nl nl)))) (nd (o52 P) (nd (o87 P) (nd (o121 P) (nd (o187 P) (nd (o319 P) nl nl) nl) (nd (o253 P) (nd (o385 P) nl nl) nl)) (nd (o43 P) (nd (o219 P) (nd (o44 P) nl nl) nl) (nd (o285 P) nl nl))) (nd (o103 P) (nd (o44 P) (nd (o203 P) (nd (o335 P) nl nl) nl) (nd (o269 P) nl nl)) (nd (o171 P) (nd (o235 P) (nd (o369 P) nl nl) nl) (nd (o303 P) nl nl))))))) (nd (b2 P) (nd (b4 P) (nd (b8 P) (nd (o52 P) (nd (o44 P) (nd (o43 P) (nd (o44 P) (nd (o44 P) nl nl) nl) (nd (o44 P) (nd (o44 P) nl nl) nl)) (nd (o140 P) (nd (o43 P) (nd (o338 P) nl nl) nl) (nd (o43 P) nl nl))) (nd (o90 P) (nd (o124 P) (nd (o190 P) (nd (o322 P) nl nl) nl) (nd (o256 P) (nd (o43 P) nl nl) nl)) (nd (o156 P) (nd (o222 P) (nd (o356 P) nl nl) nl) (nd (o288 P) nl nl)))) (nd (o81 P) (nd (o67 P) (nd (o44 P) (nd (o182 P) (nd (o314 P) nl nl) nl) (nd (o248 P) (nd (o380 P) nl nl) nl)) (nd (o148 P) (nd (o44 P) (nd (o43 P) nl nl) nl) (nd (o44 P) nl nl))) (nd (o98 P) (nd (o43 P) (nd (o198 P) (nd (o44 P) nl nl) nl) (nd (o264 P) nl nl)) (nd (o43 P) (nd (o43 P) (nd (o43 P) nl nl) nl) (nd (o298 P) nl nl))))) (nd (o344 P) (nd (o56 P) (nd (o75 P) (nd (o112 P) (nd (o43 P) (nd (o43 P) nl nl) nl) (nd (o43 P) (nd (o43 P) nl nl) nl)) (nd (o44 P) (nd (o210 P) (nd (o342 P) nl nl) nl) (nd (o276 P) nl nl))) (nd (o43 P) (nd (o128 P) (nd (o194 P) (nd (o326 P) nl nl) nl) (nd (o260 P) (nd (o392 P) nl nl) nl)) (nd (o160 P) (nd (o44 P) (nd (o44 P) nl nl) nl) (nd (o52 P) nl nl)))) (nd (o67 P) (nd (o44 P) (nd (o120 P) (nd (o44 P) (nd (o44 P) nl nl) nl) (nd (o44 P) (nd (o43 P) nl nl) nl)) (nd (o152 P) (nd (o218 P) (nd (o43 P) nl nl) nl) (nd (o284 P) nl nl))) (nd (o43 P) (nd (o43 P) (nd (o43 P) (nd (o334 P) nl nl) nl) (nd (o43 P) nl nl)) (nd (o170 P) (nd (o234 P) (nd (o368 P) nl nl) nl) (nd (o302 P) nl nl)))))) (nd (b6 P) (nd (b10 P) (nd (o43 P) (nd (o73 P) (nd (o110 P) (nd (o176 P) (nd (o308 P) nl nl) nl) (nd (o240 P) (nd (o374 P) nl nl) nl)) (nd (o142 P) (nd (o208 P) (nd (o340 P) nl nl) nl) (nd (o274 P) nl nl))) (nd (o92 P) (nd (o126 P) (nd (o43 P) (nd (o324 P) nl nl) nl) (nd (o43 P) (nd (o390 P) nl nl) nl)) (nd (o158 P) (nd (o224 P) (nd (o358 P) nl nl) nl) (nd (o290 P) nl nl)))) (nd (o62 P) (nd (o84 P) (nd (o43 P) (nd (o184 P) (nd (o316 P) nl nl) nl) (nd (o250 P) (nd (o44 P) nl nl) nl)) (nd (o43 P) (nd (o43 P) (nd (o350 P) nl nl) nl) (nd (o43 P) nl nl))) (nd (o44 P) (nd (o134 P) (nd (o44 P) (nd (o43 P) nl nl) nl) (nd (o44 P) nl nl)) (nd (o168 P) (nd (o232 P) (nd (o366 P) nl nl) nl) (nd (o43 P) nl nl))))) (nd (o46 P) (nd (o43 P) (nd (o77 P) (nd (o114 P) (nd (o180 P) (nd (o312 P) nl nl) nl) (nd (o246 P) (nd (o378 P) nl nl) nl)) (nd (o43 P) (nd (o212 P) (nd (o44 P) nl nl) nl) (nd (o278 P) nl nl))) (nd (o96 P) (nd (o44 P) (nd (o196 P) (nd (o328 P) nl nl) nl) (nd (o262 P) nl nl)) (nd (o162 P) (nd (o228 P) (nd (o362 P) nl nl) nl) (nd (o43 P) nl nl)))) (nd (o69 P) (nd (o88 P) (nd (o43 P) (nd (o43 P) (nd (o320 P) nl nl) nl) (nd (o43 P) (nd (o386 P) nl nl) nl)) (nd (o154 P) (nd (o43 P) (nd (o354 P) nl nl) nl) (nd (o43 P) nl nl))) (nd (o104 P) (nd (o138 P) (nd (o204 P) (nd (o43 P) nl nl) nl) (nd (o270 P) nl nl)) (nd (o172 P) (nd (o236 P) (nd (o370 P) nl nl) nl) (nd (o304 P) nl nl))))))))
noncomputable def heap_393 (P : Params) : Heap := (Heap.mk ⟨[b0 P,b1 P,b2 P,o343 P,b4 P,b5 P,b6 P,b7 P,b8 P,b9 P,b10 P,o43 P,o344 P,o45 P,o46 P,o51 P,o52 P,o53 P,o43 P,o44 P,o56 P,o57 P,o43 P,o59 P,o81 P,o61 P,o62 P,o63 P,o67 P,o52 P,o69 P,o43 P,o44 P,o72 P,o73 P,o43 P,o75 P,o76 P,o77 P,o78 P,o67 P,o52 P,o84 P,o43 P,o44 P,o87 P,o88 P,o43 P,o90 P,o91 P,o92 P,o93 P,o43 P,o44 P,o96 P,o97 P,o98 P,o43 P,o44 P,o101 P,o43 P,o103 P,o104 P,o105 P,o43 P,o52 P,o110 P,o43 P,o112 P,o113 P,o114 P,o43 P,o44 P,o117 P,o43 P,o119 P,o120 P,o121 P,o43 P,o44 P,o124 P,o43 P,o126 P,o127 P,o128 P,o43 P,o44 P,o131 P,o43 P,o133 P,o134 P,o135 P,o43 P,o44 P,o138 P,o43 P,o140 P,o141 P,o142 P,o43 P,o44 P,o145 P,o43 P,o147 P,o148 P,o149 P,o43 P,o44 P,o152 P,o43 P,o154 P,o155 P,o156 P,o157 P,o158 P,o159 P,o160 P,o161 P,o162 P,o163 P,o43 P,o44 P,o168 P,o43 P,o170 P,o171 P,o172 P,o43 P,o44 P,o175 P,o176 P,o177 P,o43 P,o44 P,o180 P,o43 P,o182 P,o183 P,o184 P,o43 P,o44 P,o187 P,o43 P,o189 P,o190 P,o191 P,o43 P,o44 P,o194 P,o43 P,o196 P,o197 P,o198 P,o43 P,o44 P,o201 P,o43 P,o203 P,o204 P,o205 P,o43 P,o44 P,o208 P,o43 P,o210 P,o211 P,o212 P,o43 P,o44 P,o215 P,o43 P,o217 P,o218 P,o219 P,o43 P,o44 P,o222 P,o223 P,o224 P,o43 P,o44 P,o227 P,o228 P,o229 P,o43 P,o44 P,o232 P,o43 P,o234 P,o235 P,o236 P,o43 P,o44 P,o239 P,o240 P,o241 P,o43 P,o44 P,o246 P,o43 P,o248 P,o249 P,o250 P,o43 P,o44 P,o253 P,o43 P,o255 P,o256 P,o257 P,o43 P,o44 P,o260 P,o43 P,o262 P,o263 P,o264 P,o43 P,o44 P,o267 P,o43 P,o269 P,o270 P,o271 P,o43 P,o44 P,o274 P,o43 P,o276 P,o277 P,o278 P,o43 P,o44 P,o281 P,o43 P,o283 P,o284 P,o285 P,o43 P,o44 P,o288 P,o289 P,o290 P,o43 P,o52 P,o295 P,o43 P,o297 P,o298 P,o299 P,o43 P,o44 P,o302 P,o303 P,o304 P,o43 P,o44 P,o307 P,o308 P,o309 P,o43 P,o44 P,o312 P,o43 P,o314 P,o315 P,o316 P,o43 P,o44 P,o319 P,o320 P,o321 P,o322 P,o323 P,o324 P,o325 P,o326 P,o327 P,o328 P,o43 P,o44 P,o331 P,o43 P,o333 P,o334 P,o335 P,o43 P,o44 P,o338 P,o43 P,o340 P,o341 P,o342 P,o43 P,o44 P,o347 P,o43 P,o349 P,o350 P,o351 P,o43 P,o44 P,o354 P,o43 P,o356 P,o357 P,o358 P,o43 P,o44 P,o361 P,o362 P,o363 P,o43 P,o44 P,o366 P,o43 P,o368 P,o369 P,o370 P,o43 P,o44 P,o373 P,o374 P,o375 P,o43 P,o44 P,o378 P,o379 P,o380 P,o43 P,o44 P,o383 P,o43 P,o385 P,o386 P,o387 P,o43 P,o44 P,o390 P,o391 P,o392 P]⟩ (PySem.Life.mk [] [] [] 0 [] [] false ⟨[]⟩ [] 0 false false false 0 [2000,10,10] false 0 true [] [] 0 false))
noncomputable def ev (p : Program) : Env := Env.mk p.main.scope mainNs mainNs [] Str.empty none (.ref 13) (some 14) 0
noncomputable def cE (p : Program) : Code := .body (behindTheImports p) (ev p)
noncomputable def st (p : Program) (i k : Nat) : List Stmt := ((behindTheImports p).drop i).take k
noncomputable def LF : Life := Life.mk [] [] [] 0 [] [] false #[] [] 0 false false false 0 [2000, 10, 10] false 0 true [] [] 0 false
noncomputable def SS (T : Params → BT) (n k : Nat) (w : World) (os : OsState) : SharedT := ⟨T w.params, n, LF, ⟨[]⟩, ⟨0, 0, 0, 0⟩, k, os⟩
def Pc (f : (String → Option Builtin) → Program → World → Nat → Option Value → Nat → Nat → SharedT → Thread → Option (Flow × SharedT × Code × Pos)) (tb : String → Option Builtin) (p : Program) (N i k : Nat) (pos pos' : Pos) (T T' : Params → BT) (n t n' t' : Nat) : Prop :=
 ∀ (w : World) (os : OsState), f tb p w 11 (some (.ref 6)) 1 N (SS T n t w os) (piecesOf (st p i k) (ev p) (cE p) pos [topFrame ⟨0, 0, 0, 0⟩]) = some (.next, SS T' n' t' w os, cE p, pos')
theorem Pc.plain {N i k : Nat} {pos pos' : Pos} {T T' : Params → BT} {n t n' t' : Nat} (h : Pc PySem.W.Fast.tw10110043849684766642 PySem.W.Fast.tw14364793385576792824 TP N i k pos pos' T T' n t n' t') : Pc segRunT treeTable PySem.Challenge.pw_gatefold_k16_folded_tidy N i k pos pos' T T' n t n' t' := by
 rw [PySem.W.Fast.te10110043849684766642, PySem.W.Fast.te14364793385576792824, PySem.W.Fast.te9384535992186916269]
 exact h
theorem c0 : Pc segRunT treeTable PySem.Challenge.pw_gatefold_k16_folded_tidy 196 0 2 ⟨0, 0, 0, 0⟩ ⟨2, 0, 3, 8⟩ tree_47 tree_63 15 187 28 207 := Pc.plain (fun w os => by kernel_rfl)
theorem c1 : Pc segRunT treeTable PySem.Challenge.pw_gatefold_k16_folded_tidy 214 2 1 ⟨2, 0, 3, 8⟩ ⟨4, 0, 5, 8⟩ tree_63 tree_78 28 207 40 223 := Pc.plain (fun w os => by kernel_rfl)
theorem c2 : Pc segRunT treeTable PySem.Challenge.pw_gatefold_k16_folded_tidy 305 3 7 ⟨4, 0, 5, 8⟩ ⟨21, 0, 22, 18⟩ tree_78 tree_105 40 223 64 260 := Pc.plain (fun w os => by kernel_rfl)
theorem c3 : Pc segRunT treeTable PySem.Challenge.pw_gatefold_k16_folded_tidy 396 10 2 ⟨21, 0, 22, 18⟩ ⟨61, 0, 61, 8⟩ tree_105 tree_163 64 260 120 335 := Pc.plain (fun w os => by kernel_rfl)
theorem c4 : Pc segRunT treeTable PySem.Challenge.pw_gatefold_k16_folded_tidy 375 12 14 ⟨61, 0, 61, 8⟩ ⟨132, 0, 132, 8⟩ tree_163 tree_241 120 335 196 439 := Pc.plain (fun w os => by kernel_rfl)
theorem c5 : Pc segRunT treeTable PySem.Challenge.pw_gatefold_k16_folded_tidy 221 26 8 ⟨132, 0, 132, 8⟩ ⟨169, 0, 169, 8⟩ tree_241 tree_290 196 439 243 500 := Pc.plain (fun w os => by kernel_rfl)
theorem c6 : Pc segRunT treeTable PySem.Challenge.pw_gatefold_k16_folded_tidy 385 34 4 ⟨169, 0, 169, 8⟩ ⟨195, 0, 212, 45⟩ tree_290 tree_342 243 500 293 574 := Pc.plain (fun w os => by kernel_rfl)
theorem c7 : Pc segRunT treeTable PySem.Challenge.pw_gatefold_k16_folded_tidy 240 38 8 ⟨195, 0, 212, 45⟩ ⟨300, 0, 322, 103⟩ tree_342 tree_392 293 574 341 645 := Pc.plain (fun w os => by kernel_rfl)
noncomputable abbrev PW : Program := PySem.Challenge.pw_gatefold_k16_folded_tidy
noncomputable abbrev B0 : List Frame := [topFrame ⟨0, 0, 0, 0⟩]
theorem step {p : Program} {N i k : Nat} {pos pos' : Pos} {T T' : Params → BT} {n t n' t' : Nat} (c : Pc segRunT treeTable p N i k pos pos' T T' n t n' t') {M : Nat} {r : Shared} {w : World} {os : OsState}
  (h : topRun treeTable p w 11 (some (.ref 6)) M (SS T' n' t' w os).abs (restOf ((behindTheImports p).drop (i + k)) (ev p) (cE p) pos' [topFrame ⟨0, 0, 0, 0⟩]) = some r) :
  topRun treeTable p w 11 (some (.ref 6)) (N + M) (SS T n t w os).abs (restOf ((behindTheImports p).drop i) (ev p) (cE p) pos [topFrame ⟨0, 0, 0, 0⟩]) = some r := by
 have e : (behindTheImports p).drop i = st p i k ++ (behindTheImports p).drop (i + k) := by
  unfold st
  rw [← List.drop_drop]
  exact (List.take_append_drop _ _).symm
 rw [e]
 exact piece_app (segRun_of (c w os)) h
def Fn (f : (String → Option Builtin) → Program → World → Nat → Option Value → Nat → Shared → Thread → Option Shared) (tb : String → Option Builtin) (p : Program) : Prop :=
 ∀ (w : World) (os : OsState), f tb p w 11 (some (.ref 6)) 2 (SS tree_392 341 645 w os).abs ⟨doneF .next, cE p, ⟨300, 0, 322, 103⟩, [topFrame ⟨0, 0, 0, 0⟩]⟩ = some ⟨heap_393 w.params, ⟨[]⟩, ⟨0, 0, 0, 0⟩, 645, os⟩
theorem fin : Fn topRun treeTable PW := by
 rw [PySem.W.Fast.te14082659384304107361, PySem.W.Fast.te14364793385576792824, show PW = TP from PySem.W.Fast.te9384535992186916269]
 exact fun w os => by kernel_rfl
def Pr (f : (String → Option Builtin) → Program → World → Nat → Option Value → Nat → Shared → Thread → Option (Shared × Thread)) (d : (String → Option Builtin) → Code → Sem Fin) (tb : String → Option Builtin) (p : Program) : Prop :=
 ∀ (w : World) (os : OsState), f tb p w 11 (some (.ref 6)) 12 ⟨boot_heap w.params, ⟨[]⟩, boot_drawn, boot_toks, os⟩ (topStub p) = some (⟨heap_46 w.params, ⟨[]⟩, ⟨0, 0, 0, 0⟩, 187, os⟩, ⟨d tb (cE p), cE p, ⟨0, 0, 0, 0⟩, [topFrame ⟨0, 0, 0, 0⟩]⟩)
theorem preT : Pr topGo denote treeTable PW := by
 rw [PySem.W.Fast.te15667345088766844465, PySem.W.Fast.te11892475500146522536, PySem.W.Fast.te14364793385576792824, show PW = TP from PySem.W.Fast.te9384535992186916269]
 exact fun w os => by kernel_rfl
def Bl (f : (String → Option Builtin) → Program → World → Nat → Option Value → Nat → Nat → Shared → Thread → Option (Flow × Shared × Code × Pos)) (tb : String → Option Builtin) (p : Program) : Prop :=
 ∀ (w : World) (os : OsState), f tb p w 11 (some (.ref 6)) 1 1 ⟨heap_46 w.params, ⟨[]⟩, ⟨0, 0, 0, 0⟩, 187, os⟩ (blockOf (behindTheImports p) (ev p) (cE p) ⟨0, 0, 0, 0⟩ [topFrame ⟨0, 0, 0, 0⟩]) = some (.next, (SS tree_47 15 187 w os).abs, cE p, ⟨0, 0, 0, 0⟩)
theorem blk : Bl segRun treeTable PW := by
 rw [PySem.W.Fast.te14374325043358763698, PySem.W.Fast.te14364793385576792824, show PW = TP from PySem.W.Fast.te9384535992186916269]
 exact fun w os => by kernel_rfl
theorem d44 : (behindTheImports PW).drop 46 = [] := by kernel_rfl
theorem run (w : World) (os : OsState) : topRun treeTable PW w 11 (some (.ref 6)) (12 + (1 + (196 + (214 + (305 + (396 + (375 + (221 + (385 + (240 + 2)))))))))) ⟨boot_heap w.params, ⟨[]⟩, boot_drawn, boot_toks, os⟩ (topStub PW) = some ⟨heap_393 w.params, ⟨[]⟩, ⟨0, 0, 0, 0⟩, 645, os⟩ := by
 refine go_top (preT w os) ?_
 refine piece_block (blk w os) ?_
 refine step c0 (step c1 (step c2 (step c3 (step c4 (step c5 (step c6 (step c7 ?_)))))))
 rw [d44]
 exact fin w os
theorem size (w : World) : ((boot_heap w.params).isNs mainGlobals && (Array.mk ([] : List GenState)).size == 0, (boot_heap w.params).objs.size, (boot_heap w.params).nsMap mainGlobals "__annotations__") = (true, 11, some (.ref 6)) := by kernel_rfl
theorem op : ∀ w : World, (fencedOpening treeTable PW w 4774).map (fun s => (s.heap, s.gens, s.drawn, s.toks)) = some (boot_heap w.params, Array.mk [], boot_drawn, boot_toks) :=
 boot_open (by kernel_rfl) (by decide) (fun s => by kernel_rfl)
def KP : List Nat := [1, 2, 3, 5, 7, 8, 9, 10, 12, 13, 14, 15, 16, 17, 18, 19, 20, 21, 23, 24, 26, 27, 28, 29, 30, 31, 32, 34, 36, 37, 38, 39, 40, 41, 42, 43, 44, 45]
noncomputable def VW (p : Program) : Program := { p with main := { p.main with body := KP.filterMap fun i => p.main.body[i]? } }
noncomputable abbrev S9 (w : World) (os : OsState) : Shared := ⟨heap_393 w.params, ⟨[]⟩, ⟨0, 0, 0, 0⟩, 645, os⟩
def LA (im : List Stmt → List Str) (p : Program) : Prop :=
 ∀ (w : World) (os : OsState), (staticsOk (im p.main.body) (boot_heap w.params) (heap_393 w.params) && namesBound p (heap_393 w.params) && gensDone (S9 w os) && laidKept (boot_heap w.params) (heap_393 w.params)) = true
theorem la : LA importedModules PW := by
 rw [PySem.W.Fast.te5923862056798008813, show PW = TP from PySem.W.Fast.te9384535992186916269]
 exact fun w os => by kernel_rfl
noncomputable abbrev XT (q : Program) : Shared → Bool := fun s => xlAt q [] s && recOk [] s
theorem lb0 (w : World) (os : OsState) : PySem.W.Fast.tw4187177175401517315 (VW TP) [] (PySem.W.Fast.tw5923862056798008813 TP.main.body) (XT (VW TP)) true (S9 w os) = openGood (VW TP) [] := by kernel_rfl
end OT
namespace K16
open PySem PySem.Spec PyProof.Rows L2
noncomputable abbrev Q (l : List Nat) : Str := ⟨⟨l⟩⟩
noncomputable abbrev fq (b c : Str) (s : Stmt) (q : Str) (t n : Nat) : Obj := ⟨(Value.type "function"), none, .func (PySem.W.fnOf b c (defArgs s) (defBody s) (defScope s) Value.none Value.none Value.none (Value.str q t) none (Value.ref n) Value.none), ⟨[]⟩⟩
set_option maxRecDepth 100000 in
noncomputable def KF : Params → PySem.W.Frag := fun P =>
 (nat_lit 56, fq "reached" "reached" s_reached OT.q176 239 55) ::
 (nat_lit 63, fq "turned" "turned" s_turned OT.q57 247 62) ::
 (nat_lit 77, fq "__init__" "Fold.__init__" s_Fold___init__ OT.q57 247 76) ::
 (nat_lit 84, fq "total" "Fold.total" s_Fold_total OT.q57 247 83) ::
 (nat_lit 91, fq "has_tie" "Fold.has_tie" s_Fold_has_tie OT.q57 247 90) ::
 (nat_lit 98, fq "pair" "Fold.pair" s_Fold_pair OT.q57 247 97) ::
 (nat_lit 105, fq "both" "Fold.both" s_Fold_both OT.q57 247 104) ::
 (nat_lit 112, fq "and_knot" "Fold.and_knot" s_Fold_and_knot OT.q57 247 111) ::
 (nat_lit 126, fq "and_tie" "and_tie" s_and_tie OT.q6 333 125) ::
 (nat_lit 131, fq "or_tie" "or_tie" s_or_tie OT.q6 333 130) ::
 (nat_lit 138, fq "either_of_two" "either_of_two" s_either_of_two OT.q6 333 137) ::
 (nat_lit 145, fq "either_tie" "either_tie" s_either_tie OT.q6 333 144) ::
 (nat_lit 152, fq "choose_tie" "choose_tie" s_choose_tie OT.q6 333 151) ::
 (nat_lit 159, fq "most_tie" "most_tie" s_most_tie OT.q6 333 158) ::
 (nat_lit 166, fq "gate_tie" "gate_tie" s_gate_tie OT.q6 333 165) ::
 (nat_lit 173, fq "moved_tie" "moved_tie" s_moved_tie OT.q6 333 172) ::
 (nat_lit 178, fq "swept" "swept" s_swept OT.q6 333 177) ::
 (nat_lit 183, fq "folded" "folded" s_folded OT.q6 333 182) ::
 (nat_lit 254, fq "__init__" "Net.__init__" s_Net___init__ OT.q20 498 253) ::
 (nat_lit 285, fq "_law_cell_at" "_law_cell_at" s_law_cell_at OT.q99 549 284) ::
 (nat_lit 292, fq "_law_gate" "_law_gate" s_law_gate OT.q99 549 291) ::
 (nat_lit 299, fq "_law_both" "_law_both" s_law_both OT.q99 549 298) ::
 (nat_lit 306, fq "_law_all" "_law_all" s_law_all OT.q99 549 305) ::
 (nat_lit 311, fq "_law_any" "_law_any" s_law_any OT.q99 549 310) ::
 (nat_lit 318, fq "_law_due" "_law_due" s_law_due OT.q99 549 317) ::
 (nat_lit 323, fq "_law_folded" "_law_folded" s_law_folded OT.q99 549 322) ::
 (nat_lit 328, fq "_law_right" "_law_right" s_law_right OT.q99 549 327) ::
 (nat_lit 335, fq "_law_outputs" "_law_outputs" s_law_outputs OT.q99 549 334) ::
 (nat_lit 340, fq "law" "law" s_law OT.q99 549 339) ::
 (nat_lit 55, OT.o97 P) ::
 (nat_lit 62, OT.o104 P) ::
 (nat_lit 76, OT.o120 P) ::
 (nat_lit 83, OT.o127 P) ::
 (nat_lit 90, OT.o134 P) ::
 (nat_lit 97, OT.o141 P) ::
 (nat_lit 104, OT.o148 P) ::
 (nat_lit 111, OT.o155 P) ::
 (nat_lit 125, OT.o171 P) ::
 (nat_lit 130, OT.o176 P) ::
 (nat_lit 137, OT.o183 P) ::
 (nat_lit 144, OT.o190 P) ::
 (nat_lit 151, OT.o197 P) ::
 (nat_lit 158, OT.o204 P) ::
 (nat_lit 165, OT.o211 P) ::
 (nat_lit 172, OT.o218 P) ::
 (nat_lit 177, OT.o223 P) ::
 (nat_lit 182, OT.o228 P) ::
 (nat_lit 253, OT.o303 P) ::
 (nat_lit 284, OT.o334 P) ::
 (nat_lit 291, OT.o341 P) ::
 (nat_lit 298, OT.o350 P) ::
 (nat_lit 305, OT.o357 P) ::
 (nat_lit 310, OT.o362 P) ::
 (nat_lit 317, OT.o369 P) ::
 (nat_lit 322, OT.o374 P) ::
 (nat_lit 327, OT.o379 P) ::
 (nat_lit 334, OT.o386 P) ::
 (nat_lit 339, OT.o391 P) ::
 (nat_lit 2, OT.b2 P) ::
 (nat_lit 3, OT.o343 P) ::
 (nat_lit 115, OT.o159 P) ::
 (nat_lit 114, OT.o158 P) ::
 (nat_lit 274, OT.o324 P) ::
 (nat_lit 273, OT.o323 P) :: []
end K16
namespace OT
open PySem PySem.W PySem.Spec
noncomputable abbrev AS : List Addr := (nat_lit 56 :: nat_lit 63 :: nat_lit 77 :: nat_lit 84 :: nat_lit 91 :: nat_lit 98 :: nat_lit 105 :: nat_lit 112 :: nat_lit 126 :: nat_lit 131 :: nat_lit 138 :: nat_lit 145 :: nat_lit 152 :: nat_lit 159 :: nat_lit 166 :: nat_lit 173 :: nat_lit 178 :: nat_lit 183 :: nat_lit 254 :: nat_lit 285 :: nat_lit 292 :: nat_lit 299 :: nat_lit 306 :: nat_lit 311 :: nat_lit 318 :: nat_lit 323 :: nat_lit 328 :: nat_lit 335 :: nat_lit 340 :: nat_lit 55 :: nat_lit 62 :: nat_lit 76 :: nat_lit 83 :: nat_lit 90 :: nat_lit 97 :: nat_lit 104 :: nat_lit 111 :: nat_lit 125 :: nat_lit 130 :: nat_lit 137 :: nat_lit 144 :: nat_lit 151 :: nat_lit 158 :: nat_lit 165 :: nat_lit 172 :: nat_lit 177 :: nat_lit 182 :: nat_lit 253 :: nat_lit 284 :: nat_lit 291 :: nat_lit 298 :: nat_lit 305 :: nat_lit 310 :: nat_lit 317 :: nat_lit 322 :: nat_lit 327 :: nat_lit 334 :: nat_lit 339 :: nat_lit 2 :: nat_lit 3 :: nat_lit 115 :: nat_lit 114 :: nat_lit 274 :: nat_lit 273 :: [])
noncomputable abbrev HK : Hook := kHook K16.KF AS (fun _ => by kernel_rfl)
theorem lb (w : World) (os : OsState) : openSeen (VW PW) [] (importedModules PW.main.body) (XT (VW PW)) true (S9 w os) = openGood (VW PW) [] := by
 rw [PySem.W.Fast.te4187177175401517315, PySem.W.Fast.te5923862056798008813, show PW = TP from PySem.W.Fast.te9384535992186916269]
 exact lb0 w os
theorem lc (w : World) (os : OsState) : HK.obs (S9 w os) = HK.val w := by kernel_rfl
theorem left : LeftO PW (VW PW) [] (XT (VW PW)) HK.obs HK.val 4774 :=
 LeftO.of_pieces op size run (by decide) fun w => funext fun os => by
  rw [la w os, lb w os, lc w os]
end OT
open PySem PySem.W PyProof.Rows
set_option maxRecDepth 100000 in
set_option maxHeartbeats 0 in
theorem PySem.Challenge.cw_gatefold_k16_folded_tidy_holds : PySem.Challenge.rw_gatefold_k16_folded_tidy.Holds := by
 w_on; o_law
 refine holds_open (q := OT.VW OT.PW) (loose := []) (Xt := OT.XT (OT.VW OT.PW)) (XP := XL (OT.VW OT.PW) []) (Yf := OT.HK.obs) (Ya := OT.HK.val) (YP := OT.HK.says) (N := 4774) OT.left OT.HK.of OT.HK.keeps
  (fun s e => xl_of s (Bool.and_eq_true_iff.mp e).1) XL.keeps (by rfl) (by rfl) (by rfl)
  (fun s e => recFacts_of (Bool.and_eq_true_iff.mp e).2) (by rfl) (by first | assumption | decide +kernel)
  (by decide +kernel)
  ⟨rfl, rfl, rfl, rfl, rfl, by decide +kernel⟩ ?hw ?hc
 case hw => w_witness2
 refine K16.walk (l := PySem.Challenge.rw_gatefold_k16_folded_tidy) (K := K16.KF) rfl rfl (fun w h Y => PySem.W.kIn_of Y) ?F
 case F =>
  intro w mg fa h KX G hmg
  k_fill
  refine' K16.all_mk KX G hmg ?aC_Fold ?aC_Net ?a0 ?l0 ?c0 ?k0 ?a1 ?l1 ?c1 ?k1 ?a2 ?i2 ?l2 ?c2 ?k2 ?a3 ?i3 ?l3 ?c3 ?k3 ?a4 ?i4 ?l4 ?c4 ?k4 ?a5 ?i5 ?l5 ?c5 ?k5 ?a6 ?i6 ?l6 ?c6 ?k6 ?a7 ?i7 ?l7 ?c7 ?k7 ?a8 ?l8 ?c8 ?k8 ?a9 ?l9 ?c9 ?k9 ?a10 ?l10 ?c10 ?k10 ?a11 ?l11 ?c11 ?k11 ?a12 ?l12 ?c12 ?k12 ?a13 ?l13 ?c13 ?k13 ?a14 ?l14 ?c14 ?k14 ?a15 ?l15 ?c15 ?k15 ?a16 ?l16 ?c16 ?k16 ?a17 ?l17 ?c17 ?k17 ?a18 ?i18 ?l18 ?c18 ?k18 ?a19 ?l19 ?c19 ?k19 ?a20 ?l20 ?c20 ?k20 ?a21 ?l21 ?c21 ?k21 ?a22 ?l22 ?c22 ?k22 ?a23 ?l23 ?c23 ?k23 ?a24 ?l24 ?c24 ?k24 ?a25 ?l25 ?c25 ?k25 ?a26 ?l26 ?c26 ?k26 ?a27 ?l27 ?c27 ?k27 ?a28 ?l28 ?c28 ?k28 ?pg_Fold ?hd_Fold ?po_Fold ?sa_Fold ?mk_Fold ?kc_Fold ?n_Fold_many ?n_Fold_pairs ?n_Fold_knots ?pg_Net ?hd_Net ?po_Net ?sa_Net ?mk_Net ?kc_Net ?n_Net_inputs ?n_Net_gates ?n_Net_outputs ?g_ALWAYS ?g_NEVER ?z_bool ?z_dict ?z_enumerate ?z_int ?z_isinstance ?z_len ?z_list ?z_max ?z_min ?z_range ?z_reversed ?z_tuple
  (case aC_Fold | aC_Net | a0 | l0 | c0 | k0 | a1 | l1 | c1 | k1 | a2 | i2 | l2 | c2 | k2 | a3 | i3 | l3 | c3 | k3 | a4 | i4 | l4 | c4 | k4 | a5 | i5 | l5 | c5 | k5 | a6 | i6 | l6 | c6 | k6 | a7 | i7 | l7 | c7 | k7 | a8 | l8 | c8 | k8 | a9 | l9 | c9 | k9 | a10 | l10 | c10 | k10 | a11 | l11 | c11 | k11 | a12 | l12 | c12 | k12 | a13 | l13 | c13 | k13 | a14 | l14 | c14 | k14 | a15 | l15 | c15 | k15 | a16 | l16 | c16 | k16 | a17 | l17 | c17 | k17 | a18 | i18 | l18 | c18 | k18 | a19 | l19 | c19 | k19 | a20 | l20 | c20 | k20 | a21 | l21 | c21 | k21 | a22 | l22 | c22 | k22 | a23 | l23 | c23 | k23 | a24 | l24 | c24 | k24 | a25 | l25 | c25 | k25 | a26 | l26 | c26 | k26 | a27 | l27 | c27 | k27 | a28 | l28 | c28 | k28 | pg_Fold | hd_Fold | po_Fold | sa_Fold | mk_Fold | kc_Fold | n_Fold_many | n_Fold_pairs | n_Fold_knots | pg_Net | hd_Net | po_Net | sa_Net | mk_Net | kc_Net | n_Net_inputs | n_Net_gates | n_Net_outputs | g_ALWAYS | g_NEVER | z_bool | z_dict | z_enumerate | z_int | z_isinstance | z_len | z_list | z_max | z_min | z_range | z_reversed | z_tuple => k_is)

