import PyProof.Rows.All
import Wide.All
import OpenK.AllK
import Wide.FinOn
import Lean
import PyProof.EqAt
import PyProof.EqKinds
import PyProof.TupleCall
import PyProof.ZipIter
import PyProof.WalksMore
import PyProof.ListNew
import PyProof.IsiBase
import PyProof.DictList
import PyProof.AttrMiss
import PyProof.FactsAll.dict
import PyProof.ListRange
import PyProof.StrLawsWords
import PyProof.StationsW
import KE.KIsAll
import PyProof.PassesOwn
import PyProof.DictIter
import KE.KRevIter
import KE.KRangeStep
import KE.RegMulBits
import KE.KDictList
import PyProof.EnumIter
import PyProof.EnumStmt
import PyProof.DictUpdate
import PySem.Challenge.RW_gatefold_k37_laid_as_deep_as_labels
open PySem.W renaming Frag → ZrF, nsIn → ZrG, findIn → ZrH, mg_of → ZrI, mg_none_of → ZrJ, fnOf → ZrK, kia_one → ZrL, excIn → ZrM, emptyDict → ZrN, instObj → ZrO, keepIn → ZrP, plainGet → ZrQ, codeIn → ZrR, lookIn → ZrS, hasDictIn → ZrT, isFn → ZrU, methodObj → ZrV, plainGet_of → ZrW, plainOver → ZrX, takerIn → ZrY, makesIn → ZrZ, kitOne → Zr0, callWith_K → Zr1, OpenLaw → Zr2, KdlSrc → Zr3, methodCall_KW → Zr4, cellsFrom_some → Zr5, rangeSize_downNat → Zr6
open PySem.F renaming plainAttrs_list → Zr7, excBase_ValueError → Zr8, slot_list_append → Zr9, type_list_append → Zsa, slot_dict_get → Zsb, plainAttrs_dict → Zsc, slot_dict_pop → Zsd, entry_dict_get → Zse, args_dict_get_3 → Zsf, slot_dict_update → Zsg
open List renaming length_map → Zsh, mem_map → Zsi, range → Zsj, getElem?_eq_some_iff → Zsk, mem_singleton → Zsl, length_append → Zsm, getElem?_eq_getElem → Zsn, map_map → Zso, replicate → Zsp, mem_append → Zsq, size_toArray → Zsr, map_append → Zss, mem_cons → Zst, getElem?_map → Zsu, Nodup → Zsv, map_cons → Zsw, getD → Zsx, getD_eq_getElem?_getD → Zsy, mem_of_getElem? → Zsz, getElem?_append_left → ZsA, length_cons → ZsB, getElem?_append_right → ZsC, mem_cons_of_mem → ZsD, mem_append_right → ZsE, length_range → ZsF, mem_append_left → ZsG, length_nil → ZsH, take_length → ZsI, mem_cons_self → ZsJ, take_add_one → ZsK, mem_range → ZsL, length_replicate → ZsM, length_singleton → ZsN, filter_cons → ZsO, lookup_cons → ZsP, all_eq_true → ZsQ, getElem?_eq_none → ZsR, mem_filter → ZsS, append_nil → ZsT, foldl_cons → ZsU, getElem_mem → ZsV, map_congr_left → ZsW, nodup_cons → ZsX, map_nil → ZsY, replicate_succ → ZsZ, filter_append → Zs0, lookup → Zs1, length_filter_le → Zs2, not_mem_nil → Zs3, range_succ → Zs4, map_id → Zs5, length_take → Zs6, find?_cons → Zs7, nodup_nil → Zs8, getElem?_cons_succ → Zs9, take_zero → Zta, all_map → Ztb, mem_iff_getElem? → Ztc, filter_map → Ztd, filterMap_cons → Zte, getElem?_replicate → Ztf, any_cons → Ztg, flatten_cons → Zth, length_reverse → Zti, forIn_cons → Ztj, getElem?_cons_zero → Ztk, nodup_append → Ztl, filter_nil → Ztm, take_of_length_le → Ztn, pairwise_iff_getElem → Zto, forIn_nil → Ztp, pairwise_map → Ztq, zip_cons_cons → Ztr, mem_reverse → Zts, of_mem_zip → Ztt, length_drop → Ztu, append_assoc → Ztv, Pairwise → Ztw, drop_eq_getElem_cons → Ztx, length_pos_of_mem → Zty, length_eq_zero_iff → Ztz, concat_eq_append → ZtA, getElem?_set_self → ZtB, getElem?_take_of_lt → ZtC, drop_eq_nil_of_le → ZtD, find?_cons_of_pos → ZtE, find?_cons_of_neg → ZtF, length_erase_of_mem → ZtG, eq_nil_or_concat → ZtH, getElem?_reverse → ZtI
open Nat renaming le_refl → ZtJ, ne_of_lt → ZtK, le_trans → ZtL, lt_of_lt_of_le → ZtM, zero_le → ZtN, lt_or_ge → ZtO, ne_of_gt → ZtP, sub_self → ZtQ, le_of_lt → ZtR, pow_succ → ZtS, not_lt_zero → ZtT, lt_irrefl → ZtU, lt_of_not_le → ZtV, lt_succ_self → ZtW, pow_le_pow_right → ZtX, testBit_two_pow_sub_one → ZtY, pow_pos → ZtZ, le_succ → Zt0, testBit_or → Zt1, testBit_and → Zt2, le_add_right → Zt3, le_antisymm → Zt4, testBit_lt_two_pow → Zt5, div_add_mod → Zt6, mod_two_eq_zero_or_one → Zt7, testBit_xor → Zt8, lt_trichotomy → Zt9
open Int renaming toNat_natCast → Zua, eq_ofNat_of_zero_le → Zub, toNat → Zuc, emod_nonneg → Zud, emod_lt_of_pos → Zue, fdiv_eq_ediv_of_nonneg → Zuf
open Array renaming length_toList → Zug, getElem?_eq_some_iff → Zuh, getElem?_eq_getElem → Zui, getElem?_toList → Zuj, getElem?_eq_none → Zuk, toArray_toList → Zul
open Bool renaming false_ne_true → Zum, and_eq_true → Zun, eq_iff_iff → Zuo, true_and → Zup, and_eq_true_iff → Zuq, false_or → Zur, or_eq_true → Zus
local macro_rules | `(tactic| omega) => `(tactic| first | ((fail_if_success (fail_if_success omega +splitDisjunctions)); lia) | omega +splitDisjunctions)
set_option Elab.async false
set_option linter.all false
set_option maxRecDepth 100000
namespace L2
open PySem PySem.Spec PyProof.Rows
noncomputable abbrev Key:=Sum Int Str
noncomputable def zG:Key->Value->Bool
 | .inl k,v=>Value.isInt k v
 | .inr x,v=>Value.isStrOf x v
noncomputable def OW (w:World):Key->Int
 | .inl k=>hashInt k
 | .inr x=>hashStr w x
theorem qh:∀ {k:Key}{v:Value},zG k v=true->(∃ i t,k=Sum.inl i/\v=Value.int i t)\/(∃ x t,k=Sum.inr x/\v=Value.str x t)
 | .inl i,v,h=>by
  obtain ⟨t,e⟩:=Value.isInt_shape (k:=i) (v:=v) h
  exact .inl ⟨i,t,rfl,e⟩
 | .inr x,v,h=>by
  obtain ⟨t,e⟩:=Value.isStrOf_shape (x:=x) (v:=v) h
  exact .inr ⟨x,t,rfl,e⟩
theorem ZnN (i:Int) (t:Tok):zG (.inl i) (.int i t)=true:=by simp [zG,Value.isInt]
theorem Zs (x:Str) (t:Tok):zG (.inr x) (.str x t)=true:=by simp [zG,Value.isStrOf]
theorem zd (a b:Int):decide ((Sum.inl a:Key)=Sum.inl b)=(a == b):=by
 by_cases e:a=b
 ·subst e;simp
 ·have h:¬ (Sum.inl a:Key)=Sum.inl b:=fun q=>e (Sum.inl.inj q)
  rw [decide_eq_false h]
  exact (beq_eq_false_iff_ne.mpr e).symm
theorem xP (a b:Str):decide ((Sum.inr a:Key)=Sum.inr b)=decide (a=b):=by
 by_cases e:a=b
 ·subst e;simp
 ·have h:¬ (Sum.inr a:Key)=Sum.inr b:=fun q=>e (Sum.inr.inj q)
  rw [decide_eq_false h,decide_eq_false e]
theorem xS (a:Int) (b:Str):decide ((Sum.inl a:Key)=Sum.inr b)=false:=decide_eq_false (fun q=>nomatch q)
theorem vA (a:Str) (b:Int):decide ((Sum.inr a:Key)=Sum.inl b)=false:=decide_eq_false (fun q=>nomatch q)
noncomputable def ij (prog:Program) (w:World):PySem.KeyKind prog w Key where
 is:=zG
 hash:=OW w
 inj:=fun v a b ha hb=>by
  rcases qh ha with ⟨i,t,rfl,rfl⟩ | ⟨x,t,rfl,rfl⟩
  ·rcases qh hb with ⟨j,u,rfl,e⟩ | ⟨y,u,rfl,e⟩
   ·injection e with e1 _;rw [e1]
   ·exact nomatch e
  ·rcases qh hb with ⟨j,u,rfl,e⟩ | ⟨y,u,rfl,e⟩
   ·exact nomatch e
   ·injection e with e1 _;rw [e1]
 byValue:=fun k v h=>by
  rcases qh h with ⟨i,t,rfl,rfl⟩ | ⟨x,t,rfl,rfl⟩ <;> rfl
 pyHash:=fun hv h=>by
  rcases qh hv with ⟨i,t,rfl,rfl⟩ | ⟨x,t,rfl,rfl⟩
  ·exact wpAny_pyHash_int h
  ·exact wpAny_pyHash_str h
 eqBool:=fun hu hv h=>by
  rcases qh hu with ⟨i,t,rfl,rfl⟩ | ⟨x,t,rfl,rfl⟩
  ·rcases qh hv with ⟨j,u,rfl,rfl⟩ | ⟨y,u,rfl,rfl⟩
   ·rw [zd] at h;exact wpAny_eqBool_int h
   ·rw [xS] at h;exact SeqAt.EqAt.int_str i t y u _ _ _ _ h
  ·rcases qh hv with ⟨j,u,rfl,rfl⟩ | ⟨y,u,rfl,rfl⟩
   ·rw [vA] at h;exact SeqAt.EqAt.str_int x t j u _ _ _ _ h
   ·rw [xP] at h;exact wpAny_eqBool_str h
 «strs»:=fun k x t v h=>by
  rcases qh h with ⟨i,u,rfl,e⟩ | ⟨y,u,rfl,e⟩
  ·exact nomatch e
  ·injection e with e1 _
   subst e1
   cases v <;> rfl
theorem YN (prog:Program) (w:World) (i:Int) (t:Tok):(ij prog w).is (.inl i) (.int i t)=true:=ZnN i t
theorem ZkI (prog:Program) (w:World) (x:Str) (t:Tok):(ij prog w).is (.inr x) (.str x t)=true:=Zs x t
inductive V where
 | non | bl (b:Bool) | int (i:Int) | str (x:Str) | byt (b:Array UInt8) | flt (b:UInt64) | ref (a:Addr) | ty (n:String)
 deriving DecidableEq
noncomputable def bf:V->Value->Prop
 | .non,u=>u=Value.none
 | .bl b,u=>u=Value.bool b
 | .int i,u=>∃ t,u=Value.int i t
 | .str x,u=>∃ t,u=Value.str x t
 | .byt b,u=>∃ t,u=Value.bytes b t
 | .flt b,u=>∃ t,u=Value.float b t
 | .ref a,u=>u=Value.ref a
 | .ty n,u=>u=Value.type n
noncomputable abbrev Vals:List V->List Value->Prop:=Paired bf
theorem Vals.length {xs:List V}{us:List Value} (r:Vals xs us):xs.length=us.length:=Paired.length r
theorem Vals.get:∀ {xs:List V}{us:List Value}{i:Nat}{x:V},Vals xs us->xs[i]? = some x->∃ u,us[i]? = some u/\bf x u
 | _,_,_,_,.nil,e=>by simp at e
 | _,_,0,_,.cons r _,e=>by simp at e;subst e;exact ⟨_,rfl,r⟩
 | _,_,i+1,x,.cons _ t,e=>by
  obtain ⟨u,h1,h2⟩:=Vals.get (i:=i) (x:=x) t (by simpa using e)
  exact ⟨u,by simpa using h1,h2⟩
theorem Vals.set {x:V}{u:Value} (r:bf x u):∀ {xs:List V}{us:List Value} (i:Nat),Vals xs us->Vals (xs.set i x) (us.set i u)
 | _,_,_,.nil=>.nil
 | _,_,0,.cons _ t=>.cons r t
 | _,_,i+1,.cons q t=>.cons q (Vals.set r i t)
theorem Vals.append:∀ {xs ys:List V}{us ws:List Value},Vals xs us->Vals ys ws->Vals (xs ++ ys) (us ++ ws)
 | _,_,_,_,.nil,s=>s
 | _,_,_,_,.cons r t,s=>.cons r (Vals.append t s)
theorem Vals.take:∀ {xs:List V}{us:List Value} (n:Nat),Vals xs us->Vals (xs.take n) (us.take n)
 | _,_,0,_=>.nil
 | _,_,_+1,.nil=>.nil
 | _,_,n+1,.cons r t=>.cons r (Vals.take n t)
theorem Vals.drop:∀ {xs:List V}{us:List Value} (n:Nat),Vals xs us->Vals (xs.drop n) (us.drop n)
 | _,_,0,r=>r
 | _,_,_+1,.nil=>.nil
 | _,_,n+1,.cons _ t=>Vals.drop n t
noncomputable def ka:Option V->Option Value->Prop
 | some v,some u=>bf v u
 | none,none=>True
 | _,_=>False
noncomputable def KV {κ:Type}:List (κ × V)->List (κ × Value)->Prop:=Paired fun (p:κ × V) (q:κ × Value)=>p.1=q.1/\bf p.2 q.2
noncomputable def kV:Key->V
 | .inl i=>.int i
 | .inr x=>.str x
inductive HO where
  | lst (xs:List V)
  | tup (xs:List V)
  | dK (kvs:List (Key × V)) | dT (kvs:List (List Key × V))
  | set (S:Int->Bool) (n:Nat)
  | ins (C dx:Addr) (fs:List (Str × V))
  | own (x:Addr)
  | xd (fs:List (Str × V))
  | met (f x:Addr)
  | rng (lo hi:Int)
  | frz (o:Obj) (u:HO)
  | tbl (ps:Array Value)
  | ext (φ:Heap->Prop)
noncomputable abbrev Hp:=Addr->Option HO
noncomputable def upd (H:Hp) (a:Addr) (o:HO):Hp:=fun b=>if b=a then some o else H b
theorem bR {H:Hp}{a:Addr}{o:HO}:upd H a o a=some o:=by unfold upd;rw [if_pos rfl]
theorem aE {H:Hp}{a b:Addr}{o:HO} (h:b≠a):upd H a o b=H b:=by unfold upd;rw [if_neg h]
theorem HR {H:Hp}{a:Addr}{o u:HO}:upd (upd H a o) a u=upd H a u:=by
 funext b;unfold upd;split <;> rfl
theorem eA {H:Hp}{a b:Addr}{o u:HO} (h:H a=some o) (h':H b=some u) (d:o≠u):a≠b:=by
 intro e;subst e;rw [h] at h';exact d (Option.some.inj h')
theorem cn {H:Hp}{a b:Addr}{o:HO} (h:H a=some o) (h':H b=none):a≠b:=by
 intro e;subst e;rw [h] at h';cases h'
section
variable (P:Program) (w:World)
noncomputable def eR (H:Hp) (h:Heap) (a:Addr):HO->Prop
 | .lst xs=>xs.length<=sizeLine/\∃ (its:List Value) (n:Nat),Vals xs its/\h.get? a=some { cls:=.type "list",data:=.seq its.toArray n }
 | .tup xs=>xs.length<=sizeLine/\∃ its:List Value,Vals xs its/\IsTup h a its.toArray
 | .dK kvs=>kvs.length<=sizeLine/\(a == sysModules)=false/\∃ vs,KV kvs vs/\h.DictOf (ij P w) a vs
 | .dT kvs=>kvs.length<=sizeLine/\(a == sysModules)=false/\∃ xs:List (List Key × Addr × Value),
   Paired (fun (p:List Key × V) (q:List Key × Addr × Value)=>p.1=q.1/\H q.2.1=some (.tup (p.1.map kV))/\bf p.2 q.2.2) kvs xs /\
   ∃ o es ep,h.get? a=some o/\o.ExactDict/\o.data=.dict es ep/\es.toList=xs.map (entryOfKey (tupleKind (ij P w)))/\(xs.map (·.1)).Nodup
 | .set S n=>h.SetOf (intKind P w) a S n
 | .ins C dx fs=>H dx=some (.own a)/\fs.length<=1000/\dx≠a/\h.get? a=some (ZrO C dx) /\
   ∃ mA,h.Ns1 dx mA/\(∀ f,ka (fs.lookup f) (mA f))/\PySem.Within mA (fs.map (·.1))
 | .own _=>∃ o,h.get? a=some o
 | .xd fs=>∃ mA,h.Ns1 a mA/\∀ f,ka (fs.lookup f) (mA f)
 | .rng lo hi=>∃ t u v,h.get? a=some { cls:=.type "range",data:=.fields #[.int lo t,.int hi u,.int 1 v] }
 | .frz o u=>h.get? a=some o/\eR H h a u
 | .tbl ps=>h.get? a=some { cls:=.none,data:=.fields ps }
 | .met f x=>h.get? a=some (ZrV (.ref f) (.ref x))
 | .ext φ=>φ h/\(∃ o,h.get? a=some o)/\∀ h1 h2:Heap,φ h1->(∀ o,h1.get? a=some o->h2.get? a=some o)->φ h2
noncomputable def fJ (H:Hp) (h:Heap):Prop:=∀ a o,H a=some o->eR P w H h a o
end
section
variable {P:Program}{w:World}{H H':Hp}{h h':Heap}{a:Addr}{o:HO}
theorem eR.lt (x:eR P w H h a o):a<h.objs.size:=by
 cases o with
 | lst xs=>obtain ⟨_,_,_,_,e⟩:=x;exact Heap.lt_size e
 | tup xs=>obtain ⟨_,_,_,p⟩:=x;exact p.lt
 | dK kvs=>obtain ⟨_,_,_,_,o,_,_,e,_⟩:=x;exact Heap.lt_size e
 | dT kvs=>obtain ⟨_,_,_,_,o,_,_,e,_⟩:=x;exact Heap.lt_size e
 | set S n=>obtain ⟨o,_,_,_,e,_⟩:=x;exact Heap.lt_size e
 | ins C dx fs=>obtain ⟨_,_,_,e,_⟩:=x;exact Heap.lt_size e
 | own y=>obtain ⟨_,e⟩:=x;exact Heap.lt_size e
 | xd fs=>obtain ⟨_,⟨_,_,_,e,_⟩,_⟩:=x;exact Heap.lt_size e
 | rng lo hi=>obtain ⟨_,_,_,e⟩:=x;exact Heap.lt_size e
 | frz ob u=>obtain ⟨e,_⟩:=x;exact Heap.lt_size e
 | tbl ps=>exact Heap.lt_size (show h.get? a=some _ from x)
 | met f y=>exact Heap.lt_size (show h.get? a=some _ from x)
 | ext φ=>obtain ⟨_,⟨_,e⟩,_⟩:=x;exact Heap.lt_size e
theorem Paired.xg {α β:Type}{F G:α->β->Prop}:∀ {l₁:List α}{l₂:List β},Paired F l₁ l₂->(∀ a b,F a b->G a b)->Paired G l₁ l₂
 | _,_,.nil,_=>.nil
 | _,_,.cons r t,f=>.cons (f _ _ r) (Paired.xg t f)
theorem eR.i5 (x:eR P w H h a o) (k:∀ b u,(b=a\/H b=some (.own a))->h.get? b=some u->h'.get? b=some u)
  (ho:∀ b,H b=some (.own a)->H' b=some (.own a)) (ht:∀ b xs,H b=some (.tup xs)->H' b=some (.tup xs)):eR P w H' h' a o:=by
 induction o with
 | lst xs=>obtain ⟨z,its,n,r,e⟩:=x;exact ⟨z,its,n,r,k _ _ (.inl rfl) e⟩
 | tup xs=>obtain ⟨z,its,r,ob,e,c⟩:=x;exact ⟨z,its,r,ob,k _ _ (.inl rfl) e,c⟩
 | dK kvs=>obtain ⟨z,y,vs,r,ob,es,ep,e,c⟩:=x;exact ⟨z,y,vs,r,ob,es,ep,k _ _ (.inl rfl) e,c⟩
 | dT kvs =>
  obtain ⟨z,y,xs,r,ob,es,ep,e,c⟩:=x
  exact ⟨z,y,xs,Paired.xg r fun p q z=>⟨z.1,ht _ _ z.2.1,z.2.2⟩,ob,es,ep,k _ _ (.inl rfl) e,c⟩
 | set S n=>obtain ⟨ob,es,ep,t,e,c⟩:=x;exact ⟨ob,es,ep,t,k _ _ (.inl rfl) e,c⟩
 | ins C dx fs =>
  obtain ⟨d,z,ne,e,mA,⟨od,es,ep,e2,c⟩,r⟩:=x
  exact ⟨ho _ d,z,ne,k _ _ (.inl rfl) e,mA,⟨od,es,ep,k _ _ (.inr d) e2,c⟩,r⟩
 | own y=>obtain ⟨ob,e⟩:=x;exact ⟨ob,k _ _ (.inl rfl) e⟩
 | xd fs=>obtain ⟨mA,⟨od,es,ep,e,c⟩,r⟩:=x;exact ⟨mA,⟨od,es,ep,k _ _ (.inl rfl) e,c⟩,r⟩
 | rng lo hi=>obtain ⟨t,u,v,e⟩:=x;exact ⟨t,u,v,k _ _ (.inl rfl) e⟩
 | frz ob u ih=>obtain ⟨e,q⟩:=x;exact ⟨k _ _ (.inl rfl) e,ih q⟩
 | tbl ps =>
  have e:h.get? a=some { cls:=.none,data:=.fields ps }:=x
  show h'.get? a=some { cls:=.none,data:=.fields ps }
  exact k a _ (.inl rfl) e
 | met f y =>
  have e:h.get? a=some (ZrV (.ref f) (.ref y)):=x
  show h'.get? a=some (ZrV (.ref f) (.ref y))
  exact k a _ (.inl rfl) e
 | ext φ=>obtain ⟨p,⟨o,e⟩,st⟩:=x;exact ⟨st _ _ p fun o q=>k _ _ (.inl rfl) q,⟨o,k _ _ (.inl rfl) e⟩,st⟩
theorem fJ.lt (x:fJ P w H h) (e:H a=some o):a<h.objs.size:=(x a o e).lt
theorem fJ.fresh (x:fJ P w H h) (e:h.objs.size<=a):H a=none:=by
 cases q:H a with
 | none=>rfl
 | some u=>exact absurd (ZtM (x.lt q) e) (ZtU _)
theorem fJ.kept (x:fJ P w H h) (k:∀ b u,h.get? b=some u->h'.get? b=some u):fJ P w H h':=fun a o e =>
 (x a o e).i5 (fun b u _ q=>k b u q) (fun _ q=>q) fun _ _ q=>q
theorem fJ.laid (x:fJ P w H h) (k:∀ b u,h.get? b=some u->h'.get? b=some u) (hp:h.objs.size<=a) (new:eR P w (upd H a o) h' a o):fJ P w (upd H a o) h':=fun b u e=>by
 have hn:=x.fresh hp
 by_cases hb:b=a
 ·subst hb;rw [bR] at e;cases e;exact new
 ·rw [aE hb] at e
  exact (x b u e).i5 (fun c v _ q=>k c v q) (fun c q=>by rw [aE (cn q hn)];exact q) fun c xs q=>by rw [aE (cn q hn)];exact q
end
noncomputable def Rd (H:Hp) (a:Addr) (u:HO):Prop:=H a=some u\/∃ o,H a=some (.frz o u)
theorem Rd.of {H:Hp}{a:Addr}{u:HO} (h:H a=some u):Rd H a u:=.inl h
theorem Rd.ok {P:Program}{w:World}{H:Hp}{h:Heap}{a:Addr}{u:HO} (r:Rd H a u) (x:fJ P w H h):eR P w H h a u:=by
 rcases r with r | ⟨o,r⟩
 ·exact x a u r
 ·obtain ⟨_,q⟩:=x a _ r
  exact q
noncomputable def Hb:Option HO->Prop
 | some (.lst _)=>True
 | some (.dK _)=>True
 | some (.dT _)=>True
 | some (.set _ _)=>True
 | some (.ins _ _ _)=>True
 | some (.ext _)=>True
 | _=>False
section
variable {P:Program}{w:World}{H:Hp}{h h':Heap}{x e:Addr}{o':HO}
theorem fJ.write (ok:fJ P w H h) (mu:Hb (H x)) (he:e=x\/H e=some (.own x)) (k:∀ b u,b≠e->h.get? b=some u->h'.get? b=some u) (Aw:∃ u,h'.get? e=some u)
  (new:eR P w (upd H x o') h' x o'):fJ P w (upd H x o') h':=fun b u q=>by
 have CV:∀ c y,H c=some (.own y)->c≠x:=fun c y r z=>by subst z;rw [r] at mu;exact mu
 have LS:∀ c xs,H c=some (.tup xs)->c≠x:=fun c xs r z=>by subst z;rw [r] at mu;exact mu
 by_cases hb:b=x
 ·subst hb;rw [bR] at q;cases q;exact new
 ·rw [aE hb] at q
  by_cases hbe:b=e
  ·have q':H b=some (.own x):=by
    rcases he with z | z
    ·exact absurd (hbe.trans z) hb
    ·rw [hbe];exact z
   rw [q] at q';cases q'
   obtain ⟨v,hv⟩:=Aw
   exact ⟨v,by rw [hbe];exact hv⟩
  ·refine (ok b u q).i5 (fun c v hc r=>k c v ?_ r) (fun c r=>by rw [aE (CV c b r)];exact r) fun c xs r=>by rw [aE (LS c xs r)];exact r
   rcases hc with rfl | hc
   ·exact hbe
   ·rintro rfl
    rcases he with z | z
    ·exact CV c b hc z
    ·rw [hc] at z;cases z;exact hb rfl
end
structure Un (fs ex:List Addr) (H H':Hp) (h h':Heap):Prop where
 keep:∀ b o,h.get? b=some o->H b=none->b ∉ fs->b ∉ ex->h'.get? b=some o
 slot:∀ b o,h.get? b=some o->H b=none->b∈fs->b ∉ ex->∃ sl,h'.get? b=some { o with slots:=sl }
 free:∀ b o,h.get? b=some o->H b=none->b ∉ ex->H' b=none
 there:∀ b o,h.get? b=some o->b ∉ ex->∃ o',h'.get? b=some o'
 hZ:∀ b xs,H b=some (.tup xs)->H' b=some (.tup xs)
 gE:∀ b o u,H b=some (.frz o u)->H' b=some (.frz o u)
 gX:∀ b ps,H b=some (.tbl ps)->∃ more,H' b=some (.tbl (ps ++ more))
section
variable {fs fs' ex ex':List Addr}{H H1 H2:Hp}{h h1 h2 h':Heap}{a x e:Addr}{o:HO}
theorem Un.any (u:Un fs ex H H1 h h1) {b:Addr}{ob:Obj} (q:h.get? b=some ob) (n:H b=none) (hx:b ∉ ex):∃ sl,h1.get? b=some { ob with slots:=sl }:=by
 by_cases hb:b∈fs
 ·exact u.slot b ob q n hb hx
 ·exact ⟨ob.slots,u.keep b ob q n hb hx⟩
theorem Un.kept (k:∀ b u,h.get? b=some u->h'.get? b=some u):Un fs ex H H h h' :=
 ⟨fun b ob q _ _ _=>k b ob q,fun b ob q _ _ _=>⟨ob.slots,k b ob q⟩,fun _ _ _ n _=>n,fun b ob q _=>⟨ob,k b ob q⟩,fun _ _ q=>q,fun _ _ _ q=>q,fun _ ps q=>⟨#[],by rw [q];simp⟩⟩
theorem Un.refl:Un fs ex H H h h:=Un.kept fun _ _ q=>q
theorem Un.laid (k:∀ b u,h.get? b=some u->h'.get? b=some u) (hp:h.objs.size<=a) (hn:H a=none):Un fs ex H (upd H a o) h h' where
 keep:=fun b u q _ _ _=>k b u q
 slot:=fun b u q _ _ _=>⟨u.slots,k b u q⟩
 free:=fun b u q n _=>by rw [aE (ZtK (ZtM (Heap.lt_size q) hp))];exact n
 there:=fun b u q _=>⟨u,k b u q⟩
 hZ:=fun b xs q=>by rw [aE (cn q hn)];exact q
 gE:=fun b u xs q=>by rw [aE (cn q hn)];exact q
 gX:=fun b ps q=>⟨#[],by rw [aE (cn q hn),q];simp⟩
theorem Un.write (mu:Hb (H x)) (he:e=x\/H e=some (.own x)) (k:∀ b u,b≠e->h.get? b=some u->h'.get? b=some u) (Aw:∃ u,h'.get? e=some u):Un fs ex H (upd H x o) h h':=by
 have hx:∀ b,H b=none->b≠x:=fun b n z=>by subst z;rw [n] at mu;exact mu
 have hb:∀ b,H b=none->b≠e:=fun b n z=>by
  subst z
  rcases he with r | r
  ·exact hx b n r
  ·rw [n] at r;cases r
 have hm:∀ b u,H b=some u->¬ Hb (some u)->b≠x:=fun b u q nm z=>by subst z;rw [q] at mu;exact nm mu
 refine ⟨fun b u q n _ _=>k b u (hb b n) q,fun b u q n _ _=>⟨u.slots,k b u (hb b n) q⟩,fun b u q n _=>by rw [aE (hx b n)];exact n,fun b u q _=>?_,
  fun b xs q=>by rw [aE (hm b _ q fun z=>z)];exact q,fun b u xs q=>by rw [aE (hm b _ q fun z=>z)];exact q,fun b ps q=>⟨#[],by rw [aE (hm b _ q fun z=>z),q];simp⟩⟩
 by_cases hbe:b=e
 ·subst hbe;exact Aw
 ·exact ⟨u,k b u hbe q⟩
end
noncomputable def Ih (h:Heap) (H:Hp):List Addr:=(Zsj h.objs.size).filter fun a=>(H a).isSome
noncomputable def qQ (h:Heap) (H:Hp):Heap:=PySem.W.hideAll h (Ih h H)
theorem Z2 (h:Heap) (H:Hp):(qQ h H).objs.size=h.objs.size:=PySem.W.hideAll_size _ _
theorem Zpe {h:Heap}{H:Hp}{b:Addr}{o:Obj} (e:h.get? b=some o) (n:H b=none):(qQ h H).get? b=some o :=
 PySem.W.hideAll_get _ e fun hm=>by
  have q:(H b).isSome=true:=(ZsS.mp hm).2
  rw [n] at q;simp at q
theorem Zq0 {h:Heap}{H:Hp}{b:Addr}{o:Obj} (e:(qQ h H).get? b=some o):h.get? b=some o/\H b=none:=by
 have e':h.get? b=some o:=PySem.W.of_hideAll (Ih h H) e
 refine ⟨e',?_⟩
 cases q:H b with
 | none=>rfl
 | some x =>
  have hm:b∈Ih h H:=ZsS.mpr ⟨ZsL.mpr (Heap.lt_size e'),by simp [q]⟩
  have z:(qQ h H).get? b=none:=PySem.W.hideAll_none (Ih h H) hm
  rw [z] at e;cases e
noncomputable def Zrz (g h:Heap) (L:Addr):List (Addr × Obj):=(Zsj h.objs.size).filterMap fun a=>if a=L\/(g.get? a).isSome=true then none else (h.get? a).map fun o=>(a,o)
noncomputable def rest (g h:Heap) (L d:Addr):List (Addr × Obj):=(Zrz g h L).filter fun p=>decide (p.1≠d)
structure Mod (K:ZrF) (mg:Str->Option Value) (base:Heap):Prop where
 AJ:K.In base
 glob:base.Ns mainGlobals mg
 blt:∃ mb,base.Ns builtinsNs mb/\∀ x:Str,x ≠ "__name__" -> mb x=bootBuiltins x
 nolimit:base.NoLimit
structure Cx where
 prog:Program
 w:World
 K:ZrF
 mg:Str->Option Value
 base:Heap
 A:Around
 N:List Str
 s₀:Shared
 H₀:Hp
 env:Env
 outer:List Env
 stack:List Env
 ex:List Addr
 fn:Str->Bool
 calm:Bool
 pn:List (Addr × Obj)
 xe:Value->Shared->Prop
noncomputable def jN (l:List Env):List Addr:=l.filterMap (·.frame)
noncomputable abbrev Cx.fs (X:Cx):List Addr:=jN X.outer
noncomputable def OO (sc:Scope) (x:Str):Prop:=sc.names.lookup x=some .local\/sc.names.lookup x=some .cell\/sc.names.lookup x=some .free
noncomputable def Loc (sc:Scope) (x:Str):Prop:=sc.names.lookup x=some .local\/sc.names.lookup x=some .cell
noncomputable def Look (env:Env) (h:Heap) (m:Str->Option Value) (x:Str) (u:Value):Prop :=
 (env.kindOf x=some .local/\m x=some u)\/((env.kindOf x=some .cell\/env.kindOf x=some .free)/\∃ c,env.cells.lookup x=some c/\h.IsCell c (some u))
structure Cx.Ok (X:Cx):Prop where
 mod:Mod X.K X.mg X.base
 kind:X.env.scope.kind=.function
 glob:X.env.globals=mainGlobals
 blt:X.env.builtins=builtinsNs
 above:X.s₀.heap.objs.size<=X.env.locals
 inj:∀ x y c,X.env.cells.lookup x=some c->X.env.cells.lookup y=some c->x=y
 has:∀ x,(X.env.kindOf x=some .cell\/X.env.kindOf x=some .free)->∃ c,X.env.cells.lookup x=some c
 tJ:∀ x c,X.fn x=true->X.env.cells.lookup x=some c->X.s₀.heap.objs.size<=c
 hd:X.calm=true->X.A.handled=none
 frames:X.A.frames=some X.stack
 ve:X.stack=X.outer\/(X.stack=X.env :: X.outer/\X.env.frame=some X.env.locals)
 C1:∀ b∈X.ex,b≠X.env.locals/\∀ x c,X.env.cells.lookup x=some c->c≠b
 bs:∀ b o,X.base.get? b=some o->X.s₀.heap.get? b=some o/\X.H₀ b=none
 mE:X.base.objs.size<=X.s₀.heap.objs.size
 j9:∀ b o,X.base.get? b=some o->b ∉ X.ex
 kI:∀ b∈X.ex,b ∉ X.fs
 fF:X.s₀.heap.FunFrames X.base X.outer
 pF:∀ b∈X.fs,X.H₀ b=none
structure Inv (X:Cx) (pins:List (Addr × Obj)) (σ:List (Option V)) (H:Hp) (s:Shared):Prop where
 ok:X.Ok
 os:s.os=X.s₀.os
 bare:AllBare s.gens
 base:Un X.fs X.ex X.H₀ H X.s₀.heap s.heap
 loc:∃ m,s.heap.Ns X.env.locals m/\∀ (i:Nat) (x:Str) (v:V),X.N[i]? = some x->σ[i]? = some (some v)->OO X.env.scope x->∃ u,bf v u/\Look X.env s.heap m x u
 cell:∀ x c,X.env.cells.lookup x=some c->∃ v,s.heap.IsCell c v
 free:H X.env.locals=none
 dr:∀ x c,X.env.cells.lookup x=some c->H c=none
 pin:∀ p∈X.pn ++ pins,s.heap.get? p.1=some p.2/\H p.1=none/\p.1≠X.env.locals/\p.1 ∉ X.fs/\∀ v,p.2.data≠.cell v
 aB:fJ X.prog X.w H s.heap
 len:σ.length=X.N.length
section
variable {X:Cx}{pins:List (Addr × Obj)}{σ:List (Option V)}{H H':Hp}{s:Shared}{h':Heap}
theorem Cx.Ok.OA (ok:X.Ok) {b:Addr}{o:Obj} (e:X.base.get? b=some o):b ∉ X.fs:=fun hb=>by
 have:=(ok.fF.mem hb).1
 rw [e] at this;cases this
theorem Inv.bs (I:Inv X pins σ H s):∀ b o,X.base.get? b=some o->s.heap.get? b=some o/\H b=none:=fun b o e =>
 ⟨I.base.keep b o (I.ok.bs b o e).1 (I.ok.bs b o e).2 (I.ok.OA e) (I.ok.j9 b o e),I.base.free b o (I.ok.bs b o e).1 (I.ok.bs b o e).2 (I.ok.j9 b o e)⟩
theorem Inv.bk (I:Inv X pins σ H s):∀ b o,X.base.get? b=some o->s.heap.get? b=some o:=fun b o e=>(I.bs b o e).1
theorem Inv.mod (I:Inv X pins σ H s):Mod X.K X.mg X.base:=I.ok.mod
theorem Inv.iz (I:Inv X pins σ H s):X.K.In s.heap:=I.ok.mod.AJ.keeps I.bk
theorem Inv.nolimit (I:Inv X pins σ H s):s.heap.NoLimit:=I.ok.mod.nolimit.keeps I.bk
theorem Inv.fr (I:Inv X pins σ H s):∃ m,Fr X.base X.env.locals s.heap m :=
 let ⟨m,hn,_⟩:=I.loc
 ⟨m,hn,I.bk,ZtL I.ok.mE I.ok.above⟩
theorem Inv.lt (I:Inv X pins σ H s):X.env.locals<s.heap.objs.size:=let ⟨_,hn,_⟩:=I.loc;hn.lt
theorem Inv.sz (I:Inv X pins σ H s):X.s₀.heap.objs.size<=s.heap.objs.size:=ZtL I.ok.above (ZtR I.lt)
theorem Inv.Ov (I:Inv X pins σ H s) {a:Addr} (h:s.heap.objs.size<=a):a ∉ X.fs:=fun hb=>by
 obtain ⟨_,o,ho,_⟩:=I.ok.fF.mem hb
 exact absurd (ZtM (Heap.lt_size ho) (ZtL I.sz h)) (ZtU _)
theorem Inv.wY (I:Inv X pins σ H s):∀ x c,X.env.cells.lookup x=some c->c≠X.env.locals:=fun x c e z=>by
 obtain ⟨v,o,ho,hd⟩:=I.cell x c e
 obtain ⟨m,⟨o',es,ep,lr,hd',_⟩,_⟩:=I.loc
 rw [z,lr] at ho;cases ho;rw [hd'] at hd;cases hd
theorem Inv.fF (I:Inv X pins σ H s):s.heap.FunFrames X.base X.outer:=by
 have all:∀ (l:List Env),(∀ b∈jN l,b∈X.fs)->X.s₀.heap.FunFrames X.base l->s.heap.FunFrames X.base l:=by
  intro l
  induction l with
  | nil=>intro _ _;trivial
  | cons env r ih =>
   intro hs hl
   obtain ⟨hk,⟨L,o,hf,hn,ho,hd⟩,hr⟩:=hl
   have hL:L∈X.fs:=hs L (by unfold jN;rw [Zte,hf];exact ZsJ)
   obtain ⟨sl,e⟩:=I.base.slot L o ho (I.ok.pF L hL) hL fun z=>I.ok.kI L z hL
   exact ⟨hk,⟨L,_,hf,hn,e,hd⟩,ih (fun b hb=>hs b (by unfold jN;rw [Zte,hf];exact ZsD _ hb)) hr⟩
 exact all X.outer (fun _ hb=>hb) I.ok.fF
theorem Inv.stack (I:Inv X pins σ H s):s.heap.FunFrames X.base X.stack:=by
 rcases I.ok.ve with e | ⟨e,hf⟩
 ·rw [e];exact I.fF
 ·rw [e]
  obtain ⟨m,hn,_⟩:=I.loc
  refine .cons (by rw [I.ok.kind];decide) hf hn ?_ I.fF
  exact Heap.get?_none_of_le (ZtL I.ok.mE I.ok.above)
theorem Inv.lZ (I:Inv X pins σ H s):∀ b∈jN X.stack,b∈X.env.locals :: X.fs:=fun b hb=>by
 rcases I.ok.ve with e | ⟨e,hf⟩
 ·rw [e] at hb;exact ZsD _ hb
 ·rw [e] at hb
  unfold jN at hb
  rw [Zte,hf] at hb
  exact hb
theorem Inv.iD (I:Inv X pins σ H s):∀ b∈jN X.stack,H b=none:=fun b hb=>by
 rcases Zst.mp (I.lZ b hb) with e | hb
 ·rw [e];exact I.free
 ·obtain ⟨_,o,ho,_⟩:=I.ok.fF.mem hb
  exact I.base.free b o ho (I.ok.pF b hb) fun z=>I.ok.kI b z hb
theorem Inv.step {g':Array GenState}{t':Nat}{d':Drawn}{ch:List Addr} (I:Inv X pins σ H s)
  (lD:∀ b∈ch,(b∈X.ex\/X.s₀.heap.objs.size<=b)/\b≠X.env.locals/\(∀ x c,X.env.cells.lookup x=some c->c≠b)/\∀ p∈X.pn ++ pins,p.1≠b)
  (keep:∀ b o,b≠X.env.locals->b ∉ X.fs->b ∉ ch->s.heap.get? b=some o->H b=none->h'.get? b=some o)
  (slot:∀ b o,b≠X.env.locals->b∈X.fs->b ∉ ch->s.heap.get? b=some o->H b=none->∃ sl,h'.get? b=some { o with slots:=sl }) (free:∀ b o,b ∉ ch->s.heap.get? b=some o->H b=none->H' b=none)
  (there:∀ b o,b ∉ ch->s.heap.get? b=some o->∃ o',h'.get? b=some o')
  (hZ:∀ b xs,H b=some (.tup xs)->H' b=some (.tup xs)) (gE:∀ b o u,H b=some (.frz o u)->H' b=some (.frz o u)) (gX:∀ b ps,H b=some (.tbl ps)->∃ more,H' b=some (.tbl (ps ++ more)))
  (ns:∀ m,s.heap.Ns X.env.locals m->h'.Ns X.env.locals m) (aB:fJ X.prog X.w H' h') (hg:AllBare g') :
  Inv X pins σ H' { s with heap:=h',gens:=g',drawn:=d',toks:=t' }:=by
 have Qj:∀ b o,X.s₀.heap.get? b=some o->b≠X.env.locals:=fun b o e=>ZtK (ZtM (Heap.lt_size e) I.ok.above)
 have IG:∀ b o,X.s₀.heap.get? b=some o->b ∉ X.ex->b ∉ ch:=fun b o e hx hb=>by
  rcases (lD b hb).1 with z | z
  ·exact hx z
  ·exact absurd (ZtM (Heap.lt_size e) z) (ZtU _)
 have cellK:∀ x c,X.env.cells.lookup x=some c->∀ v,s.heap.IsCell c v->h'.IsCell c v:=fun x c e v ⟨o,ho,hd⟩=>by
  have sH:c ∉ ch:=fun z=>(lD c z).2.2.1 x c e rfl
  by_cases hc:c∈X.fs
  ·obtain ⟨sl,q⟩:=slot c o (I.wY x c e) hc sH ho (I.dr x c e)
   exact ⟨_,q,hd⟩
  ·exact ⟨o,keep c o (I.wY x c e) hc sH ho (I.dr x c e),hd⟩
 refine ⟨I.ok,I.os,hg,⟨fun b o e n hb hx=>?_,fun b o e n hb hx=>?_,fun b o e n hx=>?_,fun b o e hx=>?_,fun b xs e=>hZ b xs (I.base.hZ b xs e),fun b o xs e=>gE b o xs (I.base.gE b o xs e),fun b ps e=>?_⟩,?_,fun x c e=>?_,?_,fun x c e=>?_,fun p hp=>?_,aB,I.len⟩
 ·exact keep b o (Qj b o e) hb (IG b o e hx) (I.base.keep b o e n hb hx) (I.base.free b o e n hx)
 ·obtain ⟨sl,e1⟩:=I.base.slot b o e n hb hx
  obtain ⟨sl',e2⟩:=slot b _ (Qj b o e) hb (IG b o e hx) e1 (I.base.free b o e n hx)
  exact ⟨sl',e2⟩
 ·obtain ⟨o',e1⟩:=I.base.there b o e hx
  exact free b o' (IG b o e hx) e1 (I.base.free b o e n hx)
 ·obtain ⟨o',e1⟩:=I.base.there b o e hx
  exact there b o' (IG b o e hx) e1
 ·obtain ⟨m1,e1⟩:=I.base.gX b ps e
  obtain ⟨m2,e2⟩:=gX b _ e1
  exact ⟨m1 ++ m2,by rw [e2,Array.append_assoc]⟩
 ·obtain ⟨m,hn,hl⟩:=I.loc
  refine ⟨m,ns m hn,fun i x v e1 e2 e3=>?_⟩
  obtain ⟨u,r,l⟩:=hl i x v e1 e2 e3
  refine ⟨u,r,?_⟩
  rcases l with l | ⟨k,c,e,z⟩
  ·exact .inl l
  ·exact .inr ⟨k,c,e,cellK x c e _ z⟩
 ·obtain ⟨v,z⟩:=I.cell x c e
  exact ⟨v,cellK x c e v z⟩
 ·obtain ⟨m,⟨o,_,_,ho,_⟩,_⟩:=I.loc
  exact free _ o (fun z=>(lD _ z).2.1 rfl) ho I.free
 ·obtain ⟨v,o,ho,hd⟩:=I.cell x c e
  exact free c o (fun z=>(lD c z).2.2.1 x c e rfl) ho (I.dr x c e)
 ·obtain ⟨e,n,ne,nf,d⟩:=I.pin p hp
  have sH:p.1 ∉ ch:=fun z=>(lD p.1 z).2.2.2 p hp rfl
  exact ⟨keep p.1 p.2 ne nf sH e n,free p.1 p.2 sH e n,ne,nf,d⟩
theorem Inv.un {t':Nat} (I:Inv X pins σ H s) (u:Un X.fs [] H H' s.heap h') (aB:fJ X.prog X.w H' h'):Inv X pins σ H' { s with heap:=h',toks:=t' }:=by
 obtain ⟨m,⟨o,es,ep,ho,r⟩,_⟩:=id I.loc
 obtain ⟨sl,hL⟩:=u.any ho I.free (by simp)
 exact I.step (g':=s.gens) (d':=s.drawn) (ch:=[]) (fun _ z=>nomatch z) (fun b o _ hb _ e n=>u.keep b o e n hb (by simp)) (fun b o _ hb _ e n=>u.slot b o e n hb (by simp)) (fun b o _ e n=>u.free b o e n (by simp)) (fun b o _ e=>u.there b o e (by simp)) u.hZ u.gE u.gX (fun m' hm=>by
  obtain ⟨o',es',ep',lr,r'⟩:=hm
  rw [ho] at lr;cases lr
  exact ⟨_,es',ep',hL,r'⟩) aB I.bare
theorem Inv.call {g':Array GenState}{t':Nat}{d':Drawn}{ch:List Addr} (I:Inv X pins σ H s) (u:Un (jN X.stack) ch H H' s.heap h') (aB:fJ X.prog X.w H' h') (hg:AllBare g')
  (lD:∀ b∈ch,(b∈X.ex\/X.s₀.heap.objs.size<=b)/\b≠X.env.locals/\(∀ x c,X.env.cells.lookup x=some c->c≠b)/\∀ p∈X.pn ++ pins,p.1≠b) :
  Inv X pins σ H' { s with heap:=h',gens:=g',drawn:=d',toks:=t' }:=by
 obtain ⟨m,⟨o,es,ep,ho,r⟩,_⟩:=id I.loc
 obtain ⟨sl,hL⟩:=u.any ho I.free fun z=>(lD _ z).2.1 rfl
 exact I.step (ch:=ch) lD (fun b o hL hb hc e n=>u.keep b o e n (fun z=>(Zst.mp (I.lZ b z)).elim hL hb) hc) (fun b o _ _ hc e n=>u.any e n hc) (fun b o hc e n=>u.free b o e n hc) (fun b o hc e=>u.there b o e hc) u.hZ u.gE u.gX (fun m' hm=>by
  obtain ⟨o',es',ep',lr,r'⟩:=hm
  rw [ho] at lr;cases lr
  exact ⟨_,es',ep',hL,r'⟩) aB hg
theorem Inv.turned {t':Nat}{it:Addr} (I:Inv X pins σ H s) (k:∀ b o,b≠it->s.heap.get? b=some o->h'.get? b=some o) (hn:H it=none) (hL:it≠X.env.locals)
  (h1:it∈X.ex\/X.s₀.heap.objs.size<=it) (h2:∀ x c,X.env.cells.lookup x=some c->c≠it) (h3:∀ p∈X.pn ++ pins,p.1≠it):Inv X pins σ H { s with heap:=h',toks:=t' }:=by
 have sR:∀ b u,H b=some u->b≠it:=fun b u e z=>by rw [z,hn] at e;cases e
 refine I.step (g':=s.gens) (d':=s.drawn) (ch:=[it]) (fun b hb=>?_) (fun b o _ _ hc e _=>k b o (fun z=>hc (by simp [z])) e) (fun b o _ _ hc e _=>⟨o.slots,k b o (fun z=>hc (by simp [z])) e⟩) (fun _ _ _ _ n=>n)
  (fun b o hc e=>⟨o,k b o (fun z=>hc (by simp [z])) e⟩) (fun _ _ e=>e) (fun _ _ _ e=>e) (fun b ps e=>⟨#[],by rw [e];simp⟩) (fun m hm=>?_) (fun b u e=>?_) I.bare
 ·have e:b=it:=by simpa using hb
  subst e
  exact ⟨h1,hL,h2,h3⟩
 ·obtain ⟨o,es,ep,ho,r⟩:=hm
  exact ⟨o,es,ep,k _ o (Ne.symm hL) ho,r⟩
 ·refine (I.aB b u e).i5 (fun c v hc q=>k c v ?_ q) (fun _ q=>q) fun _ _ q=>q
  rcases hc with z | z
  ·rw [z];exact sR b u e
  ·exact sR c _ z
theorem Inv.tok (I:Inv X pins σ H s) (t:Nat):Inv X pins σ H { s with toks:=t }:=I.un (h':=s.heap) (t':=t) Un.refl I.aB
theorem Inv.kept {t':Nat} (I:Inv X pins σ H s) (k:∀ b u,s.heap.get? b=some u->h'.get? b=some u):Inv X pins σ H { s with heap:=h',toks:=t' }:=I.un (Un.kept k) (I.aB.kept k)
theorem Inv.laid {a:Addr}{o:HO}{t':Nat} (I:Inv X pins σ H s) (k:∀ b u,s.heap.get? b=some u->h'.get? b=some u) (hp:s.heap.objs.size<=a) (new:eR X.prog X.w (upd H a o) h' a o) :
  Inv X pins σ (upd H a o) { s with heap:=h',toks:=t' }:=I.un (Un.laid k hp (I.aB.fresh hp)) (I.aB.laid k hp new)
theorem Inv.write {x e:Addr}{o:HO}{t':Nat} (I:Inv X pins σ H s) (mu:Hb (H x)) (he:e=x\/H e=some (.own x)) (k:∀ b u,b≠e->s.heap.get? b=some u->h'.get? b=some u) (Aw:∃ u,h'.get? e=some u)
  (new:eR X.prog X.w (upd H x o) h' x o):Inv X pins σ (upd H x o) { s with heap:=h',toks:=t' }:=I.un (Un.write mu he k Aw) (I.aB.write mu he k Aw new)
theorem Inv.mW {sJ:List (Addr × Obj)} (I:Inv X pins σ H s) (h:∀ p∈sJ,s.heap.get? p.1=some p.2/\H p.1=none/\p.1≠X.env.locals/\p.1 ∉ X.fs/\∀ v,p.2.data≠.cell v):Inv X sJ σ H s :=
 ⟨I.ok,I.os,I.bare,I.base,I.loc,I.cell,I.free,I.dr,fun p hp=>(Zsq.mp hp).elim (fun z=>I.pin p (ZsG _ z)) (h p),I.aB,I.len⟩
theorem T7 {N:List Str} (hN:N.Nodup) {i j:Nat}{x:Str} (a:N[i]? = some x) (b:N[j]? = some x):i=j:=by
 obtain ⟨h1,e1⟩:=Zsk.mp a
 obtain ⟨h2,e2⟩:=Zsk.mp b
 exact (List.getElem_inj hN).mp (e1.trans e2.symm)
theorem Ua {M:Model}{A:Around}{E:Value->Shared->Prop}{i:Nat}{x:Str}{v:V}{u:Value}{Q:Unit->Shared->Prop} (I:Inv X pins σ H s) (hN:X.N.Nodup) (hi:X.N[i]? = some x) (hx:Loc X.env.scope x) (r:bf v u)
  (h:∀ s',Inv X pins (σ.set i (some v)) H s'->(∃ a,Heap.SameBut a s.heap s'.heap/\(a=X.env.locals\/X.env.cells.lookup x=some a))->Q () s') (hf:X.fn x=true\/X.env.scope.names.lookup x=some .local:=by first | exact .inl rfl | exact .inr rfl | assumption):wpAny M A (storeName X.env x u) Q E s:=by
 obtain ⟨m,hn,hl⟩:=id I.loc
 have Kl:(X.env.scope.kind == .class || (X.env.scope.kind == .module && X.env.locals != X.env.globals))=false:=by rw [I.ok.kind];rfl
 have Uh:i<σ.length:=by rw [I.len];exact (Zsk.mp hi).1
 have wY:=I.wY
 have tracked:∀ {a:Addr}{h':Heap},(∃ o,s.heap.get? a=some o/\H a=none)->Heap.SameBut a s.heap h'->fJ X.prog X.w H h':=fun {a h'} ha hs b ob e=>by
  obtain ⟨_,_,jJ⟩:=ha
  refine (I.aB b ob e).i5 (fun c w' hc q=>(hs.2 c ?_).trans q) (fun _ q=>q) fun _ _ q=>q
  rintro rfl
  rcases hc with rfl | hc
  ·rw [jJ] at e;cases e
  ·rw [jJ] at hc;cases hc
 rcases hx with hk | hk
 ·refine wpAny_storeName_local hk hn (fun h' hn' hs=>?_) Kl
  obtain ⟨oL,_,_,AL,_⟩:=id hn
  refine h _ ⟨I.ok,I.os,I.bare,⟨fun b o e n hb hx=>?_,fun b o e n hb hx=>?_,I.base.free,fun b o e hx=>?_,I.base.hZ,I.base.gE,I.base.gX⟩,⟨_,hn',fun j y v' e1 e2 e3=>?_⟩,fun y c e=>?_,I.free,I.dr,fun p hp=>?_,tracked ⟨oL,AL,I.free⟩ hs,by simpa using I.len⟩ ⟨_,hs,.inl rfl⟩
  ·exact (hs.2 b (ZtK (ZtM (Heap.lt_size e) I.ok.above))).trans (I.base.keep b o e n hb hx)
  ·obtain ⟨sl,e1⟩:=I.base.slot b o e n hb hx
   exact ⟨sl,(hs.2 b (ZtK (ZtM (Heap.lt_size e) I.ok.above))).trans e1⟩
  ·obtain ⟨o',e1⟩:=I.base.there b o e hx
   exact ⟨o',(hs.2 b (ZtK (ZtM (Heap.lt_size e) I.ok.above))).trans e1⟩
  ·by_cases hj:j=i
   ·subst hj
    rw [hi] at e1;cases e1
    rw [ZtB Uh] at e2
    cases e2
    exact ⟨u,r,.inl ⟨hk,by simp⟩⟩
   ·rw [List.getElem?_set_ne (Ne.symm hj)] at e2
    obtain ⟨u',r',q⟩:=hl j y v' e1 e2 e3
    refine ⟨u',r',?_⟩
    rcases q with ⟨k,e⟩ | ⟨k,c,e,z⟩
    ·refine .inl ⟨k,?_⟩
     have:y≠x:=fun e=>hj (T7 hN e1 (e ▸ hi))
     simp [this,e]
    ·exact .inr ⟨k,c,e,z.sameBut hs (wY y c e)⟩
  ·obtain ⟨w',z⟩:=I.cell y c e
   exact ⟨w',z.sameBut hs (wY y c e)⟩
  ·obtain ⟨e,n,ne,nf,d⟩:=I.pin p hp
   exact ⟨(hs.2 p.1 ne).trans e,n,ne,nf,d⟩
 ·have NB:X.fn x=true:=by
   rcases hf with z | z
   ·exact z
   ·rw [z] at hk;cases hk
  obtain ⟨c,hc⟩:=I.ok.has x (.inl hk)
  obtain ⟨w',z⟩:=I.cell x c hc
  refine wpAny_storeName_cell I.ok.kind hk hc z (fun h' hc' hs=>?_)
  obtain ⟨oc,hoc,hocd⟩:=id z
  refine h { s with heap:=h' } ⟨I.ok,I.os,I.bare,⟨fun b o e n hb hx=>?_,fun b o e n hb hx=>?_,I.base.free,fun b o e hx=>?_,I.base.hZ,I.base.gE,I.base.gX⟩,⟨m,hn.sameBut hs (Ne.symm (wY x c hc)),fun j y v' e1 e2 e3=>?_⟩,fun y c' e=>?_,I.free,I.dr,fun p hp=>?_,tracked ⟨oc,hoc,I.dr x c hc⟩ hs,by simpa using I.len⟩ ⟨c,hs,.inr hc⟩
  ·exact (hs.2 b (ZtK (ZtM (Heap.lt_size e) (I.ok.tJ x c NB hc)))).trans (I.base.keep b o e n hb hx)
  ·obtain ⟨sl,e1⟩:=I.base.slot b o e n hb hx
   exact ⟨sl,(hs.2 b (ZtK (ZtM (Heap.lt_size e) (I.ok.tJ x c NB hc)))).trans e1⟩
  ·obtain ⟨o',e1⟩:=I.base.there b o e hx
   exact ⟨o',(hs.2 b (ZtK (ZtM (Heap.lt_size e) (I.ok.tJ x c NB hc)))).trans e1⟩
  ·by_cases hj:j=i
   ·subst hj
    rw [hi] at e1;cases e1
    rw [ZtB Uh] at e2
    cases e2
    exact ⟨u,r,.inr ⟨.inl hk,c,hc,hc'⟩⟩
   ·rw [List.getElem?_set_ne (Ne.symm hj)] at e2
    obtain ⟨u',r',q⟩:=hl j y v' e1 e2 e3
    refine ⟨u',r',?_⟩
    rcases q with q | ⟨k,c',e,z'⟩
    ·exact .inl q
    ·refine .inr ⟨k,c',e,z'.sameBut hs ?_⟩
     rintro rfl
     exact hj (T7 hN e1 (I.ok.inj _ _ _ e hc ▸ hi))
  ·by_cases hcc:c'=c
   ·subst hcc;exact ⟨_,hc'⟩
   ·obtain ⟨w2,z2⟩:=I.cell y c' e
    exact ⟨w2,z2.sameBut hs hcc⟩
  ·obtain ⟨e,n,ne,nf,d⟩:=I.pin p hp
   refine ⟨(hs.2 p.1 ?_).trans e,n,ne,nf,d⟩
   intro q
   rw [q,hoc] at e
   have q':oc=p.2:=Option.some.inj e
   exact d w' (by rw [<- q'];exact hocd)
theorem SX {M:Model}{A:Around}{E:Value->Shared->Prop}{i:Nat}{x:Str}{v:V}{u:Value}{Q:Unit->Shared->Prop} (I:Inv X pins σ H s) (hN:X.N.Nodup) (hi:X.N[i]? = some x) (hx:Loc X.env.scope x) (r:bf v u)
  (h:∀ s',Inv X pins (σ.set i (some v)) H s'->Q () s') (hf:X.fn x=true\/X.env.scope.names.lookup x=some .local:=by first | exact .inl rfl | exact .inr rfl | assumption):wpAny M A (storeName X.env x u) Q E s :=
 Ua I hN hi hx r (fun s' I' _=>h s' I') hf
theorem Inv.DW {s':Shared}{ch:List Addr} (I:Inv X pins σ H s) (ho:s'.os=s.os) (u:Un (jN X.stack) ch H H' s.heap s'.heap) (aB:fJ X.prog X.w H' s'.heap) (hg:AllBare s'.gens)
  (lD:∀ b∈ch,(b∈X.ex\/X.s₀.heap.objs.size<=b)/\b≠X.env.locals/\(∀ x c,X.env.cells.lookup x=some c->c≠b)/\∀ p∈X.pn ++ pins,p.1≠b):Inv X pins σ H' s':=by
 obtain ⟨h',g',d',t',o'⟩:=s'
 have e:o'=s.os:=ho
 subst e
 exact I.call (g':=g') (t':=t') (d':=d') u aB hg lD
end
noncomputable abbrev XK:=Value->Option Addr->Hp->Prop
noncomputable abbrev St:=List (Option V)
noncomputable abbrev VK:=V->Hp->Prop
noncomputable abbrev TE:=St->Hp->VK->Prop
noncomputable abbrev TT:=St->Hp->(Bool->Hp->Prop)->Prop
noncomputable abbrev TA:=St->Hp->(List V->Hp->Prop)->Prop
structure Ends where
 nx:St->Hp->Prop
 rt:VK
 bk:St->Hp->Prop:=fun _ _=>False
 ct:St->Hp->Prop:=fun _ _=>False
noncomputable abbrev TS:=Ends->St->Hp->Prop
noncomputable def EP (X:Cx) (pins:List (Addr × Obj)) (σ:St) (Q:VK) (u:Value) (s':Shared):Prop:=∃ v H',Inv X pins σ H' s'/\bf v u/\Q v H'
noncomputable def TP (X:Cx) (pins:List (Addr × Obj)) (σ:St) (Q:Bool->Hp->Prop) (b:Bool) (s':Shared):Prop:=∃ H',Inv X pins σ H' s'/\Q b H'
noncomputable def AP (X:Cx) (pins:List (Addr × Obj)) (σ:St) (Q:List V->Hp->Prop) (us:List Value) (s':Shared):Prop:=∃ vs H',Inv X pins σ H' s'/\Vals vs us/\Q vs H'
noncomputable def SP (X:Cx) (pins:List (Addr × Obj)) (D:Ends) (f:Flow) (s':Shared):Prop :=
 match f with
 | .next=>∃ σ' H',Inv X pins σ' H' s'/\D.nx σ' H'
 | .brk=>∃ σ' H',Inv X pins σ' H' s'/\D.bk σ' H'
 | .cont=>∃ σ' H',Inv X pins σ' H' s'/\D.ct σ' H'
 | .ret u=>∃ v σ' H',Inv X pins σ' H' s'/\bf v u/\D.rt v H'
noncomputable def PE (X:Cx) (e:Expr) (t:TE):Prop :=
 ∀ (pins:List (Addr × Obj)) (s:Shared) (σ:St) (H:Hp) (Q:VK),Inv X pins σ H s->t σ H Q->wpAny (model X.prog X.w) X.A (eval e X.env) (EP X pins σ Q) X.xe s
noncomputable def PT (X:Cx) (e:Expr) (t:TT):Prop :=
 ∀ (pins:List (Addr × Obj)) (s:Shared) (σ:St) (H:Hp) (Q:Bool->Hp->Prop),Inv X pins σ H s->t σ H Q->wpAny (model X.prog X.w) X.A (isTrue e X.env (eval e X.env)) (TP X pins σ Q) X.xe s
noncomputable def PW (X:Cx) (e:Expr) (t:TT):Prop :=
 ∀ (whole:Sem Value) (pins:List (Addr × Obj)) (s:Shared) (σ:St) (H:Hp) (Q:Bool->Hp->Prop),Inv X pins σ H s->t σ H Q->wpAny (model X.prog X.w) X.A (isTrue e X.env whole) (TP X pins σ Q) X.xe s
theorem PW.pt {X:Cx}{e:Expr}{t:TT} (h:PW X e t):PT X e t:=h _
noncomputable def PA (X:Cx) (es:List Expr) (t:TA):Prop :=
 ∀ (pos:Pos) (pins:List (Addr × Obj)) (s:Shared) (σ:St) (H:Hp) (Q:List V->Hp->Prop),Inv X pins σ H s->t σ H Q->wpAny (model X.prog X.w) X.A (spliced (backTo pos (starEach es X.env))) (AP X pins σ Q) X.xe s
noncomputable def PS (X:Cx) (st:Stmt) (t:TS):Prop :=
 ∀ (pins:List (Addr × Obj)) (s:Shared) (σ:St) (H:Hp) (D:Ends),Inv X pins σ H s->t D σ H->wpAny (model X.prog X.w) X.A (exec st X.env) (SP X pins D) X.xe s
noncomputable def j7 (X:Cx) (st:List Stmt) (t:TS):Prop :=
 ∀ (pins:List (Addr × Obj)) (s:Shared) (σ:St) (H:Hp) (D:Ends),Inv X pins σ H s->t D σ H->wpAny (model X.prog X.w) X.A (execs st X.env) (SP X pins D) X.xe s
theorem aV {α:Type}{t:Sem α}{Q Q':α->Shared->Prop}{M:Model}{A:Around}{E:Value->Shared->Prop}{s:Shared} (h:wpAny M A t Q E s) (hQ:∀ a s,Q a s->Q' a s):wpAny M A t Q' E s:=wpAny_mono h hQ fun _ _ x=>x
section
variable {X:Cx}
noncomputable def BD (i:Nat):TE:=fun σ H Q=>∃ v,σ[i]? = some (some v)/\Q v H
noncomputable def tC (v:V):TE:=fun _ H Q=>Q v H
theorem yQ {i:Nat}{x:Str}{pos:Pos} (hN:X.N[i]? = some x) (hv:OO X.env.scope x) (hd:(x == ("__debug__" : Str))=false:=by decide) (mD:(x == ("__classdict__" : Str))=false:=by decide):PE X (.Name x pos) (BD i):=by
 intro pins s σ H Q I h
 obtain ⟨v,e,h⟩:=h
 obtain ⟨m,hn,hl⟩:=I.loc
 obtain ⟨u,r,l⟩:=hl i x v hN e hv
 have fin:EP X pins σ Q u s:=⟨v,H,I,r,h⟩
 rcases l with ⟨hk,hm⟩ | ⟨hk,c,hc,hcell⟩
 ·exact wpAny_Name (wpAny_loadName_local I.ok.kind hk hn hm fin) hd
 ·rcases hk with hk | hk
  ·exact wpAny_Name (wpAny_loadName_cell I.ok.kind hk hc hcell fin) hd
  ·exact wpAny_Name (wpAny_loadName_free I.ok.kind hk hc hcell fin mD) hd
theorem aH {i j pos}:PE X (.Constant (.int i) j pos) (tC (.int i)):=fun _ _ _ H _ I h=>wpAny_Constant_int ⟨.int i,H,I.tok _,⟨_,rfl⟩,h⟩
theorem jM {b j pos}:PE X (.Constant (.bool b) j pos) (tC (.bl b)):=fun _ _ _ H _ I h=>Constant_bool ⟨.bl b,H,I,rfl,h⟩
theorem ml {j pos}:PE X (.Constant .none j pos) (tC .non):=fun _ _ _ H _ I h=>Constant_none ⟨.non,H,I,rfl,h⟩
theorem qO {x j pos}:PE X (.Constant (.str x) j pos) (tC (.str x)):=fun _ _ _ H _ I h=>Calls.Constant_str ⟨.str x,H,I.tok _,⟨_,rfl⟩,h⟩
noncomputable def Gl (X:Cx) (x:Str):Prop:=X.env.kindOf x=some .globalImplicit
theorem Hn {E:Value->Shared->Prop}{pins:List (Addr × Obj)}{s:Shared}{σ:St}{H:Hp}{x:Str}{u:Value}{pos:Pos}{Q:Value->Shared->Prop} (I:Inv X pins σ H s) (hg:Gl X x) (hm:X.mg x=some u) (h:Q u s)
  (hd:(x == ("__debug__" : Str))=false:=by decide):wpAny (model X.prog X.w) X.A (eval (.Name x pos) X.env) Q E s :=
 Calls.Name_function_global I.ok.kind hg (Calls.loadGlobal_global (by rw [I.ok.glob];exact I.mod.glob.keeps I.bk) hm h) hd
theorem qJ {E:Value->Shared->Prop}{pins:List (Addr × Obj)}{s:Shared}{σ:St}{H:Hp}{x:Str}{u:Value}{pos:Pos}{Q:Value->Shared->Prop} (I:Inv X pins σ H s) (hg:Gl X x) (hm:X.mg x=none) (hv:bootBuiltins x=some u) (h:Q u s)
  (hn:x ≠ "__name__":=by decide) (hd:(x == ("__debug__" : Str))=false:=by decide):wpAny (model X.prog X.w) X.A (eval (.Name x pos) X.env) Q E s:=by
 obtain ⟨mb,h1,h2⟩:=I.mod.blt
 exact Calls.Name_function_global I.ok.kind hg (Calls.loadGlobal_builtin (by rw [I.ok.glob];exact I.mod.glob.keeps I.bk) hm (by rw [I.ok.blt];exact h1.keeps I.bk) ((h2 x hn).trans hv) h) hd
theorem XR {x:Str}{v:V}{u:Value}{pos:Pos} (hg:Gl X x) (hm:X.mg x=some u) (r:bf v u) (hd:(x == ("__debug__" : Str))=false:=by decide):PE X (.Name x pos) (tC v) :=
 fun _ _ _ H _ I h=>Hn I hg hm ⟨v,H,I,r,h⟩ hd
theorem DQ {x:Str}{v:V}{u:Value}{pos:Pos} (hg:Gl X x) (hm:X.mg x=none) (hv:bootBuiltins x=some u) (r:bf v u) (hn:x ≠ "__name__":=by decide) (hd:(x == ("__debug__" : Str))=false:=by decide):PE X (.Name x pos) (tC v) :=
 fun _ _ _ H _ I h=>qJ I hg hm hv ⟨v,H,I,r,h⟩ hn hd
variable {a b:Expr}{ta tb:TE}{pos:Pos}
noncomputable def PC (X:Cx) (op:CmpOp) (a b:Expr) (t:TE):Prop :=
 ∀ (pins:List (Addr × Obj)) (s:Shared) (σ:St) (H:Hp) (Q:VK),Inv X pins σ H s->t σ H Q ->
  wpAny (model X.prog X.w) X.A (eval a X.env) (fun v s₁=>wpAny (model X.prog X.w) X.A (eval b X.env) (fun u s₂=>wpAny (model X.prog X.w) X.A (compareOp op v u) (EP X pins σ Q) X.xe s₂) X.xe s₁) X.xe s
theorem Jp (b:Expr) {op:CmpOp} (h:op≠.In) (h2:op≠.NotIn):behindInMarks op b=false:=by
 have e1:(op == CmpOp.In)=false:=by cases op <;> first | rfl | exact absurd rfl h
 have e2:(op == CmpOp.NotIn)=false:=by cases op <;> first | rfl | exact absurd rfl h2
 cases b <;> simp [behindInMarks,e1,e2]
noncomputable def tB (t:TE):TT:=fun σ H Q=>t σ H fun x H1=>∃ c,x=.bl c/\Q c H1
theorem K5 {op:CmpOp}{t:TE} (h:PC X op a b t) (h1:behindInMarks op b=false:=by first | exact Jp _ (by decide) (by decide) | rfl):PE X (.Compare a [op] [b] pos) t:=fun pins s σ H Q I hw=>wpAny_Compare1 (h pins s σ H Q I hw) h1
theorem uV {op:CmpOp}{t:TE} (h:PC X op a b t) (h1:behindInMarks op b=false:=by first | exact Jp _ (by decide) (by decide) | rfl):PT X (.Compare a [op] [b] pos) (tB t):=by
 intro pins s σ H Q I hw
 refine wpAny_isTrue_Compare1 (aV (h pins s σ H _ I hw) fun v s1 h1=>aV h1 fun u s2 h2=>aV h2 fun c s3 ⟨x,H1,I1,r1,q1⟩=>?_) h1
 obtain ⟨d,rfl,q⟩:=q1
 cases r1
 exact wpAny_truthy_bool ⟨H1,I1,q⟩
variable {tA Hy:TT}{rest:List Expr}
noncomputable def nE (t u:TT):TT:=fun σ H Q=>t σ H fun c H1=>if c=true then u σ H1 Q else Q false H1
noncomputable def ki (t u:TT):TT:=fun σ H Q=>t σ H fun c H1=>if c=true then Q true H1 else u σ H1 Q
noncomputable def lA (t:TT):TT:=fun σ H Q=>t σ H fun c H1=>Q (!c) H1
theorem HN (ha:PT X a tA):PW X (.BoolOp .And [a] pos) tA:=by
 intro wh pins s σ H Q I h
 refine isTrue_and (aV (ha pins s σ H Q I h) fun c s1 e=>?_)
 cases c with
 | true=>exact isTrue_and_nil e
 | false=>exact e
theorem nj (ha:PT X a tA):PW X (.BoolOp .Or [a] pos) tA:=by
 intro wh pins s σ H Q I h
 refine isTrue_or (aV (ha pins s σ H Q I h) fun c s1 e=>?_)
 cases c with
 | false=>exact isTrue_or_nil e
 | true=>exact e
theorem IP (ha:PT X a tA) (hb:PW X (.BoolOp .And (b :: rest) pos) Hy):PW X (.BoolOp .And (a :: b :: rest) pos) (nE tA Hy):=by
 intro wh pins s σ H Q I h
 refine isTrue_and (aV (ha pins s σ H _ I h) fun c s1 ⟨H1,I1,q1⟩=>?_)
 cases c with
 | true=>exact hb wh pins s1 σ H1 Q I1 q1
 | false=>exact ⟨H1,I1,q1⟩
theorem kX (ha:PT X a tA) (hb:PW X (.BoolOp .Or (b :: rest) pos) Hy):PW X (.BoolOp .Or (a :: b :: rest) pos) (ki tA Hy):=by
 intro wh pins s σ H Q I h
 refine isTrue_or (aV (ha pins s σ H _ I h) fun c s1 ⟨H1,I1,q1⟩=>?_)
 cases c with
 | true=>exact ⟨H1,I1,q1⟩
 | false=>exact hb wh pins s1 σ H1 Q I1 q1
theorem mC (ha:PT X a tA):PT X (.UnaryOp .Not a pos) (lA tA):=by
 intro pins s σ H Q I h
 exact isTrue_not (ha pins s σ H (fun c H1=>Q (!c) H1) I h)
noncomputable def Na (ta tb:TE):TE:=fun σ H Q=>ta σ H fun x H1=>∃ c,x=.bl c/\if c=true then tb σ H1 Q else Q (.bl false) H1
noncomputable def uK (ta tb:TE):TE:=fun σ H Q=>ta σ H fun x H1=>∃ c,x=.bl c/\if c=true then Q (.bl true) H1 else tb σ H1 Q
noncomputable def LX (ta:TE):TE:=fun σ H Q=>ta σ H fun x H1=>∃ c,x=.bl c/\Q (.bl (!c)) H1
theorem Iw {op}{t:TE} (h:PE X a t):PE X (.BoolOp op [a] pos) t:=fun pins s σ H Q I hw=>BoolOp_one (h pins s σ H Q I hw)
theorem xW (ha:PE X a ta) (hb:PE X (.BoolOp .And (b :: rest) pos) tb):PE X (.BoolOp .And (a :: b :: rest) pos) (Na ta tb):=by
 intro pins s σ H Q I h
 refine BoolOp_and (aV (ha pins s σ H _ I h) fun v s1 ⟨x,H1,I1,r1,q1⟩=>?_)
 obtain ⟨c,rfl,q1⟩:=q1
 cases r1
 refine wpAny_truthy_bool ?_
 cases c with
 | true=>exact hb pins s1 σ H1 Q I1 q1
 | false=>exact ⟨.bl false,H1,I1,rfl,q1⟩
theorem Ed (ha:PE X a ta) (hb:PE X (.BoolOp .Or (b :: rest) pos) tb):PE X (.BoolOp .Or (a :: b :: rest) pos) (uK ta tb):=by
 intro pins s σ H Q I h
 refine BoolOp_or (aV (ha pins s σ H _ I h) fun v s1 ⟨x,H1,I1,r1,q1⟩=>?_)
 obtain ⟨c,rfl,q1⟩:=q1
 cases r1
 refine wpAny_truthy_bool ?_
 cases c with
 | false=>exact hb pins s1 σ H1 Q I1 q1
 | true=>exact ⟨.bl true,H1,I1,rfl,q1⟩
theorem ur (ha:PE X a ta):PE X (.UnaryOp .Not a pos) (LX ta):=by
 intro pins s σ H Q I h
 refine UnaryOp_ (aV (ha pins s σ H _ I h) fun v s1 ⟨x,H1,I1,r1,q1⟩=>?_)
 obtain ⟨c,rfl,q1⟩:=q1
 cases r1
 exact not_of (wpAny_truthy_bool ⟨.bl (!c),H1,I1,rfl,q1⟩)
noncomputable def EN (t:TT) (ta tb:TE):TE:=fun σ H Q=>t σ H fun c H1=>if c=true then ta σ H1 Q else tb σ H1 Q
theorem Pg {c:Expr} (hc:PT X c tA) (ha:PE X a ta) (hb:PE X b tb):PE X (.IfExp c a b pos) (EN tA ta tb):=by
 intro pins s σ H Q I h
 refine wpAny_IfExp (aV (hc pins s σ H _ I h) fun d s1 ⟨H1,I1,q1⟩=>?_)
 cases d with
 | true=>exact ha pins s1 σ H1 Q I1 q1
 | false=>exact hb pins s1 σ H1 Q I1 q1
end
noncomputable def bg (K:ZrF) (H:Hp) (a:Addr) (xs:List V):Prop :=
 Rd H a (.lst xs) \/
  ∃ (o:Obj) (its:Array Value) (n:Nat),K.lookup a=some o/\o.cls=.type "list" /\ o.dict=none/\o.data=.seq its n/\its.size<=sizeLine/\Vals xs its.toList
noncomputable def dD (K:ZrF) (H:Hp) (a:Addr) (xs:List V):Prop :=
 Rd H a (.tup xs) \/
  ∃ (o:Obj) (its:Array Value) (n:Nat),K.lookup a=some o/\o.cls=.type "tuple" /\ o.data=.seq its n/\its.size<=sizeLine/\Vals xs its.toList
noncomputable def Nl:Value->Option V
 | .none=>some .non
 | .bool b=>some (.bl b)
 | .int i _=>some (.int i)
 | .str x _=>some (.str x)
 | .bytes b _=>some (.byt b)
 | .float b _=>some (.flt b)
 | .ref a=>some (.ref a)
 | .type n=>some (.ty n)
 | _=>none
theorem bf.abs {x:V}{u:Value} (r:bf x u):Nl u=some x:=by
 cases x with
 | non=>cases r;rfl
 | bl _=>cases r;rfl
 | int _=>obtain ⟨t,rfl⟩:=r;rfl
 | str _=>obtain ⟨t,rfl⟩:=r;rfl
 | byt _=>obtain ⟨t,rfl⟩:=r;rfl
 | flt _=>obtain ⟨t,rfl⟩:=r;rfl
 | ref _=>cases r;rfl
 | ty _=>cases r;rfl
theorem bf.inj {x y:V}{u:Value} (r:bf x u) (q:bf y u):x=y:=Option.some.inj (r.abs.symm.trans q.abs)
theorem Vals.inj:∀ {xs ys:List V}{us:List Value},Vals xs us->Vals ys us->xs=ys
 | _,_,_,.nil,.nil=>rfl
 | _,_,_,.cons r t,.cons r' t'=>by rw [r.inj r',Vals.inj t t']
section
variable {X:Cx}{pins:List (Addr × Obj)}{σ:St}{H:Hp}{s:Shared}{a:Addr}{xs ys:List V}
theorem bg.of {K:ZrF} (h:H a=some (.lst xs)):bg K H a xs:=.inl (.inl h)
theorem dD.of {K:ZrF} (h:H a=some (.tup xs)):dD K H a xs:=.inl (.inl h)
theorem Inv.list (I:Inv X pins σ H s) (h:bg X.K H a xs):∃ its:List Value,Vals xs its/\PlainL s.heap a its.toArray/\xs.length<=sizeLine:=by
 rcases h with h | ⟨o,its,n,hk,hc,hd,hs,hz,r⟩
 ·obtain ⟨z,its,n,r,e⟩:=h.ok I.aB
  exact ⟨its,r,⟨_,n,e,rfl,rfl,rfl⟩,z⟩
 ·refine ⟨its.toList,r,⟨o,n,I.iz a o hk,hc,hd,by simpa using hs⟩,?_⟩
  have e:=r.length
  simp only [Zug] at e
  omega
theorem Inv.tuple (I:Inv X pins σ H s) (h:dD X.K H a xs):∃ its:List Value,Vals xs its/\IsTup s.heap a its.toArray/\xs.length<=sizeLine:=by
 rcases h with h | ⟨o,its,n,hk,hc,hs,hz,r⟩
 ·obtain ⟨z,its,r,p⟩:=h.ok I.aB
  exact ⟨its,r,p,z⟩
 ·refine ⟨its.toList,r,⟨o,I.iz a o hk,hc,n,by simpa using hs⟩,?_⟩
  have e:=r.length
  simp only [Zug] at e
  omega
theorem Inv.jg (I:Inv X pins σ H s) (h:bg X.K H a xs) (h':bg X.K H a ys):xs=ys:=by
 obtain ⟨its,r,⟨o,n,e,_,_,d⟩,_⟩:=I.list h
 obtain ⟨its',r',⟨o',n',e',_,_,d'⟩,_⟩:=I.list h'
 rw [e] at e';cases e'
 rw [d] at d'
 injection d' with d1 _
 have:its=its':=by simpa using congrArg Array.toList d1
 subst this
 exact r.inj r'
theorem Inv.m7 (I:Inv X pins σ H s) (h:dD X.K H a xs) (h':dD X.K H a ys):xs=ys:=by
 obtain ⟨its,r,⟨o,e,_,n,d⟩,_⟩:=I.tuple h
 obtain ⟨its',r',⟨o',e',_,n',d'⟩,_⟩:=I.tuple h'
 rw [e] at e';cases e'
 rw [d] at d'
 injection d' with d1 _
 have:its=its':=by simpa using congrArg Array.toList d1
 subst this
 exact r.inj r'
end
noncomputable abbrev Cx.iX (X:Cx) (E:Value->Shared->Prop):Cx:={ X with xe:=E }
noncomputable abbrev Cx.qA (X:Cx):Cx:=X.iX fun _ _=>False
theorem Cx.Ok.iX {X:Cx} (ok:X.Ok) (E:Value->Shared->Prop):(X.iX E).Ok :=
 ⟨ok.mod,ok.kind,ok.glob,ok.blt,ok.above,ok.inj,ok.has,ok.tJ,ok.hd,ok.frames,ok.ve,ok.C1,ok.bs,ok.mE,ok.j9,ok.kI,ok.fF,ok.pF⟩
theorem Cx.Ok.unwish {X:Cx}{E:Value->Shared->Prop} (ok:(X.iX E).Ok):X.Ok :=
 ⟨ok.mod,ok.kind,ok.glob,ok.blt,ok.above,ok.inj,ok.has,ok.tJ,ok.hd,ok.frames,ok.ve,ok.C1,ok.bs,ok.mE,ok.j9,ok.kI,ok.fF,ok.pF⟩
section
variable {X:Cx}{pins:List (Addr × Obj)}{σ:St}{H:Hp}{s:Shared}{E:Value->Shared->Prop}
theorem Inv.iX (I:Inv X pins σ H s) (E:Value->Shared->Prop):Inv (X.iX E) pins σ H s:=⟨I.ok.iX E,I.os,I.bare,I.base,I.loc,I.cell,I.free,I.dr,I.pin,I.aB,I.len⟩
theorem Inv.unwish (I:Inv (X.iX E) pins σ H s):Inv X pins σ H s:=⟨I.ok.unwish,I.os,I.bare,I.base,I.loc,I.cell,I.free,I.dr,I.pin,I.aB,I.len⟩
theorem SP.unwish {D:Ends}{f:Flow}{s':Shared} (h:SP (X.iX E) pins D f s'):SP X pins D f s':=by
 cases f with
 | next=>obtain ⟨σ',H',I,q⟩:=h;exact ⟨σ',H',I.unwish,q⟩
 | brk=>obtain ⟨σ',H',I,q⟩:=h;exact ⟨σ',H',I.unwish,q⟩
 | cont=>obtain ⟨σ',H',I,q⟩:=h;exact ⟨σ',H',I.unwish,q⟩
 | ret u=>obtain ⟨v,σ',H',I,r,q⟩:=h;exact ⟨v,σ',H',I.unwish,r,q⟩
theorem j7.qA {st:List Stmt}{t:TS} (h:j7 X.qA st t):j7 X st t:=fun pins s σ H D I hw =>
 wpAny_mono (h pins s σ H D (I.iX _) hw) (fun _ _ q=>q.unwish) fun _ _ z=>False.elim z
end
section
variable {X:Cx}{st:Stmt}{rest:List Stmt}{t u:TS}{e:Expr}{te:TE}{pos:Pos}
noncomputable def dQ:TS:=fun D σ H=>D.nx σ H
noncomputable def aI (t u:TS):TS:=fun D σ H=>t { D with nx:=u D } σ H
theorem eE:j7 X [] dQ:=fun _ _ σ H _ I h=>wpAny_execs_nil ⟨σ,H,I,h⟩
theorem aK (h1:PS X st t) (h2:j7 X rest u):j7 X (st :: rest) (aI t u):=by
 intro pins s σ H D I h
 refine wpAny_execs_cons (aV (h1 pins s σ H { D with nx:=u D } I h) fun f s1 q=>?_)
 cases f with
 | next =>
  obtain ⟨σ',H',I',q⟩:=q
  exact h2 pins s1 σ' H' D I' q
 | ret v=>exact q
 | brk=>exact q
 | cont=>exact q
theorem aL (h1:PS X st t):j7 X [st] t:=by
 intro pins s σ H D I h
 refine wpAny_execs_cons (aV (h1 pins s σ H D I h) fun f s1 q=>?_)
 cases f with
 | next=>exact wpAny_execs_nil q
 | ret v=>exact q
 | brk=>exact q
 | cont=>exact q
theorem Inv.quiet {pins:List (Addr × Obj)}{σ:St}{H:Hp}{s:Shared} (I:Inv X pins σ H s):interactive X.env=false:=by simp [interactive,I.ok.kind]
noncomputable def ix (te:TE):TS:=fun D σ H=>te σ H fun _ H1=>D.nx σ H1
theorem i0 (he:PE X e te) (hs:swapsWith e none pos.line X.env=pure false:=by rfl):PS X (.Expr e pos) (ix te):=by
 intro pins s σ H D I h
 exact wpAny_Expr_any (aV (he pins s σ H _ I h) fun v s1 ⟨x,H1,I1,r1,q1⟩=>⟨σ,H1,I1,q1⟩) I.quiet hs
noncomputable def cz (te:TE):TS:=fun D σ H=>te σ H D.rt
theorem cC (he:PE X e te):PS X (.Return (some e) pos) (cz te):=by
 intro pins s σ H D I h
 exact wpAny_Return_some (aV (he pins s σ H _ I h) fun v s1 ⟨x,H1,I1,r1,q1⟩=>⟨x,σ,H1,I1,r1,q1⟩)
noncomputable def OJ:TS:=fun D _ H=>D.rt .non H
theorem X2:PS X (.Return none pos) OJ:=fun _ _ σ H _ I h=>wpAny_Return_none ⟨.non,σ,H,I,rfl,h⟩
noncomputable def du (c:TT) (t u:TS):TS:=fun D σ H=>c σ H fun b H1=>if b=true then t D σ H1 else u D σ H1
theorem dJ {c:Expr}{a b:List Stmt}{tc:TT} (hc:PT X c tc) (ha:j7 X a t) (hb:j7 X b u):PS X (.If c a b pos) (du tc t u):=by
 intro pins s σ H D I h
 refine wpAny_If (aV (hc pins s σ H _ I h) fun d s1 ⟨H1,I1,q1⟩=>?_)
 cases d with
 | true=>exact ha pins s1 σ H1 D I1 q1
 | false=>exact hb pins s1 σ H1 D I1 q1
end
noncomputable abbrev TG:=V->St->Hp->(St->Hp->Prop)->Prop
noncomputable abbrev zh:=List V->St->Hp->(St->Hp->Prop)->Prop
noncomputable def PG (X:Cx) (target:Expr) (t:TG):Prop :=
 ∀ (pins:List (Addr × Obj)) (s:Shared) (σ:St) (H:Hp) (v:V) (u:Value) (Q:St->Hp->Prop),Inv X pins σ H s->bf v u->t v σ H Q ->
  wpAny (model X.prog X.w) X.A (assign target X.env u) (fun _ s'=>∃ σ' H',Inv X pins σ' H' s'/\Q σ' H') X.xe s
noncomputable def Dy (X:Cx) (ts:List Expr) (t:zh):Prop :=
 ∀ (pins:List (Addr × Obj)) (s:Shared) (σ:St) (H:Hp) (vs:List V) (us:List Value) (Q:St->Hp->Prop),Inv X pins σ H s->Vals vs us->t vs σ H Q ->
  wpAny (model X.prog X.w) X.A (assignInOrder ((assignEach ts X.env).map (·.2)) us) (fun _ s'=>∃ σ' H',Inv X pins σ' H' s'/\Q σ' H') X.xe s
noncomputable abbrev wV:=V->V->V->Hp->(Hp->Prop)->Prop
noncomputable def yl (X:Cx) (t:wV):Prop :=
 ∀ (pins:List (Addr × Obj)) (s:Shared) (σ:St) (H:Hp) (o i v:V) (ov iv u:Value) (Q:Hp->Prop),Inv X pins σ H s->bf o ov->bf i iv->bf v u->t o i v H Q ->
  wpAny (model X.prog X.w) X.A (setItem ov iv u) (fun _ s'=>∃ H',Inv X pins σ H' s'/\Q H') X.xe s
noncomputable abbrev YU:=V->V->Hp->VK->Prop
noncomputable def Zv (X:Cx) (op:Operator) (t:YU):Prop :=
 ∀ (pins:List (Addr × Obj)) (s:Shared) (σ:St) (H:Hp) (x y:V) (v u:Value) (Q:VK),Inv X pins σ H s->bf x v->bf y u->t x y H Q ->
  wpAny (model X.prog X.w) X.A (inplaceOp op v u) (EP X pins σ Q) X.xe s
section
variable {X:Cx}{pos:Pos}
noncomputable def aC (i:Nat):TG:=fun v σ H Q=>Q (σ.set i (some v)) H
theorem cj {i:Nat}{x:Str} (hN:X.N.Nodup) (hi:X.N[i]? = some x) (hx:Loc X.env.scope x) (hf:X.fn x=true\/X.env.scope.names.lookup x=some .local:=by first | exact .inl rfl | exact .inr rfl | assumption):PG X (.Name x pos) (aC i):=by
 intro pins s σ H v u Q I r h
 exact wpAny_assign_Name (SX I hN hi hx r (fun s' I'=>⟨_,H,I',h⟩) hf)
noncomputable def rS:zh:=fun vs σ H Q=>vs=[]/\Q σ H
noncomputable def jk (t:TG) (u:zh):zh:=fun vs σ H Q=>∃ v r,vs=v :: r/\t v σ H fun σ' H'=>u r σ' H' Q
theorem vE:Dy X [] rS:=by
 intro pins s σ H vs us Q I r h
 obtain ⟨e,h⟩:=h
 subst e
 cases r
 exact assignInOrder_nil ⟨σ,H,I,h⟩
theorem jR {e:Expr}{es:List Expr}{t:TG}{u:zh} (h1:PG X e t) (h2:Dy X es u)
  (hs:(assignEach (e :: es) X.env).map (·.2)=assign e X.env :: (assignEach es X.env).map (·.2):=by rfl):Dy X (e :: es) (jk t u):=by
 intro pins s σ H vs us Q I r h
 obtain ⟨v,vr,e1,h⟩:=h
 subst e1
 cases r with
 | cons r rr =>
  rw [hs]
  refine assignInOrder_cons (aV (h1 pins s σ H _ _ _ I r h) fun _ s1 ⟨σ1,H1,I1,q1⟩=>?_)
  exact h2 pins s1 σ1 H1 _ _ Q I1 rr q1
noncomputable def rM (K:ZrF) (n:Nat) (t:zh):TG:=fun v σ H Q=>∃ a xs,v=.ref a/\dD K H a xs/\xs.length=n/\t xs σ H Q
theorem uq {es:List Expr}{k:Nat}{t:zh}{n:Nat} (hc:X.calm=true) (h:Dy X es t)
  (hn:(assignEach es X.env).length=n:=by rfl) (kj:(assignEach es X.env).findIdx? (·.1)=none:=by rfl):PG X (.Tuple es k pos) (rM X.K n t):=by
 intro pins s σ H v u Q I r hw
 obtain ⟨a,xs,e1,hq,hl,hw⟩:=hw
 subst e1
 cases r
 obtain ⟨its,rv,ht,hz⟩:=I.tuple hq
 refine assign_Tuple_tuple (I.ok.hd hc) ht (by simp [hn,<- hl,rv.length]) kj fun h' hx=>?_
 have I1:Inv X pins σ H { s with heap:=h' }:=I.kept (t':=s.toks) fun b o e=>hx b o (ZtK (Heap.lt_size e)) e
 exact h pins _ σ H xs _ Q I1 (by simpa using rv) hw
noncomputable def rp (to ti:TE) (t:wV):TG:=fun v σ H Q=>to σ H fun o H1=>ti σ H1 fun i H2=>t o i v H2 fun H3=>Q σ H3
theorem TL {o i:Expr}{to ti:TE}{t:wV} (ho:PE X o to) (hi:PE X i ti) (hs:yl X t)
  (ha:∀ v,assign (.Subscript o i pos) X.env v=(do
   let ov <- holding [v] (eval o X.env)
   let iv <- holding [v,ov] (eval i X.env)
   standAt pos
   holding [v,ov,iv] (setItem ov iv v)
   release [v,ov,iv] []):=by intro _;rfl):PG X (.Subscript o i pos) (rp to ti t):=by
 intro pins s σ H v u Q I r h
 rw [ha]
 refine wpAny_bind (wpAny_holding (aV (ho pins s σ H _ I h) fun ov s1 ⟨x,H1,I1,r1,q1⟩=>?_))
 refine wpAny_bind (wpAny_holding (aV (hi pins s1 σ H1 _ I1 q1) fun iv s2 ⟨y,H2,I2,r2,q2⟩=>?_))
 refine wpAny_bind (wpAny_standAt (wpAny_bind (wpAny_holding (aV (hs pins s2 σ H2 x y v ov iv u _ I2 r1 r2 r q2) fun _ s3 ⟨H3,I3,q3⟩=>?_))))
 exact wpAny_release ⟨σ,H3,I3,q3⟩
noncomputable def bV (te:TE) (g:TG):TS:=fun D σ H=>te σ H fun x H1=>g x σ H1 D.nx
theorem TN {tg e:Expr}{te:TE}{g:TG} (he:PE X e te) (hg:PG X tg g) (hs:swapsWithSole [tg] e pos.line X.env=pure false:=by rfl) (hw:swappedStores [tg] e X.env=pure none:=by rfl)
  (h1:(assignEach [tg] X.env).map (·.2)=[assign tg X.env]:=by rfl):PS X (.Assign [tg] e pos) (bV te g):=by
 intro pins s σ H D I h
 refine wpAny_Assign_stores (aV (he pins s σ H _ I h) fun v s1 ⟨x,H1,I1,r1,q1⟩=>?_) hs hw
 rw [h1]
 exact aV (hg pins s1 σ H1 x v _ I1 r1 q1) fun _ s2 q=>q
theorem cA {i:Nat}{x:Str}{e:Expr}{te:TE}{pos':Pos} (hN:X.N.Nodup) (hi:X.N[i]? = some x) (hx:Loc X.env.scope x) (he:PE X e te) (hs:swapsWith e (some (.Name x pos')) pos.line X.env=pure false:=by rfl) (hf:X.fn x=true\/X.env.scope.names.lookup x=some .local:=by first | exact .inl rfl | exact .inr rfl | assumption) :
  PS X (.Assign [.Name x pos'] e pos) (bV te (aC i)):=by
 intro pins s σ H D I h
 refine wpAny_Assign_Name (aV (he pins s σ H _ I h) fun v s1 ⟨y,H1,I1,r1,q1⟩=>?_) hs
 exact SX I1 hN hi hx r1 (fun s2 I2=>⟨_,H1,I2,q1⟩) hf
end
section
variable {X:Cx}{pos:Pos}
noncomputable def BY (c:TT) (tb:TS):TS:=fun D σ H=>∃ W:Nat->St->Hp->Prop,(∃ m,W m σ H)/\∀ m σ H,W m σ H ->
 c σ H fun b H1=>if b=true then ∃ N:St->Hp->Prop,(∀ σ' H',N σ' H'->∃ m',m'<m/\W m' σ' H')/\tb { D with nx:=N,ct:=N,bk:=D.nx } σ H1 else D.nx σ H1
theorem Pz {c:Expr}{body:List Stmt}{tc:TT}{tb:TS} (hp:PassesOwn (model X.prog X.w) X.A X.env X.xe) (hc:PT X c tc) (hb:j7 X body tb):PS X (.While c body [] pos) (BY tc tb):=by
 intro pins s σ H D I h
 obtain ⟨W,⟨m0,w0⟩,turn⟩:=h
 refine wpAny_While (codeAny_whileLoop (fun n s'=>∃ σ' H',Inv X pins σ' H' s'/\W n σ' H') ?_ m0 ⟨σ,H,I,w0⟩)
 rintro n s1 ⟨σ1,H1,I1,w1⟩
 refine wpAny_passesOwn hp (aV (hc pins s1 σ1 H1 _ I1 (turn n σ1 H1 w1)) fun b s2 ⟨H2,I2,q2⟩=>?_)
 cases b with
 | true =>
  obtain ⟨N,hN,q2⟩:=q2
  rw [if_pos rfl]
  refine wpAny_passesOwn hp (aV (hb pins s2 σ1 H2 _ I2 q2) fun f s3 q3=>?_)
  cases f with
  | next =>
   obtain ⟨σ3,H3,I3,n3⟩:=q3
   obtain ⟨m',hm,w3⟩:=hN σ3 H3 n3
   exact ⟨m',hm,σ3,H3,I3,w3⟩
  | cont =>
   obtain ⟨σ3,H3,I3,n3⟩:=q3
   obtain ⟨m',hm,w3⟩:=hN σ3 H3 n3
   exact ⟨m',hm,σ3,H3,I3,w3⟩
  | brk=>exact q3
  | ret v=>exact q3
 | false =>
  rw [if_neg Zum]
  exact wpAny_execs_nil ⟨σ1,H2,I2,q2⟩
end
structure It where
 go:Nat->Hp->Prop
 lT:Nat->Hp->V->Hp->Prop
 stop:Nat->Hp->Prop
noncomputable def lg (X:Cx) (pins:List (Addr × Obj)) (H:Hp) (b:Addr):Prop :=
 H b=none/\b≠X.env.locals/\b ∉ X.fs/\(b∈X.ex\/X.s₀.heap.objs.size<=b)/\(∀ x c,X.env.cells.lookup x=some c->c≠b)/\∀ p∈X.pn ++ pins,p.1≠b
theorem Inv.lV {X:Cx}{pins:List (Addr × Obj)}{σ:St}{H H':Hp}{s:Shared}{b:Addr} (I:Inv X pins σ H s) (hb:s.heap.objs.size<=b) (hn:H' b=none):lg X pins H' b:=by
 refine ⟨hn,ZtP (ZtM I.lt hb),I.Ov hb,.inr (ZtL I.sz hb),fun x c e z=>?_,fun p hp z=>?_⟩
 ·obtain ⟨v,q⟩:=I.cell x c e
  exact absurd (ZtM q.lt (by rw [z];exact hb)) (ZtU _)
 ·exact absurd (ZtM (Heap.lt_size (I.pin p hp).1) (by rw [z];exact hb)) (ZtU _)
structure Turn (P:Program) (w:World) (K:ZrF) (tg:Expr) (J:It) (fp:List Addr) (it:Addr) (tn:Nat->Heap->Prop):Prop where
 mem:it∈fp
 obj:∀ i h,tn i h->∀ b∈fp,∃ o,h.get? b=some o/\∀ v,o.data≠.cell v
 keep:∀ i h h',tn i h->(∀ b∈fp,∀ o,h.get? b=some o->h'.get? b=some o)->tn i h'
 item:∀ (X:Cx),X.prog=P->X.w=w->X.K=K->X.calm=true->∀ (i:Nat) (pins:List (Addr × Obj)) (s:Shared) (σ:St) (H:Hp) (E:Value->Shared->Prop),Inv X pins σ H s->(∀ b∈fp,lg X pins H b)->tn i s.heap->J.go i H ->
  wpAny (model P w) X.A (pyNext (.ref it)) (fun r s1=>∃ u,r=some u /\
   wpAny (model P w) X.A (letOwnedTupleGo tg (.ref it) u) (fun _ s2=>∃ x H',Inv X pins σ H' s2/\bf x u/\J.lT i H x H'/\tn (i+1) s2.heap/\∀ b∈fp,H' b=none) E s1) E s
 done:∀ (X:Cx),X.prog=P->X.w=w->X.K=K->X.calm=true->∀ (i:Nat) (pins:List (Addr × Obj)) (s:Shared) (σ:St) (H:Hp) (E:Value->Shared->Prop),Inv X pins σ H s->(∀ b∈fp,lg X pins H b)->tn i s.heap->J.stop i H ->
  wpAny (model P w) X.A (pyNext (.ref it)) (fun r s1=>r=none/\Inv X pins σ H s1) E s
 self:∀ (A:Around) (i:Nat) (s:Shared) (Q:Value->Shared->Prop) (E:Value->Shared->Prop),tn i s.heap->Q (.ref it) s->wpAny (model P w) A (pyIter (.ref it)) Q E s
noncomputable abbrev TI:=St->Hp->(It->Hp->Prop)->Prop
noncomputable def Pe (X:Cx) (pins:List (Addr × Obj)) (σ:St) (tg:Expr) (R:It->Hp->Prop) (yt:Value) (s2:Shared):Prop :=
 ∃ (it:Addr) (fp:List Addr) (tn:Nat->Heap->Prop) (J:It) (H':Hp),yt=.ref it/\Inv X pins σ H' s2/\Turn X.prog X.w X.K tg J fp it tn/\tn 0 s2.heap/\(∀ b∈fp,lg X pins H' b)/\R J H'
noncomputable def PI (X:Cx) (tg iter:Expr) (wi:TI):Prop :=
 ∀ (pins:List (Addr × Obj)) (s:Shared) (σ:St) (H:Hp) (R:It->Hp->Prop),Inv X pins σ H s->wi σ H R ->
  wpAny (model X.prog X.w) X.A (eval iter X.env) (fun v s1=>wpAny (model X.prog X.w) X.A (pyIter v) (Pe X pins σ tg R) X.xe s1) X.xe s
theorem HL {M:Model}{A:Around}{E:Value->Shared->Prop}{s:Shared}{tg:Expr}{it:Addr}{u:Value}{o:Obj}{n:String}{vs:Array Value}{Q:Unit->Shared->Prop} (ho:s.heap.get? it=some o) (hc:o.cls=.type n) (hd:o.data=.fields vs)
    (hn:["enumerate","zip","dict_itemiterator","dict_reverseitemiterator","odict_iterator","itertools.zip_longest","itertools.pairwise"].contains n=false) (hQ:Q () s):wpAny M A (letOwnedTupleGo tg (.ref it) u) Q E s:=by
  unfold letOwnedTupleGo
  cases tg <;> first
    | exact wpAny_pure hQ
    | (cases u <;> first
        | exact wpAny_pure hQ
        | (refine wpAny_bind (wpAny_load ho ?_)
           rw [hc,hd]
           show wpAny M A (if (["enumerate","zip","dict_itemiterator","dict_reverseitemiterator","odict_iterator","itertools.zip_longest","itertools.pairwise"].contains n && vs[0]? == some (rawInt _))=true then _ else _) Q E s
           rw [if_neg (by intro h;rw [hn,Bool.false_and] at h;cases h)]
           exact wpAny_pure hQ))
noncomputable def kD (K:ZrF) (a:Addr):It :=
 ⟨fun i H=>∃ xs x,bg K H a xs/\xs[i]? = some x,fun i H x H'=>H'=H/\∀ xs,bg K H a xs->xs[i]? = some x,fun i H=>∃ xs,bg K H a xs/\xs.length<=i⟩
noncomputable def pS (K:ZrF) (a:Addr):It :=
 ⟨fun i H=>∃ xs x,dD K H a xs/\xs[i]? = some x,fun i H x H'=>H'=H/\∀ xs,dD K H a xs->xs[i]? = some x,fun i H=>∃ xs,dD K H a xs/\xs.length<=i⟩
noncomputable def lH (lo:Int) (n:Nat):It:=⟨fun i _=>i<n,fun i H x H'=>H'=H/\x=.int (lo+i),fun i _=>n<=i⟩
theorem Zn {P:Program}{w:World}{K:ZrF}{tg:Expr} (a it:Addr):Turn P w K tg (kD K a) [it] it (fun i h=>h.IsListIter it a i) where
 mem:=by simp
 obj:=fun i h st b hb=>by
  have e:b=it:=by simpa using hb
  subst e
  obtain ⟨o,e,c,d⟩:=st
  exact ⟨o,e,fun v z=>by rw [d] at z;cases z⟩
 keep:=fun i h h' st k=>st.at fun o e=>k it (by simp) o e
 item:=by
  intro X hP hw hK hc i pins s σ H E I hf st hg
  subst hP hw hK
  obtain ⟨xs,x,hq,hx⟩:=hg
  obtain ⟨its,rv,p,hz⟩:=I.list hq
  obtain ⟨u,hu,ru⟩:=rv.get hx
  obtain ⟨f0,f1,f2,f3,f4,f5⟩:=hf it (by simp)
  refine wpAny_pyNext_list_item st p.isList (x:=u) (by simpa using hu) fun h' st' sb=>?_
  have I1:Inv X pins σ H { s with heap:=h' }:=I.turned (t':=s.toks) (fun b o hb e=>(sb.2 b hb).trans e) f0 f1 f3 f4 f5
  obtain ⟨o,e,c,d⟩:=id st'
  exact ⟨u,rfl,HL (s:={ s with heap:=h' }) e c d (by decide) ⟨x,H,I1,ru,⟨rfl,fun ys hy=>by rw [I.jg hy hq];exact hx⟩,st',fun b hb=>(hf b hb).1⟩⟩
 done:=by
  intro X hP hw hK hc i pins s σ H E I hf st hg
  subst hP hw hK
  obtain ⟨xs,hq,hx⟩:=hg
  obtain ⟨its,rv,p,hz⟩:=I.list hq
  obtain ⟨f0,f1,f2,f3,f4,f5⟩:=hf it (by simp)
  have hl:=rv.length
  exact wpAny_pyNext_list_end (I.ok.hd hc) st p.isList (by simp;omega) fun h' eb=>⟨rfl,I.turned (t':=s.toks) (fun b o hb e=>eb b o hb e) f0 f1 f3 f4 f5⟩
 self:=fun _ _ _ _ _ st h=>wpAny_pyIter_listiter st h
theorem ZlX {P:Program}{w:World}{K:ZrF}{tg:Expr} (a it:Addr):Turn P w K tg (pS K a) [it] it (fun i h=>h.IsTupleIter it a i) where
 mem:=by simp
 obj:=fun i h st b hb=>by
  have e:b=it:=by simpa using hb
  subst e
  obtain ⟨o,e,c,d⟩:=st
  exact ⟨o,e,fun v z=>by rw [d] at z;cases z⟩
 keep:=fun i h h' st k=>st.at fun o e=>k it (by simp) o e
 item:=by
  intro X hP hw hK hc i pins s σ H E I hf st hg
  subst hP hw hK
  obtain ⟨xs,x,hq,hx⟩:=hg
  obtain ⟨its,rv,p,hz⟩:=I.tuple hq
  obtain ⟨u,hu,ru⟩:=rv.get hx
  obtain ⟨f0,f1,f2,f3,f4,f5⟩:=hf it (by simp)
  refine wpAny_pyNext_tuple_item st (show s.heap.IsTuple a its.toArray from p) (x:=u) (by simpa using hu) fun h' st' sb=>?_
  have I1:Inv X pins σ H { s with heap:=h' }:=I.turned (t':=s.toks) (fun b o hb e=>(sb.2 b hb).trans e) f0 f1 f3 f4 f5
  obtain ⟨o,e,c,d⟩:=id st'
  exact ⟨u,rfl,HL (s:={ s with heap:=h' }) e c d (by decide) ⟨x,H,I1,ru,⟨rfl,fun ys hy=>by rw [I.m7 hy hq];exact hx⟩,st',fun b hb=>(hf b hb).1⟩⟩
 done:=by
  intro X hP hw hK hc i pins s σ H E I hf st hg
  subst hP hw hK
  obtain ⟨xs,hq,hx⟩:=hg
  obtain ⟨its,rv,p,hz⟩:=I.tuple hq
  obtain ⟨f0,f1,f2,f3,f4,f5⟩:=hf it (by simp)
  have hl:=rv.length
  exact wpAny_pyNext_tuple_end (I.ok.hd hc) st (show s.heap.IsTuple a its.toArray from p) (by simp;omega) fun h' eb=>⟨rfl,I.turned (t':=s.toks) (fun b o hb e=>eb b o hb e) f0 f1 f3 f4 f5⟩
 self:=fun _ _ _ _ _ st h=>wpAny_pyIter_tupleiter st h
theorem XY {P:Program}{w:World}{K:ZrF}{tg:Expr} (it:Addr) (lo:Int) (n:Nat):Turn P w K tg (lH lo n) [it] it (fun i h=>IsRangeIter h it (lo+(i:Nat) * 1) ((n:Int) - (i:Nat)) 1) where
 mem:=by simp
 obj:=fun i h st b hb=>by
  have e:b=it:=by simpa using hb
  subst e
  exact ⟨_,st,fun v z=>by
   have z':Data.fields _=Data.cell v:=z
   cases z'⟩
 keep:=fun i h h' st k=>k it (by simp) _ st
 item:=by
  intro X hP hw hK hc i pins s σ H E I hf st hg
  subst hP hw hK
  obtain ⟨f0,f1,f2,f3,f4,f5⟩:=hf it (by simp)
  have W:=Walks.range (prog:=X.prog) (w:=X.w) (I.ok.hd hc) it lo 1 n
  refine W.item i s _ _ hg st fun v h' tk hv st' kk=>?_
  obtain ⟨t,rfl⟩:=hv
  have I1:Inv X pins σ H { s with heap:=h',toks:=tk }:=I.turned (fun b o hb e=>kk b o (by simpa using hb) e) f0 f1 f3 f4 f5
  refine ⟨_,rfl,HL (s:={ s with heap:=h',toks:=tk }) (n:="range_iterator") st' rfl rfl (by decide) ⟨.int (lo+i),H,I1,⟨t,?_⟩,⟨rfl,rfl⟩,st',fun b hb=>(hf b hb).1⟩⟩
  rw [Int.mul_one]
 done:=by
  intro X hP hw hK hc i pins s σ H E I hf st hg
  subst hP hw hK
  obtain ⟨f0,f1,f2,f3,f4,f5⟩:=hf it (by simp)
  exact wpAny_pyNext_range_end (I.ok.hd hc) st (by have:n<=i:=hg;omega) fun h' eb=>⟨rfl,I.turned (t':=s.toks) (fun b o hb e=>eb b o hb e) f0 f1 f3 f4 f5⟩
 self:=fun _ _ _ _ _ st h=>wpAny_pyIter_rangeiter st h
section
variable {X:Cx}{tg:Expr}
noncomputable def eU (K:ZrF) (tl:TE):TI:=fun σ H R=>tl σ H fun x H1=>∃ a,x=.ref a/\(∃ xs,bg K H1 a xs)/\R (kD K a) H1
noncomputable def qB (K:ZrF) (tl:TE):TI:=fun σ H R=>tl σ H fun x H1=>∃ a,x=.ref a/\(∃ xs,dD K H1 a xs)/\R (pS K a) H1
theorem gw {l:Expr}{tl:TE} (hl:PE X l tl):PI X tg l (eU X.K tl):=by
 intro pins s σ H R I h
 refine aV (hl pins s σ H _ I h) fun v s1 ⟨x,H1,I1,r1,q1⟩=>?_
 obtain ⟨a,e,⟨xs,hq⟩,q⟩:=q1
 subst e
 cases r1
 obtain ⟨its,rv,p,hz⟩:=I1.list hq
 refine wpAny_pyIter_list p.isList ?_
 refine ⟨s1.heap.objs.size,[s1.heap.objs.size],_,_,H1,rfl,I1.kept (t':=s1.toks) fun b o e=>Heap.get?_push_of_some _ e,Zn a _,⟨_,Heap.get?_push_size _ rfl,rfl,rfl⟩,fun b hb=>?_,q⟩
 have e:b=s1.heap.objs.size:=by simpa using hb
 subst e
 exact I1.lV (ZtJ _) (I1.aB.fresh (ZtJ _))
theorem CJ {l:Expr}{tl:TE} (hl:PE X l tl):PI X tg l (qB X.K tl):=by
 intro pins s σ H R I h
 refine aV (hl pins s σ H _ I h) fun v s1 ⟨x,H1,I1,r1,q1⟩=>?_
 obtain ⟨a,e,⟨xs,hq⟩,q⟩:=q1
 subst e
 cases r1
 obtain ⟨its,rv,p,hz⟩:=I1.tuple hq
 refine wpAny_pyIter_tuple (show s1.heap.IsTuple a its.toArray from p) ?_
 refine ⟨s1.heap.objs.size,[s1.heap.objs.size],_,_,H1,rfl,I1.kept (t':=s1.toks) fun b o e=>Heap.get?_push_of_some _ e,ZlX a _,⟨_,Heap.get?_push_size _ rfl,rfl,rfl⟩,fun b hb=>?_,q⟩
 have e:b=s1.heap.objs.size:=by simpa using hb
 subst e
 exact I1.lV (ZtJ _) (I1.aB.fresh (ZtJ _))
theorem UA {pins:List (Addr × Obj)}{σ:St}{H:Hp}{s:Shared}{R:It->Hp->Prop}{E:Value->Shared->Prop}{lo hi:Int}{t u v:Tok}{tk:Nat} (I:Inv X pins σ H s) (h1 : -(2 ^ 62)<=lo) (h2:lo<2 ^ 62) (h3 : -(2 ^ 62)<=hi) (h4:hi<2 ^ 62)
  (q:R (lH lo (hi - lo).toNat) H):wpAny (model X.prog X.w) X.A (pyIter (.ref s.heap.objs.size)) (Pe X pins σ tg R) E { s with heap:=s.heap.push { cls:=.type "range",data:=.fields #[.int lo t,.int hi u,.int 1 v] },toks:=tk }:=by
 refine wpAny_pyIter_range (IsRange.new ..) (small_one h1 h2 h3 h4) ?_
 have I1:Inv X pins σ H { s with heap:=s.heap.push { cls:=.type "range",data:=.fields #[.int lo t,.int hi u,.int 1 v] },toks:=tk }:=I.kept fun b o e=>Heap.get?_push_of_some _ e
 refine ⟨(s.heap.push { cls:=.type "range",data:=.fields #[.int lo t,.int hi u,.int 1 v] }).objs.size,[(s.heap.push { cls:=.type "range",data:=.fields #[.int lo t,.int hi u,.int 1 v] }).objs.size],_,_,H,rfl,
  I1.kept (t':=tk) fun b o e=>Heap.get?_push_of_some _ e,XY _ lo (hi - lo).toNat,?_,fun b hb=>?_,q⟩
 ·have e1:lo+((0:Nat):Int) * 1=lo:=by simp
  have e2:(((hi - lo).toNat:Nat):Int) - ((0:Nat):Int)=Builtin.Range.rangeSize lo hi 1:=by rw [rangeSize_one];split <;> omega
  show IsRangeIter _ _ (lo+((0:Nat):Int) * 1) ((((hi - lo).toNat:Nat):Int) - ((0:Nat):Int)) 1
  rw [e1,e2]
  exact Heap.get?_push_size _ rfl
 ·have e:b=(s.heap.push { cls:=.type "range",data:=.fields #[.int lo t,.int hi u,.int 1 v] }).objs.size:=by simpa using hb
  subst e
  exact I1.lV (ZtJ _) (I1.aB.fresh (ZtJ _))
noncomputable def om (ta:TA):TI:=fun σ H R=>ta σ H fun vs H1=>∃ j:Int,vs=[.int j] /\ -(2 ^ 62)<=j/\j<2 ^ 62/\R (lH 0 j.toNat) H1
noncomputable def sh (ta:TA):TI:=fun σ H R=>ta σ H fun vs H1=>∃ i j:Int,vs=[.int i,.int j]/\(-(2 ^ 62)<=i/\i<2 ^ 62 /\ -(2 ^ 62)<=j/\j<2 ^ 62)/\R (lH i (j - i).toNat) H1
theorem uC {a:Expr}{ta:TA}{p pos:Pos} (hg:Gl X "range") (hm:X.mg "range" = none) (ha:PA X [a] ta) (hs:starEach [a] X.env=[(false,eval a X.env)]:=by rfl):PI X tg (.Call (.Name "range" p) [a] [] pos) (om ta):=by
 intro pins s σ H R I h
 refine Call_ (qJ I hg hm boot_range (PyProof.Rows.callWith_type1 (aV (ha pos pins s σ H _ I h) fun us s1 ⟨vs,H1,I1,r1,q1⟩=>?_) hs rfl))
 obtain ⟨j,e,q1,q2,q⟩:=q1
 subst e
 cases r1 with
 | cons r rr =>
  cases rr
  obtain ⟨t,rfl⟩:=r
  exact call_range_1 (UA I1 (by omega) (by omega) q1 q2 (by simpa using q))
theorem IH {a b:Expr}{ta:TA}{p pos:Pos} (hg:Gl X "range") (hm:X.mg "range" = none) (ha:PA X [a,b] ta) (hs:starEach [a,b] X.env=[(false,eval a X.env),(false,eval b X.env)]:=by rfl) (pV:starEach [b] X.env=[(false,eval b X.env)]:=by rfl) :
  PI X tg (.Call (.Name "range" p) [a,b] [] pos) (sh ta):=by
 intro pins s σ H R I h
 refine Call_ (qJ I hg hm boot_range (PyProof.Rows.callWith_type1 (aV (ha pos pins s σ H _ I h) fun us s1 ⟨vs,H1,I1,r1,q1⟩=>?_) (by rw [hs,pV]) (by rw [pV];rfl)))
 obtain ⟨i,j,e,⟨q1,q2,q3,q4⟩,q⟩:=q1
 subst e
 cases r1 with
 | cons r rr =>
  cases rr with
  | cons r' rr =>
   cases rr
   obtain ⟨t,rfl⟩:=r
   obtain ⟨t',rfl⟩:=r'
   exact call_range_2 (UA I1 q1 q2 q3 q4 q)
noncomputable def fP (wi:TI) (g:TG) (tb:TS):TS:=fun D σ H=>wi σ H fun J H1=>∃ W:Nat->Nat->St->Hp->Prop,(∃ m,W 0 m σ H1)/\∀ i m σ H,W i m σ H ->
 (J.stop i H/\D.nx σ H)\/(J.go i H/\∃ N:St->Hp->Prop,(∀ σ' H',N σ' H'->∃ m',m'<m/\W (i+1) m' σ' H')/\∀ x H',J.lT i H x H'->g x σ H' fun σ2 H2=>tb { D with nx:=N,ct:=N,bk:=D.nx } σ2 H2)
noncomputable def Bb (fp:List Addr) (h:Heap):List (Addr × Obj):=fp.filterMap fun b=>(h.get? b).map fun o=>(b,o)
theorem Iv {fp:List Addr}{h:Heap}{b:Addr}{o:Obj} (hb:b∈fp) (e:h.get? b=some o):(b,o)∈Bb fp h:=List.mem_filterMap.mpr ⟨b,hb,by rw [e];rfl⟩
theorem Zns {fp:List Addr}{h:Heap}{p:Addr × Obj} (hp:p∈Bb fp h):p.1∈fp/\h.get? p.1=some p.2:=by
 obtain ⟨b,hb,e⟩:=List.mem_filterMap.mp hp
 cases q:h.get? b with
 | none=>rw [q] at e;cases e
 | some o =>
  rw [q] at e
  have e':(b,o)=p:=Option.some.inj e
  subst e'
  exact ⟨hb,q⟩
theorem Inv.pinned {pins:List (Addr × Obj)}{σ:St}{H:Hp}{s:Shared}{fp:List Addr} (I:Inv X pins σ H s) (hf:∀ b∈fp,lg X pins H b) (ho:∀ b∈fp,∃ o,s.heap.get? b=some o/\∀ v,o.data≠.cell v):Inv X (pins ++ Bb fp s.heap) σ H s :=
 I.mW fun p hp=>(Zsq.mp hp).elim (fun z=>I.pin p (ZsE _ z)) fun z=>by
  obtain ⟨hb,e⟩:=Zns z
  obtain ⟨f0,f1,f2,_⟩:=hf p.1 hb
  obtain ⟨o,e',d⟩:=ho p.1 hb
  rw [e] at e';cases e'
  exact ⟨e,f0,f1,f2,d⟩
theorem Inv.gG {pins pl:List (Addr × Obj)}{σ:St}{H:Hp}{s:Shared} (I:Inv X (pins ++ pl) σ H s):Inv X pins σ H s:=I.mW fun p hp=>I.pin p (ZsE _ (ZsG _ hp))
theorem jn {iter:Expr}{body:List Stmt}{wi:TI}{g:TG}{tb:TS}{pos:Pos} (hp:PassesOwn (model X.prog X.w) X.A X.env X.xe) (hc:X.calm=true) (hi:PI X tg iter wi) (hg:PG X tg g) (hb:j7 X body tb)
  (hs:∀ x,foldedSetIterable iter X.env x=pure x:=by intro _;rfl):PS X (.For tg iter body [] pos) (fP wi g tb):=by
 intro pins s σ H D I h
 refine wpAny_For (aV (hi pins s σ H _ I h) fun v s1 h1=>aV h1 fun yt s2 h2=>?_) hs
 obtain ⟨it,fp,tn,J,H2,e,I2,T,st2,f2,W,⟨m0,w0⟩,turn⟩:=h2
 subst e
 -- what stays true of oS iterator's objects through oS loop
 have stat:∀ {H':Hp},(∀ b∈fp,H' b=none)->∀ b∈fp,lg X pins H' b:=fun hn b hb=>⟨hn b hb,(f2 b hb).2⟩
 refine codeAny_forLoop_any (fun n s'=>∃ i σ' H',Inv X pins σ' H' s'/\tn i s'.heap/\(∀ b∈fp,H' b=none)/\W i n σ' H') ?_ m0 ⟨0,σ,H2,I2,st2,fun b hb=>(f2 b hb).1,w0⟩
 rintro n s3 ⟨i,σ3,H3,I3,st3,fr3,w3⟩
 rcases turn i n σ3 H3 w3 with ⟨stop,qn⟩ | ⟨go,N,hN,step⟩
 ·refine wpAny_passesOwn hp (aV (T.done X rfl rfl rfl hc i pins s3 σ3 H3 X.xe I3 (stat fr3) st3 stop) fun r s4 ⟨hr,I4⟩=>?_)
  subst hr
  exact wpAny_execs_nil ⟨σ3,H3,I4,qn⟩
 ·refine wpAny_passesOwn hp (aV (T.item X rfl rfl rfl hc i pins s3 σ3 H3 X.xe I3 (stat fr3) st3 go) fun r s4 ⟨u,hr,h4⟩=>?_)
  subst hr
  refine wpAny_passesOwn hp (aV h4 fun _ s5 ⟨x,H5,I5,r5,y5,st5,fr5⟩=>?_)
  have I5':=I5.pinned (stat fr5) (T.obj _ _ st5)
  refine wpAny_passesOwn hp (aV (hg _ s5 σ3 H5 x u _ I5' r5 (step x H5 y5)) fun _ s6 ⟨σ6,H6,I6,q6⟩=>?_)
  refine wpAny_passesOwn hp (aV (hb _ s6 σ6 H6 _ I6 q6) fun f s7 q7=>?_)
  have again:∀ {σ7:St}{H7:Hp},Inv X (pins ++ Bb fp s5.heap) σ7 H7 s7->N σ7 H7->∃ m,m<n/\∃ i σ' H',Inv X pins σ' H' s7/\tn i s7.heap/\(∀ b∈fp,H' b=none)/\W i m σ' H':=fun {σ7 H7} I7 n7=>by
   obtain ⟨m',hm,w7⟩:=hN σ7 H7 n7
   refine ⟨m',hm,i+1,σ7,H7,I7.gG,T.keep _ _ _ st5 fun b hb o e=>(I7.pin (b,o) (ZsE _ (ZsE _ (Iv hb e)))).1,fun b hb=>?_,w7⟩
   obtain ⟨o,e,d⟩:=T.obj _ _ st5 b hb
   exact (I7.pin (b,o) (ZsE _ (ZsE _ (Iv hb e)))).2.1
  cases f with
  | next=>obtain ⟨σ7,H7,I7,n7⟩:=q7;exact again I7 n7
  | cont=>obtain ⟨σ7,H7,I7,n7⟩:=q7;exact again I7 n7
  | brk=>obtain ⟨σ7,H7,I7,q7⟩:=q7;exact ⟨σ7,H7,I7.gG,q7⟩
  | ret v=>obtain ⟨x7,σ7,H7,I7,r7,q7⟩:=q7;exact ⟨x7,σ7,H7,I7.gG,r7,q7⟩
end
theorem Zpm {K:ZrF}{a:Addr}{xs:List V}{g:TG}{tb:TS}{D:Ends}{σ:St}{H:Hp} (Pv:Nat->St->Hp->Prop) (h0:Pv 0 σ H) (hl:∀ i σ H,i<=xs.length->Pv i σ H->bg K H a xs)
  (hs:∀ i x σ H,xs[i]? = some x->Pv i σ H->g x σ H fun σ2 H2=>tb { D with nx:=Pv (i+1),ct:=Pv (i+1),bk:=D.nx } σ2 H2) (hd:∀ σ H,Pv xs.length σ H->D.nx σ H) :
  ∃ W:Nat->Nat->St->Hp->Prop,(∃ m,W 0 m σ H)/\∀ i m σ H,W i m σ H ->
   ((kD K a).stop i H/\D.nx σ H)\/((kD K a).go i H/\∃ N:St->Hp->Prop,(∀ σ' H',N σ' H'->∃ m',m'<m/\W (i+1) m' σ' H')/\∀ x H',(kD K a).lT i H x H'->g x σ H' fun σ2 H2=>tb { D with nx:=N,ct:=N,bk:=D.nx } σ2 H2):=by
 refine ⟨fun i m σ H=>m=xs.length - i/\i<=xs.length/\Pv i σ H,⟨xs.length,by simp,ZtN _,h0⟩,?_⟩
 rintro i m σ H ⟨rfl,hi,p⟩
 have q:=hl i σ H hi p
 by_cases bw:i<xs.length
 ·refine .inr ⟨⟨xs,xs[i],q,by simp [bw]⟩,Pv (i+1),fun σ' H' p'=>⟨xs.length - (i+1),by omega,rfl,bw,p'⟩,fun x H' y=>?_⟩
  obtain ⟨e,y⟩:=y
  subst e
  exact hs i x σ _ (y xs q) p
 ·have e:i=xs.length:=by omega
  subst e
  exact .inl ⟨⟨xs,q,ZtJ _⟩,hd σ H p⟩
theorem Zrh {K:ZrF}{a:Addr}{xs:List V}{g:TG}{tb:TS}{D:Ends}{σ:St}{H:Hp} (Pv:Nat->St->Hp->Prop) (h0:Pv 0 σ H) (hl:∀ i σ H,i<=xs.length->Pv i σ H->dD K H a xs)
  (hs:∀ i x σ H,xs[i]? = some x->Pv i σ H->g x σ H fun σ2 H2=>tb { D with nx:=Pv (i+1),ct:=Pv (i+1),bk:=D.nx } σ2 H2) (hd:∀ σ H,Pv xs.length σ H->D.nx σ H) :
  ∃ W:Nat->Nat->St->Hp->Prop,(∃ m,W 0 m σ H)/\∀ i m σ H,W i m σ H ->
   ((pS K a).stop i H/\D.nx σ H)\/((pS K a).go i H/\∃ N:St->Hp->Prop,(∀ σ' H',N σ' H'->∃ m',m'<m/\W (i+1) m' σ' H')/\∀ x H',(pS K a).lT i H x H'->g x σ H' fun σ2 H2=>tb { D with nx:=N,ct:=N,bk:=D.nx } σ2 H2):=by
 refine ⟨fun i m σ H=>m=xs.length - i/\i<=xs.length/\Pv i σ H,⟨xs.length,by simp,ZtN _,h0⟩,?_⟩
 rintro i m σ H ⟨rfl,hi,p⟩
 have q:=hl i σ H hi p
 by_cases bw:i<xs.length
 ·refine .inr ⟨⟨xs,xs[i],q,by simp [bw]⟩,Pv (i+1),fun σ' H' p'=>⟨xs.length - (i+1),by omega,rfl,bw,p'⟩,fun x H' y=>?_⟩
  obtain ⟨e,y⟩:=y
  subst e
  exact hs i x σ _ (y xs q) p
 ·have e:i=xs.length:=by omega
  subst e
  exact .inl ⟨⟨xs,q,ZtJ _⟩,hd σ H p⟩
theorem XQ {lo:Int}{n:Nat}{g:TG}{tb:TS}{D:Ends}{σ:St}{H:Hp} (Pv:Nat->St->Hp->Prop) (h0:Pv 0 σ H)
  (hs:∀ i σ H,i<n->Pv i σ H->g (.int (lo+i)) σ H fun σ2 H2=>tb { D with nx:=Pv (i+1),ct:=Pv (i+1),bk:=D.nx } σ2 H2) (hd:∀ σ H,Pv n σ H->D.nx σ H) :
  ∃ W:Nat->Nat->St->Hp->Prop,(∃ m,W 0 m σ H)/\∀ i m σ H,W i m σ H ->
   ((lH lo n).stop i H/\D.nx σ H)\/((lH lo n).go i H/\∃ N:St->Hp->Prop,(∀ σ' H',N σ' H'->∃ m',m'<m/\W (i+1) m' σ' H')/\∀ x H',(lH lo n).lT i H x H'->g x σ H' fun σ2 H2=>tb { D with nx:=N,ct:=N,bk:=D.nx } σ2 H2):=by
 refine ⟨fun i m σ H=>m=n - i/\i<=n/\Pv i σ H,⟨n,by simp,ZtN _,h0⟩,?_⟩
 rintro i m σ H ⟨rfl,hi,p⟩
 by_cases bw:i<n
 ·refine .inr ⟨bw,Pv (i+1),fun σ' H' p'=>⟨n - (i+1),by omega,rfl,bw,p'⟩,fun x H' y=>?_⟩
  obtain ⟨e,y⟩:=y
  subst e y
  exact hs i σ _ bw p
 ·have e:i=n:=by omega
  subst e
  exact .inl ⟨ZtJ _,hd σ H p⟩
noncomputable abbrev R2:=V->V->Hp->VK->Prop
noncomputable def ck (X:Cx) (f:Value->Value->Sem Value) (r:R2):Prop :=
 ∀ (pins:List (Addr × Obj)) (s:Shared) (σ:St) (H:Hp) (x y:V) (v u:Value) (Q:VK),Inv X pins σ H s->bf x v->bf y u->r x y H Q ->
  wpAny (model X.prog X.w) X.A (f v u) (EP X pins σ Q) X.xe s
noncomputable def Ei (X:Cx) (f:Value->Sem Value) (r:V->Hp->VK->Prop):Prop :=
 ∀ (pins:List (Addr × Obj)) (s:Shared) (σ:St) (H:Hp) (x:V) (v:Value) (Q:VK),Inv X pins σ H s->bf x v->r x H Q ->
  wpAny (model X.prog X.w) X.A (f v) (EP X pins σ Q) X.xe s
noncomputable def jE (X:Cx) (f:Value) (r:List V->Hp->VK->Prop):Prop :=
 ∀ (pins:List (Addr × Obj)) (s:Shared) (σ:St) (H:Hp) (xs:List V) (us:List Value) (Q:VK),Inv X pins σ H s->Vals xs us->r xs H Q ->
  wpAny (model X.prog X.w) X.A (call f us) (EP X pins σ Q) X.xe s
noncomputable def Oc (X:Cx) (r:V->Hp->(Bool->Hp->Prop)->Prop):Prop :=
 ∀ (pins:List (Addr × Obj)) (s:Shared) (σ:St) (H:Hp) (x:V) (v:Value) (Q:Bool->Hp->Prop),Inv X pins σ H s->bf x v->r x H Q ->
  wpAny (model X.prog X.w) X.A (truthy v) (TP X pins σ Q) X.xe s
noncomputable def ax (r:R2) (ta tb:TE):TE:=fun σ H Q=>ta σ H fun x H1=>tb σ H1 fun y H2=>r x y H2 Q
noncomputable def vT (r:V->Hp->VK->Prop) (ta:TE):TE:=fun σ H Q=>ta σ H fun x H1=>r x H1 Q
noncomputable def rI (C:Int->Int->Prop) (g:Int->Int->V):R2:=fun x y H Q=>∃ i j,x=.int i/\y=.int j/\C i j/\Q (g i j) H
noncomputable def ou (g:Int->Int->V):R2:=fun x y H Q=>∃ i j,x=.int i/\y=.int j/\Q (g i j) H
noncomputable def rU (g:Int->V):V->Hp->VK->Prop:=fun x H Q=>∃ i,x=.int i/\Q (g i) H
section
variable {X:Cx}{a b c:Expr}{ta tb tc:TE}{pos:Pos}
theorem xv (ha:PE X a ta) (hb:PE X b tb) {pins:List (Addr × Obj)}{s:Shared}{σ:St}{H:Hp}{R:V->V->Hp->Prop} (I:Inv X pins σ H s)
  (h:ta σ H fun x H1=>tb σ H1 fun y H2=>R x y H2) {Q:Value->Shared->Prop}{f:Value->Value->Sem Value}
  (hf:∀ v u s2 x y H2,Inv X pins σ H2 s2->bf x v->bf y u->R x y H2->wpAny (model X.prog X.w) X.A (f v u) Q X.xe s2) :
  wpAny (model X.prog X.w) X.A (eval a X.env) (fun v s₁=>wpAny (model X.prog X.w) X.A (eval b X.env) (fun u s₂=>wpAny (model X.prog X.w) X.A (f v u) Q X.xe s₂) X.xe s₁) X.xe s:=by
 refine aV (ha pins s σ H _ I h) fun v s1 ⟨x,H1,I1,r1,q1⟩=>?_
 refine aV (hb pins s1 σ H1 _ I1 q1) fun u s2 ⟨y,H2,I2,r2,q2⟩=>?_
 exact hf v u s2 x y H2 I2 r1 r2 q2
theorem aX {op:Operator}{r:R2} (ho:ck X (binaryOp op) r) (ha:PE X a ta) (hb:PE X b tb):PE X (.BinOp a op b pos) (ax r ta tb):=by
 intro pins s σ H Q I h
 exact wpAny_BinOp (xv ha hb I h fun v u s2 x y H2 I2 rx ry q=>ho pins s2 σ H2 x y v u Q I2 rx ry q)
theorem Ft {op:UnaryOp}{r:V->Hp->VK->Prop} (ho:Ei X (unaryOp op) r) (ha:PE X a ta):PE X (.UnaryOp op a pos) (vT r ta):=by
 intro pins s σ H Q I h
 exact UnaryOp_ (aV (ha pins s σ H _ I h) fun v s1 ⟨x,H1,I1,r1,q1⟩=>ho pins s1 σ H1 x v Q I1 r1 q1)
theorem uv {f:Value->Value->Sem Value}{C:Int->Int->Prop}{g:Int->Int->Int}
  (rule:∀ (i j:Int) (t u:Tok) (s:Shared) (Q:Value->Shared->Prop) (E:Value->Shared->Prop),C i j->Q (.int (g i j) s.toks) { s with toks:=s.toks+1 }->wpAny (model X.prog X.w) X.A (f (.int i t) (.int j u)) Q E s) :
  ck X f (rI C fun i j=>.int (g i j)):=by
 intro pins s σ H x y v u Q I rx ry h
 obtain ⟨i,j,rfl,rfl,hc,q⟩:=h
 obtain ⟨t,rfl⟩:=rx
 obtain ⟨t',rfl⟩:=ry
 exact rule i j t t' s _ _ hc ⟨.int (g i j),H,I.tok _,⟨_,rfl⟩,q⟩
theorem pM {f:Value->Value->Sem Value}{g:Int->Int->Int}
  (rule:∀ (i j:Int) (t u:Tok) (s:Shared) (Q:Value->Shared->Prop) (E:Value->Shared->Prop),Q (.int (g i j) s.toks) { s with toks:=s.toks+1 }->wpAny (model X.prog X.w) X.A (f (.int i t) (.int j u)) Q E s) :
  ck X f (ou fun i j=>.int (g i j)):=by
 intro pins s σ H x y v u Q I rx ry h
 obtain ⟨i,j,rfl,rfl,q⟩:=h
 obtain ⟨t,rfl⟩:=rx
 obtain ⟨t',rfl⟩:=ry
 exact rule i j t t' s _ _ ⟨.int (g i j),H,I.tok _,⟨_,rfl⟩,q⟩
theorem rR {f:Value->Value->Sem Value}{g:Int->Int->Bool}
  (rule:∀ (i j:Int) (t u:Tok) (s:Shared) (Q:Value->Shared->Prop) (E:Value->Shared->Prop),Q (.bool (g i j)) s->wpAny (model X.prog X.w) X.A (f (.int i t) (.int j u)) Q E s) :
  ck X f (ou fun i j=>.bl (g i j)):=by
 intro pins s σ H x y v u Q I rx ry h
 obtain ⟨i,j,rfl,rfl,q⟩:=h
 obtain ⟨t,rfl⟩:=rx
 obtain ⟨t',rfl⟩:=ry
 exact rule i j t t' s _ _ ⟨.bl (g i j),H,I,rfl,q⟩
noncomputable def hJ (i j:Int):Prop:=0<j/\j<1073741824
noncomputable def sF (i j:Int):Prop:=0<=j/\j<=1000000/\i.natAbs<2 ^ 64
noncomputable def rJ (i j:Int):Prop:=(-(2 ^ 64)<i/\i<2 ^ 64)\/(-(2 ^ 64)<j/\j<2 ^ 64)
theorem rJ.ok {i j:Int} (h:rJ i j):IntMulOk i j:=by
 rcases h with ⟨h1,h2⟩ | ⟨h1,h2⟩
 ·exact .of_left (intBits_le_64 h1 h2)
 ·exact .of_right (intBits_le_64 h1 h2)
theorem Wo (k:Nat):(0:Int)<=2 ^ k:=by
 rw [two_pow_cast]
 exact Int.natCast_nonneg _
theorem yp:ck X (binaryOp .Add) (ou fun i j=>.int (i+j)):=pM fun _ _ _ _ _ _ _ q=>add_int q
theorem vv:ck X (binaryOp .Sub) (ou fun i j=>.int (i - j)):=pM fun _ _ _ _ _ _ _ q=>sub_int q
theorem wR:ck X (binaryOp .Mult) (rI rJ fun i j=>.int (i * j)):=uv fun _ _ _ _ _ _ _ hc q=>mul_int q hc.ok
theorem WV:ck X (binaryOp .FloorDiv) (rI hJ fun i j=>.int (i / j)):=uv fun i j _ _ _ _ _ hc q=>by
 have h1:(0:Int)<j:=hc.1
 have h2:j<1073741824:=hc.2
 exact floordiv_int (by omega) (by rw [Zuf i (by omega)];exact q) (.inl (PyProof.noPylong_small (by omega)))
theorem vZ:ck X (binaryOp .Mod) (rI (fun _ j=>0<j) fun i j=>.int (i % j)):=uv fun i j _ _ _ _ _ hc q=>by
 have h1:(0:Int)<j:=hc
 exact mod_int' (by omega) (by rw [Int.fmod_eq_emod_of_nonneg i (by omega)];exact q)
theorem xZ:ck X (binaryOp .Pow) (rI sF fun i j=>.int (i ^ j.toNat)):=uv fun _ _ _ _ _ _ _ hc q=>pow_int_small hc.1 hc.2.1 hc.2.2 q
theorem ud:ck X (binaryOp .LShift) (rI sF fun i j=>.int (i * 2 ^ j.toNat)):=uv fun _ _ _ _ _ _ _ hc q=>lshift_int_small hc.1 hc.2.1 hc.2.2 q
theorem xw:ck X (binaryOp .RShift) (rI (fun _ j=>0<=j) fun i j=>.int (i / 2 ^ j.toNat)):=uv fun i j _ _ _ _ _ hc q =>
 rshift_int hc (by rw [Zuf i (Wo _)];exact q)
theorem wj:ck X (binaryOp .BitAnd) (ou fun i j=>.int (Builtin.bitAnd i j)):=pM fun _ _ _ _ _ _ _ q=>and_int q
theorem Fy:ck X (binaryOp .BitOr) (ou fun i j=>.int (Builtin.bitOr i j)):=pM fun _ _ _ _ _ _ _ q=>or_int q
theorem vS:ck X (binaryOp .BitXor) (ou fun i j=>.int (Builtin.bitXor i j)):=pM fun _ _ _ _ _ _ _ q=>xor_int q
theorem XE {f:Value->Sem Value}{g:Int->Int}
  (rule:∀ (i:Int) (t:Tok) (s:Shared) (Q:Value->Shared->Prop) (E:Value->Shared->Prop),Q (.int (g i) s.toks) { s with toks:=s.toks+1 }->wpAny (model X.prog X.w) X.A (f (.int i t)) Q E s) :
  Ei X f (rU fun i=>.int (g i)):=by
 intro pins s σ H x v Q I rx h
 obtain ⟨i,rfl,q⟩:=h
 obtain ⟨t,rfl⟩:=rx
 exact rule i t s _ _ ⟨.int (g i),H,I.tok _,⟨_,rfl⟩,q⟩
theorem wI:Ei X (unaryOp .USub) (rU fun i=>.int (-i)):=XE fun _ _ _ _ _ q=>neg_int q
end
noncomputable def CO:V->V->Bool
 | .non,.non=>true | .non,.int _=>true | .int _,.non=>true | .non,.bl _=>true | .bl _,.non=>true | .non,.str _=>true | .str _,.non=>true
 | .int _,.int _=>true | .bl _,.bl _=>true | .str _,.str _=>true | .byt _,.byt _=>true
 | .int _,.str _=>true | .str _,.int _=>true | .bl _,.str _=>true | .str _,.bl _=>true
 | _,_=>false
noncomputable def V4:R2:=fun x y H Q=>CO x y=true/\Q (.bl (decide (x=y))) H
noncomputable def RL:R2:=fun x y H Q=>CO x y=true/\Q (.bl (!decide (x=y))) H
theorem Ri {i j:Int}:decide (V.int i=V.int j)=(i == j):=by
 rw [Zuo]
 simp
theorem UU {i j:Bool}:decide (V.bl i=V.bl j)=(i == j):=by
 rw [Zuo]
 simp
theorem QG {i j:Str}:decide (V.str i=V.str j)=(i == j):=by
 rw [Zuo]
 simp
theorem Q1 {i j:Array UInt8}:decide (V.byt i=V.byt j)=(i.toList == j.toList):=by
 rw [Zuo]
 cases i
 cases j
 simp
section
variable {X:Cx}{a b c:Expr}{ta tb tc:TE}{pos:Pos}
theorem fO {pins:List (Addr × Obj)}{σ:St}{H:Hp}{s:Shared}{Q:VK}{k k':Bool} (I:Inv X pins σ H s) (q:Q (.bl k) H) (e:k=k'):EP X pins σ Q (.bool k') s:=by
 subst e
 exact ⟨.bl k,H,I,rfl,q⟩
theorem Ek:ck X (compareOp .Eq) V4:=by
 intro pins s σ H x y v u Q I rx ry h
 obtain ⟨hs,q⟩:=h
 cases x with
 | non =>
  cases rx
  cases y with
  | non=>cases ry;exact PySem.EqNone.eq_none_none (fO I q (by simp))
  | bl j=>cases ry;exact PySem.EqNone.eq_none_bool (fO I q (by simp))
  | int j=>obtain ⟨t',rfl⟩:=ry;exact PySem.EqNone.eq_none_int (fO I q (by simp))
  | str j=>obtain ⟨t',rfl⟩:=ry;exact PySem.EqNone.eq_none_str (fO I q (by simp))
  | _=>exact absurd (show false=true from hs) Zum
 | bl i =>
  cases rx
  cases y with
  | non=>cases ry;exact PySem.EqNone.eq_bool_none (fO I q (by simp))
  | bl j=>cases ry;exact eq_bool (fO I q UU)
  | str j=>obtain ⟨t',rfl⟩:=ry;exact PySem.EqMixed.eq_bool_str (fO I q (by simp))
  | _=>exact absurd (show false=true from hs) Zum
 | int i =>
  obtain ⟨t,rfl⟩:=rx
  cases y with
  | non=>cases ry;exact PySem.EqNone.eq_int_none (fO I q (by simp))
  | int j=>obtain ⟨t',rfl⟩:=ry;exact eq_int (fO I q Ri)
  | str j=>obtain ⟨t',rfl⟩:=ry;exact PySem.EqMixed.eq_int_str (fO I q (by simp))
  | _=>exact absurd (show false=true from hs) Zum
 | str i =>
  obtain ⟨t,rfl⟩:=rx
  cases y with
  | non=>cases ry;exact PySem.EqNone.eq_str_none (fO I q (by simp))
  | bl j=>cases ry;exact PySem.EqMixed.eq_str_bool (fO I q (by simp))
  | int j=>obtain ⟨t',rfl⟩:=ry;exact PySem.EqMixed.eq_str_int (fO I q (by simp))
  | str j=>obtain ⟨t',rfl⟩:=ry;exact eq_str (fO I q QG)
  | _=>exact absurd (show false=true from hs) Zum
 | byt i =>
  obtain ⟨t,rfl⟩:=rx
  cases y with
  | byt j=>obtain ⟨t',rfl⟩:=ry;exact PySem.W.eq_bytes (fO I q Q1)
  | _=>exact absurd (show false=true from hs) Zum
 | _=>cases y <;> exact absurd (show false=true from hs) Zum
theorem Ea:ck X (compareOp .NotEq) RL:=by
 intro pins s σ H x y v u Q I rx ry h
 obtain ⟨hs,q⟩:=h
 cases x with
 | non =>
  cases rx
  cases y with
  | non=>cases ry;exact PySem.EqNone.ne_none_none (fO I q (by simp))
  | bl j=>cases ry;exact PySem.EqNone.ne_none_bool (fO I q (by simp))
  | int j=>obtain ⟨t',rfl⟩:=ry;exact PySem.EqNone.ne_none_int (fO I q (by simp))
  | str j=>obtain ⟨t',rfl⟩:=ry;exact PySem.EqNone.ne_none_str (fO I q (by simp))
  | _=>exact absurd (show false=true from hs) Zum
 | bl i =>
  cases rx
  cases y with
  | non=>cases ry;exact PySem.EqNone.ne_bool_none (fO I q (by simp))
  | bl j=>cases ry;exact ne_bool (fO I q (congrArg not UU))
  | str j=>obtain ⟨t',rfl⟩:=ry;exact PySem.EqMixed.ne_bool_str (fO I q (by simp))
  | _=>exact absurd (show false=true from hs) Zum
 | int i =>
  obtain ⟨t,rfl⟩:=rx
  cases y with
  | non=>cases ry;exact PySem.EqNone.ne_int_none (fO I q (by simp))
  | int j=>obtain ⟨t',rfl⟩:=ry;exact ne_int (fO I q (congrArg not Ri))
  | str j=>obtain ⟨t',rfl⟩:=ry;exact PySem.EqMixed.ne_int_str (fO I q (by simp))
  | _=>exact absurd (show false=true from hs) Zum
 | str i =>
  obtain ⟨t,rfl⟩:=rx
  cases y with
  | non=>cases ry;exact PySem.EqNone.ne_str_none (fO I q (by simp))
  | bl j=>cases ry;exact PySem.EqMixed.ne_str_bool (fO I q (by simp))
  | int j=>obtain ⟨t',rfl⟩:=ry;exact PySem.EqMixed.ne_str_int (fO I q (by simp))
  | str j=>obtain ⟨t',rfl⟩:=ry;exact ne_str (fO I q (congrArg not QG))
  | _=>exact absurd (show false=true from hs) Zum
 | byt i =>
  obtain ⟨t,rfl⟩:=rx
  cases y with
  | byt j=>obtain ⟨t',rfl⟩:=ry;exact PySem.W.ne_bytes (fO I q (congrArg not Q1))
  | _=>exact absurd (show false=true from hs) Zum
 | _=>cases y <;> exact absurd (show false=true from hs) Zum
theorem B1:ck X (compareOp .Lt) (ou fun i j=>.bl (decide (i<j))):=rR fun _ _ _ _ _ _ _ q=>lt_int q
theorem Fm:ck X (compareOp .LtE) (ou fun i j=>.bl (decide (i<=j))):=rR fun _ _ _ _ _ _ _ q=>le_int q
theorem G8:ck X (compareOp .Gt) (ou fun i j=>.bl (decide (j<i))):=rR fun _ _ _ _ _ _ _ q=>gt_int q
theorem Bo:ck X (compareOp .GtE) (ou fun i j=>.bl (decide (j<=i))):=rR fun _ _ _ _ _ _ _ q=>ge_int q
theorem Z6:ck X (compareOp .In) (fun x y H Q=>∃ i j,x=.str i/\y=.str j/\Q (.bl (!(Builtin.Str.occurrences j i 0 j.length 1).isEmpty)) H):=by
 intro pins s σ H x y v u Q I rx ry h
 obtain ⟨i,j,rfl,rfl,q⟩:=h
 obtain ⟨t,rfl⟩:=rx
 obtain ⟨t',rfl⟩:=ry
 exact in_str (fO I q rfl)
theorem yP:ck X (compareOp .Is) (fun x y H Q=>y=.non/\Q (.bl (decide (x=.non))) H):=by
 intro pins s σ H x y v u Q I rx ry h
 obtain ⟨rfl,q⟩:=h
 cases ry
 refine is_none_gen (fO I q ?_)
 cases x <;> first
  | (cases rx;rfl)
  | (obtain ⟨t,rfl⟩:=rx;rfl)
theorem Yl:ck X (compareOp .IsNot) (fun x y H Q=>y=.non/\Q (.bl (!decide (x=.non))) H):=by
 intro pins s σ H x y v u Q I rx ry h
 obtain ⟨rfl,q⟩:=h
 cases ry
 refine isnot_none_gen (fO I q ?_)
 cases x <;> first
  | (cases rx;rfl)
  | (obtain ⟨t,rfl⟩:=rx;rfl)
theorem cU (b:Expr) {op:CmpOp} (h:op≠.In:=by decide) (h2:op≠.NotIn:=by decide):behindInMarks op b=false:=by
 have e1:(op == CmpOp.In)=false:=by cases op <;> first | rfl | exact absurd rfl h
 have e2:(op == CmpOp.NotIn)=false:=by cases op <;> first | rfl | exact absurd rfl h2
 cases b <;> simp [behindInMarks,e1,e2]
theorem Rk {op:CmpOp}{r:R2} (ho:ck X (compareOp op) r) (ha:PE X a ta) (hb:PE X b tb) (hm:behindInMarks op b=false):PE X (.Compare a [op] [b] pos) (ax r ta tb):=by
 intro pins s σ H Q I h
 exact wpAny_Compare1 (xv ha hb I h fun v u s2 x y H2 I2 rx ry q=>ho pins s2 σ H2 x y v u Q I2 rx ry q) hm
noncomputable def O8 (t:TE):TT:=fun σ H Q=>t σ H fun x H'=>∃ k,x=.bl k/\Q k H'
theorem ZqP {op:CmpOp}{r:R2} (ho:ck X (compareOp op) r) (ha:PE X a ta) (hb:PE X b tb) (hm:behindInMarks op b=false):PT X (.Compare a [op] [b] pos) (O8 (ax r ta tb)):=by
 intro pins s σ H Q I h
 refine wpAny_isTrue_Compare1 (aV (ha pins s σ H _ I h) fun v s1 ⟨x,H1,I1,r1,q1⟩=>aV (hb pins s1 σ H1 _ I1 q1) fun u s2 ⟨y,H2,I2,r2,q2⟩ =>
  aV (ho pins s2 σ H2 x y v u _ I2 r1 r2 q2) fun c s3 ⟨z,H3,I3,r3,k,e,q3⟩=>?_) hm
 subst e
 cases r3
 exact wpAny_truthy_bool ⟨H3,I3,q3⟩
noncomputable def OH (r r':R2) (ta tb tc:TE):TE:=fun σ H Q=>ta σ H fun x H1=>tb σ H1 fun y H2=>r x y H2 fun z H3=>∃ k,z=.bl k /\
 (if k=true then tc σ H3 fun w' H4=>r' y w' H4 Q else Q (.bl false) H3)
theorem X6 {op zj:CmpOp}{r r':R2} (ho:ck X (compareOp op) r) (lr:ck X (compareOp zj) r') (ha:PE X a ta) (hb:PE X b tb) (hc:PE X c tc)
  (hm:lastMarks [op,zj] [b,c]=false:=by with_unfolding_all rfl):PE X (.Compare a [op,zj] [b,c] pos) (OH r r' ta tb tc):=by
 intro pins s σ H Q I h
 refine Compare_chain (aV (ha pins s σ H _ I h) fun v s1 ⟨x,H1,I1,r1,q1⟩=>chain_link (aV (hb pins s1 σ H1 _ I1 q1) fun u s2 ⟨y,H2,I2,r2,q2⟩ =>
  aV (ho pins s2 σ H2 x y v u _ I2 r1 r2 q2) fun d s3 ⟨z,H3,I3,r3,k,e,q3⟩=>?_)) hm
 subst e
 cases r3
 refine wpAny_truthy_bool ?_
 cases k with
 | false=>exact ite_ff ⟨.bl false,H3,I3,rfl,q3⟩
 | true=>exact ite_tt (chain_last (aV (hc pins s3 σ H3 _ I3 q3) fun w' s4 ⟨z',H4,I4,r4,q4⟩=>lr pins s4 σ H4 y z' u w' Q I4 r2 r4 q4))
noncomputable def pz (K:ZrF) (x:V) (H:Hp) (k:Bool):Prop :=
 match x with
 | .non=>k=false
 | .bl b=>k=b
 | .int i=>k=(i != 0)
 | .str y=>y.length<=sizeLine/\k=((y.length:Int) != 0)
 | .byt y=>y.size<=sizeLine/\k=((y.size:Int) != 0)
 | .ref p=>(∃ xs,bg K H p xs/\k = !xs.isEmpty)\/(∃ xs,dD K H p xs/\k = !xs.isEmpty)\/∃ kvs,H p=some (.dK kvs)/\k = !kvs.isEmpty
 | _=>False
theorem WU {κ:Type}{kvs:List (κ × V)}{vs:List (κ × Value)} (r:KV kvs vs):(!vs.isEmpty) = !kvs.isEmpty:=by
 cases r <;> rfl
theorem QW {xs:List V}{its:List Value} (r:Vals xs its):(!its.toArray.isEmpty) = !xs.isEmpty:=by
 cases r <;> simp
theorem uy:(sizeLine:Nat)<2 ^ 63:=by rw [sizeLine_eq];decide
theorem wy:Oc X (fun x H Q=>∃ k,pz X.K x H k/\Q k H):=by
 intro pins s σ H x v Q I rx h
 obtain ⟨k,e,q⟩:=h
 have hl:=uy
 have hs:sizeLine=16777216:=sizeLine_eq
 cases x with
 | non =>
  cases rx
  have e':k=false:=e
  subst e'
  exact truthy_none ⟨H,I,q⟩
 | bl b =>
  cases rx
  have e':k=b:=e
  subst e'
  exact wpAny_truthy_bool ⟨H,I,q⟩
 | int i =>
  obtain ⟨t,rfl⟩:=rx
  have e':k=(i != 0):=e
  subst e'
  exact PySem.P.truthy_int ⟨H,I,q⟩
 | str y =>
  obtain ⟨t,rfl⟩:=rx
  obtain ⟨hy,e'⟩:y.length<=sizeLine/\k=((y.length:Int) != 0):=e
  subst e'
  exact PySem.P.truthy_str (by omega) ⟨H,I.tok _,q⟩
 | byt y =>
  obtain ⟨t,rfl⟩:=rx
  obtain ⟨hy,e'⟩:y.size<=sizeLine/\k=((y.size:Int) != 0):=e
  subst e'
  exact PySem.W.truthy_bytes (by omega) ⟨H,I.tok _,q⟩
 | ref p =>
  cases rx
  have e':(∃ xs,bg X.K H p xs/\k = !xs.isEmpty)\/(∃ xs,dD X.K H p xs/\k = !xs.isEmpty)\/∃ kvs,H p=some (.dK kvs)/\k = !kvs.isEmpty:=e
  rcases e' with ⟨xs,hx,e'⟩ | ⟨xs,hx,e'⟩ | ⟨kvs,hx,e'⟩
  ·subst e'
   obtain ⟨its,r,pl,hz⟩:=I.list hx
   have hlen:=r.length
   exact wpAny_truthy_list pl.isList (by simp only [Zsr];omega) ⟨H,I.tok _,by rw [QW r];exact q⟩
  ·subst e'
   obtain ⟨its,r,pl,hz⟩:=I.tuple hx
   have hlen:=r.length
   exact truthy_tuple pl (by simp only [Zsr];omega) ⟨H,I.tok _,by rw [QW r];exact q⟩
  ·subst e'
   obtain ⟨hz,hS,vs,r,m⟩:kvs.length<=sizeLine/\(p == sysModules)=false/\∃ vs,KV kvs vs/\s.heap.DictOf (ij X.prog X.w) p vs:=I.aB p _ hx
   have hlen:kvs.length=vs.length:=Paired.length r
   exact wpAny_truthy_dict hS m (by omega) ⟨H,I.tok _,by rw [WU r];exact q⟩
 | _=>exact (show False from e).elim
theorem ZoR (ha:PE X a ta) (he:∀ whole,isTrue a X.env whole=(do let v <- whole;standAt a.pos;holding [v] (truthy v))) :
  PT X a (fun σ H Q=>ta σ H fun x H'=>∃ k,pz X.K x H' k/\Q k H'):=by
 intro pins s σ H Q I h
 exact isTrue_plain (aV (ha pins s σ H _ I h) fun v s1 ⟨x,H1,I1,r1,q1⟩=>wy pins s1 σ H1 x v Q I1 r1 q1) (he _)
theorem Zmg:ck X (binaryOp .Add) (fun x y H Q=>∃ i j,x=.str i/\y=.str j/\i.length+j.length<=sizeLine/\Q (.str (i ++ j)) H):=by
 intro pins s σ H x y v u Q I rx ry h
 obtain ⟨i,j,rfl,rfl,hz,q⟩:=h
 obtain ⟨t,rfl⟩:=rx
 obtain ⟨t',rfl⟩:=ry
 exact add_str (fun t' tk=>⟨.str (i ++ j),H,I.tok _,⟨_,rfl⟩,q⟩) hz
theorem qD {x:V}{us:List Value} (r:Vals [x] us):∃ u,us=[u]/\bf x u:=by
 cases r with
 | cons r1 r2=>cases r2;exact ⟨_,rfl,r1⟩
theorem zS {x y:V}{us:List Value} (r:Vals [x,y] us):∃ u w',us=[u,w']/\bf x u/\bf y w':=by
 cases r with
 | cons r1 r2 =>
  cases r2 with
  | cons r3 r4=>cases r4;exact ⟨_,_,rfl,r1,r3⟩
theorem Za (hc:X.calm=true):jE X (.builtin "max") (fun xs H Q=>∃ i j,xs=[.int i,.int j]/\Q (.int (if j > i then j else i)) H):=by
 intro pins s σ H xs us Q I r h
 obtain ⟨i,j,rfl,q⟩:=h
 obtain ⟨u,w',rfl,⟨t,rfl⟩,⟨t',rfl⟩⟩:=zS r
 refine max_two_ints (I.ok.hd hc) fun h' tk k=>⟨_,H,I.kept k,?_,q⟩
 by_cases hj:j > i
 ·rw [if_pos hj,if_pos hj];exact ⟨_,rfl⟩
 ·rw [if_neg hj,if_neg hj];exact ⟨_,rfl⟩
theorem Zog (hc:X.calm=true):jE X (.builtin "min") (fun xs H Q=>∃ i j,xs=[.int i,.int j]/\Q (.int (if j<i then j else i)) H):=by
 intro pins s σ H xs us Q I r h
 obtain ⟨i,j,rfl,q⟩:=h
 obtain ⟨u,w',rfl,⟨t,rfl⟩,⟨t',rfl⟩⟩:=zS r
 refine min_two_ints (I.ok.hd hc) fun h' tk k=>⟨_,H,I.kept k,?_,q⟩
 by_cases hj:j<i
 ·rw [if_pos hj,if_pos hj];exact ⟨_,rfl⟩
 ·rw [if_neg hj,if_neg hj];exact ⟨_,rfl⟩
end
structure lL (h:Heap) (x dx C:Addr) (mA:Str->Option Value):Prop where
 obj:h.get? x=some (ZrO C dx)
 ns:h.Ns1 dx mA
 ne:dx≠x
theorem ZnE {h:Heap}{dx:Addr}{mA:Str->Option Value} (n:h.Ns1 dx mA):∃ od,h.get? dx=some od/\∀ name,ZrS name od=some (mA name):=by
 obtain ⟨o,es,ep,ho,hd,hk,_,hm⟩:=n
 refine ⟨o,ho,fun name=>?_⟩
 have e:=hm name
 unfold nsFind findBy at e
 rw [<- Array.find?_toList] at e
 unfold ZrS
 rw [hd]
 dsimp only
 split
 ·rename_i y q
  rw [q] at e
  exact congrArg some e
 ·rename_i q
  rw [q] at e
  have a:es.toList.any (·.refKey)=false:=by
   rw [List.any_eq_false]
   intro y hy
   obtain ⟨z,t,hkey⟩:=hk y (Array.mem_toList_iff.mp hy)
   simp [DictEntry.refKey,hkey]
  have a':¬ es.toList.any (·.refKey)=true:=by rw [a];exact Zum
  rw [if_neg a']
  exact congrArg some e
theorem lL.look {h:Heap}{x dx C:Addr}{mA:Str->Option Value} (I:lL h x dx C mA):∃ od,PySem.W.InstAt h x (ZrO C dx) C (some od)/\∀ name,ZrS name od=some (mA name) :=
 let ⟨od,ho,hl⟩:=ZnE I.ns
 ⟨od,⟨I.obj,rfl,rfl,ho⟩,hl⟩
section
variable {prog:Program}{w:World}{A:Around}{E:Value->Shared->Prop}{s:Shared}{K:ZrF}{x dx C f:Addr}{mA:Str->Option Value}{name:Str}{v:Value}
theorem Zre {expr:Bool}{Q:Value->Shared->Prop} (X:K.In s.heap) (I:lL s.heap x dx C mA) (hg:ZrQ K C name=true) (hh:ZrT K C=true)
  (ha:ZrH K (.ref C) name=some none) (hv:mA name=some v) (I0:PySem.W.handedIn v=true) (h:Q v { s with toks:=s.toks+1 }) :
  wpAny (model prog w) A (getAttr (.ref x) name expr) Q E s:=by
 obtain ⟨od,J,hl⟩:=I.look
 exact PySem.W.get_value X J (ZrW hg).1 (PySem.W.findObj_own hh ha rfl (by rw [hl,hv])) I0 h
theorem Zph {pl:Sem Bool}{Q:Value × List Value->Shared->Prop} (X:K.In s.heap) (I:lL s.heap x dx C mA) (hg:ZrQ K C name=true)
  (hf:ZrH K (.ref C) name=some (some (.ref f))) (ht:ZrU K (.ref f)=true) (hv:mA name=none) (h:Q (.ref f,[.ref x]) s) :
  wpAny (model prog w) A (getMethod (.ref x) name pl) Q E s:=by
 obtain ⟨od,J,hl⟩:=I.look
 exact PySem.W.method_fn X J (ZrW hg).1 (ZrW hg).2 hf (beq_iff_eq.mp ht) (by show (ZrS name od).map (·.isSome)=some false;rw [hl,hv];rfl) h
theorem Zqu {ns:List Str}{Q:Unit->Shared->Prop} (X:K.In s.heap) (I:lL s.heap x dx C mA)
  (hs:ZrH K (.ref C) "__setattr__" = some (some (.builtin "object.__setattr__"))) (hp:ZrX K C=true) (ht:ZrY K C name=some none) (hh:ZrT K C=true)
  (hw:PySem.Within mA ns) (hsz:ns.length<=sizeLine)
  (h:∀ h',lL h' x dx C (fun y=>if y=name then some v else mA y)->Heap.SameBut dx s.heap h'->Q () { s with heap:=h',toks:=s.toks+2 }) :
  wpAny (model prog w) A (setAttr (.ref x) name v) Q E s:=by
 obtain ⟨od,J,hl⟩:=I.look
 refine PySem.W.set_plain X J hs (PySem.W.osa_open (s:={ s with toks:=s.toks+1 }) (r:=none) X J hp ht fun b=>?_)
 obtain ⟨cd,hc,hd'⟩:=PySem.W.any_some hh
 have hx:s.heap.get? x=some ⟨.ref C,some dx,.plain,#[]⟩:=I.obj
 refine wpAny_bind (wpAny_pure (wpAny_bind (wpAny_bind (wpAny_loadPart hx (wpAny_bind (PySem.W.Looks.here (s:={ s with toks:=s.toks+1 }) (PySem.W.looks_clsIn X hc) ?_))))))
 rw [hd']
 refine wpAny_pure (a:=some dx) (wpAny_bind (wpAny_pure (wpAny_bind ?_)))
 refine wpAny_nsSet1 (s:={ s with toks:=s.toks+1 }) I.ns fun h' IY pV=>?_
 obtain ⟨oD,esD,epD,hoD,hdD,hcD⟩:=IY.count (PySem.Within.cons name v hw)
 refine wpAny_bind (wpAny_lookBehind hoD (by rw [hdD];exact pastItsLine_dict (ZtL hcD (by rw [ZsB];omega))) ?_)
 exact wpAny_pure (h _ ⟨(pV.2 _ (Ne.symm I.ne)).trans I.obj,IY,I.ne⟩ pV)
theorem Xv {R:Result->Shared->Prop}{vs:List Value}{kw:List (Str × Value)} (X:K.In s.heap) (hm:ZrZ K C=true)
  (hi:ZrH K (.ref C) "__init__" = some (some (.ref f))) (hf:PySem.W.typeIn K (.ref f)=some (.type "function"))
  (h:codeAny (model prog w) (A.under (.builtin "type.__call__" ⟨.ref C :: vs,kw⟩)) (.call (.ref f) ⟨.ref (s.heap.objs.size+1) :: vs,kw⟩) (PySem.W.InitBack (s.heap.objs.size+1) R)
   { s with heap:=(s.heap.push ZrN).push (ZrO C s.heap.objs.size) }) :
  codeAny (model prog w) A (.call (.ref C) ⟨vs,kw⟩) R s:=by
 obtain ⟨hh,g,d,t,os⟩:=s
 exact PySem.W.make_core (PySem.W.makes_of X hm) (PySem.W.looks_findIn X hi) (fun self=>PySem.W.bind_fn X self hf) (.inl rfl) h
end
noncomputable def cL (f:Str) (v:V):List (Str × V)->List (Str × V)
 | []=>[(f,v)]
 | (g,x) :: r=>if g=f then (g,v) :: r else (g,x) :: cL f v r
theorem Rl (f g:Str) (v:V):∀ fs:List (Str × V),(cL f v fs).lookup g=if g=f then some v else fs.lookup g
 | []=>by
  show Zs1 g [(f,v)]=_
  by_cases h:g=f
  ·have hb:(g == f)=true:=beq_iff_eq.mpr h
   simp only [Zs1,hb,if_pos h]
  ·have hb:(g == f)=false:=beq_eq_false_iff_ne.mpr h
   simp only [Zs1,hb,if_neg h]
 | (k,x) :: r=>by
  have ih:=Rl f g v r
  rw [show cL f v ((k,x) :: r)=(if k=f then (k,v) :: r else (k,x) :: cL f v r) from rfl]
  by_cases hk:k=f
  ·rw [if_pos hk]
   by_cases h:g=k
   ·have hb:(g == k)=true:=beq_iff_eq.mpr h
    simp only [Zs1,hb,if_pos (h.trans hk)]
   ·have hb:(g == k)=false:=beq_eq_false_iff_ne.mpr h
    simp only [Zs1,hb,if_neg (fun e:g=f=>h (e.trans hk.symm))]
  ·rw [if_neg hk]
   by_cases h:g=k
   ·have hb:(g == k)=true:=beq_iff_eq.mpr h
    simp only [Zs1,hb,if_neg (fun e:g=f=>hk (h.symm.trans e))]
   ·have hb:(g == k)=false:=beq_eq_false_iff_ne.mpr h
    simp only [Zs1,hb]
    exact ih
theorem Ms (f:Str) (v:V):∀ fs:List (Str × V),f∈(cL f v fs).map (·.1)/\∀ g,g∈fs.map (·.1)->g∈(cL f v fs).map (·.1)
 | []=>⟨by simp [cL],fun g h=>by simp at h⟩
 | (k,x) :: r=>by
  obtain ⟨i1,i2⟩:=Ms f v r
  rw [show cL f v ((k,x) :: r)=(if k=f then (k,v) :: r else (k,x) :: cL f v r) from rfl]
  by_cases hk:k=f
  ·rw [if_pos hk]
   subst hk
   exact ⟨by simp,fun g h=>by simpa using h⟩
  ·rw [if_neg hk]
   refine ⟨?_,fun g h=>?_⟩
   ·rw [Zsw]
    exact ZsD _ i1
   ·rw [Zsw] at h ⊢
    rcases Zst.mp h with e | e
    ·exact Zst.mpr (.inl e)
    ·exact ZsD _ (i2 g e)
theorem ph (f:Str) (v:V):∀ fs:List (Str × V),(cL f v fs).length<=fs.length+1
 | []=>by simp [cL]
 | (k,x) :: r=>by
  have ih:=ph f v r
  rw [show cL f v ((k,x) :: r)=(if k=f then (k,v) :: r else (k,x) :: cL f v r) from rfl]
  by_cases hk:k=f
  ·rw [if_pos hk,ZsB,ZsB];omega
  ·rw [if_neg hk,ZsB,ZsB];omega
theorem ka.some_of {v:V}{o:Option Value} (r:ka (some v) o):∃ u,o=some u/\bf v u:=by
 cases o with
 | none=>exact (show False from r).elim
 | some u=>exact ⟨u,rfl,r⟩
theorem ka.none_of {o:Option Value} (r:ka none o):o=none:=by
 cases o with
 | none=>rfl
 | some u=>exact (show False from r).elim
theorem YO {v:V}{u:Value} (r:bf v u):PySem.W.handedIn u=true:=by
 cases v with
 | non=>cases (show u=Value.none from r);rfl
 | bl b=>cases (show u=Value.bool b from r);rfl
 | int i=>obtain ⟨t,e⟩:=(show ∃ t,u=Value.int i t from r);cases e;rfl
 | str x=>obtain ⟨t,e⟩:=(show ∃ t,u=Value.str x t from r);cases e;rfl
 | byt b=>obtain ⟨t,e⟩:=(show ∃ t,u=Value.bytes b t from r);cases e;rfl
 | flt b=>obtain ⟨t,e⟩:=(show ∃ t,u=Value.float b t from r);cases e;rfl
 | ref a=>cases (show u=Value.ref a from r);rfl
 | ty n=>cases (show u=Value.type n from r);rfl
section
variable {P:Program}{w:World}{H H':Hp}{h h':Heap}{a C dx:Addr}{fs fs':List (Str × V)}
theorem Jb (aB:fJ P w H h) (e:H a=some (.ins C dx fs)):∃ mA,lL h a dx C mA/\(∀ f,ka (fs.lookup f) (mA f))/\PySem.Within mA (fs.map (·.1))/\fs.length<=1000/\H dx=some (.own a):=by
 obtain ⟨d,z,ne,ob,mA,n,r,q⟩:=(show eR P w H h a (.ins C dx fs) from aB a _ e)
 exact ⟨mA,⟨ob,n,ne⟩,r,q,z,d⟩
end
structure mw (K:ZrF) (C:Addr):Prop where
 pg:ZrQ K C Str.empty=true
 hd:ZrT K C=true
 po:ZrX K C=true
 sa:ZrH K (.ref C) "__setattr__" = some (some (.builtin "object.__setattr__"))
theorem mw.get {K:ZrF}{C:Addr} (c:mw K C) (f:Str):ZrQ K C f=true:=c.pg
noncomputable def lG (K:ZrF) (C:Addr) (f:Str):Prop:=ZrH K (.ref C) f=some none
theorem lG.EZ {K:ZrF}{C:Addr}{f:Str} (n:lG K C f):ZrY K C f=some none:=by
 unfold ZrY
 rw [show ZrH K (.ref C) f=some none from n]
 rfl
structure Con (K:ZrF) (C:Addr) (f:Str) (v:V) (u:Value):Prop where
 at_:ZrH K (.ref C) f=some (some u)
 rel:bf v u
 get:PySem.W.specialIn K u "__get__" = some none
 cp:PySem.W.copiedNames.contains f=false
structure Meth (K:ZrF) (C:Addr) (m:Str) (f:Addr):Prop where
 at_:ZrH K (.ref C) m=some (some (.ref f))
 fn:ZrU K (.ref f)=true
 kp:ZrP K (.ref f)=true
section
variable {X:Cx}{pins:List (Addr × Obj)}{σ:St}{H:Hp}{s:Shared}{a C dx:Addr}{fs:List (Str × V)}{f:Str}{v:V}{A:Around}{E:Value->Shared->Prop}
theorem ZZ {b:Bool}{Q:Value->Shared->Prop} (I:Inv X pins σ H s) (e:H a=some (.ins C dx fs)) (c:mw X.K C) (n:lG X.K C f) (l:fs.lookup f=some v)
  (h:∀ u s',Inv X pins σ H s'->bf v u->Q u s'):wpAny (model X.prog X.w) A (getAttr (.ref a) f b) Q E s:=by
 obtain ⟨mA,O,r,_,_,_⟩:=Jb I.aB e
 obtain ⟨u,hu,ru⟩:=ka.some_of (v:=v) (o:=mA f) (by rw [<- l];exact r f)
 exact Zre I.iz O (c.get f) c.hd n hu (YO ru) (h u _ (I.tok _) ru)
theorem QI {m:Str}{g:Addr}{pl:Sem Bool}{Q:Value × List Value->Shared->Prop} (I:Inv X pins σ H s) (e:H a=some (.ins C dx fs)) (c:mw X.K C) (k:Meth X.K C m g) (l:fs.lookup m=none)
  (h:Q (.ref g,[.ref a]) s):wpAny (model X.prog X.w) A (getMethod (.ref a) m pl) Q E s:=by
 obtain ⟨mA,O,r,_,_,_⟩:=Jb I.aB e
 have hn:mA m=none:=ka.none_of (by rw [<- l];exact r m)
 exact Zph I.iz O (c.get m) k.at_ k.fn hn h
theorem Zmc {y:V}{u:Value}{Q:Unit->Shared->Prop} (I:Inv X pins σ H s) (e:H a=some (.ins C dx fs)) (c:mw X.K C) (n:lG X.K C f) (hl:fs.length<1000) (ry:bf y u)
  (h:∀ s',Inv X pins σ (upd H a (.ins C dx (cL f y fs))) s'->Q () s'):wpAny (model X.prog X.w) A (setAttr (.ref a) f u) Q E s:=by
 obtain ⟨mA,O,r,wi,_,ho⟩:=Jb I.aB e
 have hz:(fs.map (·.1)).length<=sizeLine:=by rw [Zsh,sizeLine_eq];omega
 refine Zqu I.iz O c.sa c.po n.EZ c.hd wi hz fun h' O' sb=>h _ ?_
 have hd:∃ o,h'.get? dx=some o:=let ⟨o,_,_,e',_⟩:=O'.ns;⟨o,e'⟩
 refine I.write (x:=a) (e:=dx) (by rw [e];exact True.intro) (.inr ho) (fun b q hb z=>(sb.2 b hb).trans z) hd ?_
 refine ⟨by rw [aE O.ne];exact ho,?_,O.ne,O'.obj,_,O'.ns,fun g=>?_,fun g hg=>?_⟩
 ·have:=ph f y fs;omega
 ·show ka ((cL f y fs).lookup g) (if g=f then some u else mA g)
  rw [Rl]
  by_cases q:g=f
  ·rw [if_pos q,if_pos q];exact ry
  ·rw [if_neg q,if_neg q];exact r g
 ·by_cases q:g=f
  ·rw [q];exact (Ms f y fs).1
  ·refine (Ms f y fs).2 g (wi g fun z=>hg ?_)
   show (if g=f then some u else mA g)=none
   rw [if_neg q];exact z
theorem Inv.made (I:Inv X pins σ H s):Inv X pins σ (upd (upd H s.heap.objs.size (.own (s.heap.objs.size+1))) (s.heap.objs.size+1) (.ins C s.heap.objs.size []))
  { s with heap:=(s.heap.push ZrN).push (ZrO C s.heap.objs.size) }:=by
 have e1:(s.heap.push ZrN).get? s.heap.objs.size=some ZrN:=Heap.get?_push_size s.heap rfl
 have e2:((s.heap.push ZrN).push (ZrO C s.heap.objs.size)).get? (s.heap.objs.size+1)=some (ZrO C s.heap.objs.size):=by
  have:=Heap.get?_push_size (s.heap.push ZrN) (o:=ZrO C s.heap.objs.size) rfl
  rwa [Heap.size_push] at this
 have e3:(s.heap.push ZrN).Ns s.heap.objs.size (fun _=>none):=⟨ZrN,#[],_,e1,rfl,(fun e he=>absurd he (by simp)),fun _=>rfl⟩
 have I1:=I.laid (a:=s.heap.objs.size) (o:=.own (s.heap.objs.size+1)) (h':=s.heap.push ZrN) (t':=s.toks) (fun b u q=>Heap.get?_push_of_some _ q) (ZtJ _) ⟨_,e1⟩
 refine I1.laid (a:=s.heap.objs.size+1) (o:=.ins C s.heap.objs.size []) (t':=s.toks) (fun b u q=>Heap.get?_push_of_some _ q) (Nat.le_of_eq (Heap.size_push _ _)) ?_
 have ne:s.heap.objs.size≠s.heap.objs.size+1:=ZtK (ZtW _)
 refine ⟨by rw [aE ne,bR],ZtN _,ne,e2,fun _=>none,(Heap.Ns1.of_empty e3).at fun o q=>Heap.get?_push_of_some _ q,fun _=>True.intro,fun y hy=>absurd rfl hy⟩
theorem XG {prog:Program}{w:World}{env:Env}{e:Expr}{f:Str}{pos:Pos}{s:Shared}{Q:Value->Shared->Prop} (hb:attributeBase e f env (eval e env)=eval e env)
  (h:wpAny (model prog w) A (eval e env) (fun o s₁=>wpAny (model prog w) A (getAttr o f true) Q E s₁) E s):wpAny (model prog w) A (eval (.Attribute e f pos) env) Q E s :=
 Attribute_any_ h (by rw [arm_eval_Attribute,hb])
end
noncomputable def fG (K:ZrF) (ta:TE) (f:Str):TE:=fun σ H Q=>ta σ H fun x H1=>∃ a C dx fs v,x=.ref a/\H1 a=some (.ins C dx fs)/\mw K C/\lG K C f/\fs.lookup f=some v/\Q v H1
noncomputable def pE (K:ZrF) (ta tv:TE) (f:Str):TS:=fun D σ H=>tv σ H fun y H1=>ta σ H1 fun x H2=>∃ a C dx fs,x=.ref a/\H2 a=some (.ins C dx fs)/\mw K C/\lG K C f/\fs.length<1000 /\
 D.nx σ (upd H2 a (.ins C dx (cL f y fs)))
section
variable {X:Cx}{o e value:Expr}{f:Str}{pos pos' K9:Pos}{ta tv:TE}
theorem fU (he:PE X e ta) (hb:attributeBase e f X.env (eval e X.env)=eval e X.env):PE X (.Attribute e f pos) (fG X.K ta f):=by
 intro pins s σ H Q I h
 refine XG hb (aV (he pins s σ H _ I h) fun u s1 ⟨x,H1,I1,rx,a,C,dx,fs,v,ex,ea,c,n,l,q⟩=>?_)
 subst ex
 obtain rfl:u=Value.ref a:=rx
 exact ZZ I1 ea c n l fun u' s2 I2 ru=>⟨v,H1,I2,ru,q⟩
theorem rL (ha:PE X o ta) (hv:PE X value tv) (hs:swapsWith value (some (.Attribute o f pos')) pos.line X.env=pure false):PS X (.Assign [.Attribute o f pos'] value pos) (pE X.K ta tv f):=by
 intro pins s σ H D I h
 refine plainObj_wpAny_Assign_Attribute (aV (hv pins s σ H _ I h) fun u s1 ⟨y,H1,I1,ry,q⟩=>aV (ha pins s1 σ H1 _ I1 q) fun ov s2 ⟨x,H2,I2,rx,a,C,dx,fs,ex,ea,c,n,l,q2⟩=>?_) hs
 subst ex
 obtain rfl:ov=Value.ref a:=rx
 exact Zmc I2 ea c n l ry fun s3 I3=>⟨σ,_,I3,q2⟩
end
section
variable {X:Cx}{pins:List (Addr × Obj)}{σ:St}{H:Hp}{s:Shared}{A:Around}{E:Value->Shared->Prop}{Q:Value->Shared->Prop}{c:Value}{b:Bool}
inductive gB (K:ZrF) (H:Hp):V->Value->Prop where
 | non:gB K H .non (.type "NoneType")
 | bl (x:Bool):gB K H (.bl x) (.type "bool")
 | int (i:Int):gB K H (.int i) (.type "int")
 | str (x:Str):gB K H (.str x) (.type "str")
 | flt (x:UInt64):gB K H (.flt x) (.type "float")
 | lst {a:Addr}{xs:List V} (e:H a=some (.lst xs)):gB K H (.ref a) (.type "list")
 | frz {a:Addr}{o:Obj}{xs:List V} (e:H a=some (.frz o (.lst xs))):gB K H (.ref a) (.type "list")
 | tup {a:Addr}{xs:List V} (e:H a=some (.tup xs)):gB K H (.ref a) (.type "tuple")
 | dK {a:Addr}{kvs:List (Key × V)} (e:H a=some (.dK kvs)):gB K H (.ref a) (.type "dict")
 | dT {a:Addr}{kvs:List (List Key × V)} (e:H a=some (.dT kvs)):gB K H (.ref a) (.type "dict")
 | ins {a C dx:Addr}{fs:List (Str × V)} (e:H a=some (.ins C dx fs)) (cl:mw K C) (ha:ZrH K (.ref C) "__class__" = some (some (.builtin "object.__class__")))
   (hn:PySem.W.specialIn K (.builtin "object.__class__") "__get__" = some (some (.builtin "getset_descriptor.__get__"))) (UN:PySem.W.takesIn K (.builtin "object.__class__")=some true)
   (hm:PySem.W.mroIn K C (.type "object")=some true):gB K H (.ref a) (.ref C)
theorem Tu {x:V}{u t:Value} (I:Inv X pins σ H s) (rx:bf x u) (ty:gB X.K H x t) (e:Zr0 X.K t c=some b) (h:∀ tk,Q (.bool b) { s with toks:=tk }) :
  wpAny (model X.prog X.w) A (call (.builtin "isinstance") [u,c]) Q E s:=by
 cases ty with
 | non=>cases (show u=Value.none from rx);exact ZrL PySem.W.kitx_none I.iz True.intro e (fun z=>nomatch z) h
 | bl y=>cases (show u=Value.bool y from rx);exact ZrL PySem.W.kitx_bool I.iz True.intro e (fun z=>nomatch z) h
 | int i=>obtain ⟨t,q⟩:=(show ∃ t,u=Value.int i t from rx);cases q;exact ZrL PySem.W.kitx_int I.iz True.intro e (fun z=>nomatch z) h
 | str y=>obtain ⟨t,q⟩:=(show ∃ t,u=Value.str y t from rx);cases q;exact ZrL PySem.W.kitx_str I.iz True.intro e (fun z=>nomatch z) h
 | flt y=>obtain ⟨t,q⟩:=(show ∃ t,u=Value.float y t from rx);cases q;exact ZrL PySem.W.kitx_float I.iz True.intro e (fun z=>nomatch z) h
 | @lst a xs ea =>
  cases (show u=Value.ref a from rx)
  obtain ⟨_,_,n,_,h1⟩:=(show eR X.prog X.w H s.heap a (.lst xs) from I.aB a _ ea)
  exact ZrL PySem.W.kitx_list I.iz ⟨_,h1,rfl⟩ e (fun z=>nomatch z) h
 | @frz a ob xs ea =>
  cases (show u=Value.ref a from rx)
  obtain ⟨_,_,_,n,_,h1⟩:=(show eR X.prog X.w H s.heap a (.frz ob (.lst xs)) from I.aB a _ ea)
  exact ZrL PySem.W.kitx_list I.iz ⟨_,h1,rfl⟩ e (fun z=>nomatch z) h
 | @tup a xs ea =>
  cases (show u=Value.ref a from rx)
  obtain ⟨_,_,_,p⟩:=(show eR X.prog X.w H s.heap a (.tup xs) from I.aB a _ ea)
  obtain ⟨o,h1,h2,_⟩:=p
  exact ZrL PySem.W.kitx_tuple I.iz ⟨o,h1,h2⟩ e (fun z=>nomatch z) h
 | @dK a kvs ea =>
  cases (show u=Value.ref a from rx)
  obtain ⟨_,_,vs,_,p⟩:=(show eR X.prog X.w H s.heap a (.dK kvs) from I.aB a _ ea)
  obtain ⟨o,es,ep,h1,h2,_⟩:=p
  exact ZrL PySem.W.kitx_dict I.iz ⟨o,h1,h2.1⟩ e (fun z=>nomatch z) h
 | @dT a kvs ea =>
  cases (show u=Value.ref a from rx)
  obtain ⟨_,_,xs,_,o,es,ep,h1,h2,_⟩:=(show eR X.prog X.w H s.heap a (.dT kvs) from I.aB a _ ea)
  exact ZrL PySem.W.kitx_dict I.iz ⟨o,h1,h2.1⟩ e (fun z=>nomatch z) h
 | @ins a C dx fs ea cl ha hn UN hm =>
  cases (show u=Value.ref a from rx)
  obtain ⟨mA,O,_⟩:=Jb I.aB ea
  obtain ⟨od,J,_⟩:=O.look
  exact ZrL (PySem.W.kitx_own (cl.get _) cl.hd ha hn UN hm) I.iz J e (fun z=>nomatch z) h
end
structure bG (k:Nat) (A:Around):Prop where
 hd:A.handled=none
 dp:A.depth+3 * k+5<recursionLimit
 un:A.units+16 * k+200<cLine
theorem bG.mono {j k:Nat}{A:Around} (r:bG k A) (h:j<=k):bG j A:=⟨r.hd,by have:=r.dp;omega,by have:=r.un;omega⟩
theorem bG.deeper {k:Nat}{A:Around} (r:bG (k+1) A) (env:Env):bG k (A.deeper env) :=
 ⟨r.hd,by have:=r.dp;show A.depth+1+3 * k+5<_;omega,by have:=r.un;show A.units+3+16 * k+200<_;omega⟩
theorem bG.in1 {k:Nat}{A:Around} (r:bG (k+1) A):bG k A.in1 :=
 ⟨r.hd,by have:=r.dp;show A.depth+3 * k+5<_;omega,by have:=r.un;show A.units+1+16 * k+200<_;omega⟩
theorem Zml {A:Around}{C:Addr}{us:List Value}{kw:List (Str × Value)}:(A.under (.builtin "type.__call__" ⟨.ref C :: us,kw⟩)).depth=A.depth+1:=by
 first | rfl | simp [Around.under,Code.weight,Code.isCreation,Code.isGuard,Code.isCaller,Code.frames,Code.isFrame,guardIds]
theorem X1 {A:Around}{C:Addr}{us:List Value}{kw:List (Str × Value)}:(A.under (.builtin "type.__call__" ⟨.ref C :: us,kw⟩)).units=A.units+1:=by
 first | rfl | simp [Around.under,Code.cUnits,Code.frames,Code.isFrame]
theorem bG.make {k:Nat}{A:Around} (r:bG (k+1) A) (C:Addr) (us:List Value) (kw:List (Str × Value)):bG k (A.under (.builtin "type.__call__" ⟨.ref C :: us,kw⟩)) :=
 ⟨r.hd,by have:=r.dp;rw [Zml];omega,by have:=r.un;rw [X1];omega⟩
theorem bG.depth {k:Nat}{A:Around} (r:bG k A):A.depth<recursionLimit:=by have:=r.dp;omega
theorem bG.units {k:Nat}{A:Around} (r:bG k A):A.units+64<cLine:=by have:=r.un;omega
noncomputable def ar:TA:=fun _ H Q=>Q [] H
noncomputable def ah (ta:TE) (tr:TA):TA:=fun σ H Q=>ta σ H fun x H1=>tr σ H1 fun xs H2=>Q (x :: xs) H2
section
variable {X:Cx}{e:Expr}{es:List Expr}{te:TE}{t:TA}{pos:Pos}
theorem aw:PA X [] ar:=fun _ _ _ _ H Q I h=>Calls.spliced_nil ⟨[],H,I,.nil,h⟩
theorem ai (ha:PE X e te) (hr:PA X es t) (hs:starEach (e :: es) X.env=(false,eval e X.env) :: starEach es X.env:=by rfl):PA X (e :: es) (ah te t):=by
 intro pos pins s σ H Q I h
 rw [hs]
 show wpAny _ _ (spliced ((false,eval e X.env) :: backTo pos (starEach es X.env))) _ _ s
 refine Calls.spliced_cons (aV (ha pins s σ H _ I h) fun u s1 ⟨x,H1,I1,r1,q1⟩=>?_)
 exact aV (hr pos pins s1 σ H1 _ I1 q1) fun us s2 ⟨xs,H2,I2,r2,q2⟩=>⟨x :: xs,H2,I2,.cons r1 r2,q2⟩
noncomputable def kq (t:TA):TE:=fun σ H Q=>t σ H fun xs H1=>xs.length<=sizeLine/\∀ p,H1 p=none->Q (.ref p) (upd H1 p (.tup xs))
noncomputable def jo (t:TA):TE:=fun σ H Q=>t σ H fun xs H1=>xs.length<=sizeLine/\∀ p,H1 p=none->Q (.ref p) (upd H1 p (.lst xs))
theorem mF {x1} (h:PA X es t):PE X (.Tuple es x1 pos) (kq t):=by
 intro pins s σ H Q I hq
 refine wpAny_Tuple_spliced (aV (h pos pins s σ H _ I hq) fun us s1 ⟨xs,H1,I1,r,z,q⟩=>⟨by rw [<- r.length];exact z,?_⟩)
 have hf:H1 s1.heap.objs.size=none:=I1.aB.fresh (ZtJ _)
 refine ⟨.ref s1.heap.objs.size,upd H1 s1.heap.objs.size (.tup xs),I1.laid (t':=s1.toks) (fun b u e=>Heap.get?_push_of_some _ e) (ZtJ _) ?_,rfl,q _ hf⟩
 exact ⟨z,us,r,⟨_,Heap.get?_push_size _ rfl,rfl,_,rfl⟩⟩
theorem kC (h:PA X es t):PE X (.List es pos) (jo t):=by
 intro pins s σ H Q I hq
 refine wpAny_List_spliced (aV (h pos pins s σ H _ I hq) fun us s1 ⟨xs,H1,I1,r,z,q⟩=>⟨by rw [<- r.length];exact z,?_⟩)
 have hf:H1 s1.heap.objs.size=none:=I1.aB.fresh (ZtJ _)
 refine ⟨.ref s1.heap.objs.size,upd H1 s1.heap.objs.size (.lst xs),I1.laid (t':=s1.toks) (fun b u e=>Heap.get?_push_of_some _ e) (ZtJ _) ?_,rfl,q _ hf⟩
 exact ⟨z,us,0,r,Heap.get?_push_size _ rfl⟩
end
noncomputable abbrev Sp:=List V->Hp->VK->XK->Prop
noncomputable abbrev lF:=List Env->Hp->Shared->XK->Value->Shared->Prop
structure iY (P:Program) (w:World) (K:ZrF) (mg:Str->Option Value) (base:Heap) (A:Around) (outer:List Env) (s:Shared) (H:Hp):Prop where
 frames:A.frames=some outer
 mod:Mod K mg base
 bs:∀ b o,base.get? b=some o->s.heap.get? b=some o/\H b=none
 mE:base.objs.size<=s.heap.objs.size
 fF:s.heap.FunFrames base outer
 pF:∀ b∈jN outer,H b=none
 aB:fJ P w H s.heap
 bare:AllBare s.gens
noncomputable def CE (outer:List Env) (P:Program) (w:World) (H:Hp) (s:Shared) (Q:VK) (u:Value) (s':Shared):Prop :=
 ∃ v H',s'.os=s.os/\AllBare s'.gens/\Un (jN outer) [] H H' s.heap s'.heap/\fJ P w H' s'.heap/\bf v u/\Q v H'
noncomputable def CR (CX:lF) (outer:List Env) (P:Program) (w:World) (H:Hp) (s:Shared) (Q:VK) (E:XK) (r:Result) (s':Shared):Prop :=
 match r with
 | .ok (.ret u)=>CE outer P w H s Q u s'
 | .ok _=>False
 | .error e=>CX outer H s E e s'
structure aG (P:Program) (w:World) (K:ZrF) (mg:Str->Option Value) (base:Heap) (CX:lF) (k:Nat) (f:Addr) (fd:FuncData) (ps:List Str) (sp:Sp):Prop where
 len:∀ vs H Q E,sp vs H Q E->vs.length=ps.length
 run:∀ (A:Around) (outer:List Env) (s:Shared) (H:Hp) (args:Args) (us:List Value) (vs:List V) (Q:VK) (E:XK),bG k A->iY P w K mg base A outer s H->BindsTo s fd args (ps.zip us)->Vals vs us->sp vs H Q E ->
  codeAny (model P w) A (.call (.ref f) args) (CR CX outer P w H s Q E) s
theorem iY.make {P:Program}{w:World}{K:ZrF}{mg:Str->Option Value}{base:Heap}{A:Around}{outer:List Env}{s:Shared}{H:Hp} (e:iY P w K mg base A outer s H) (C:Addr) (us:List Value) (kw:List (Str × Value)) :
  iY P w K mg base (A.under (.builtin "type.__call__" ⟨.ref C :: us,kw⟩)) outer s H:=⟨by first | exact e.frames | (simpa [Around.under,Code.envs,Code.isFrame,pushEnvs] using e.frames),e.mod,e.bs,e.mE,e.fF,e.pF,e.aB,e.bare⟩
theorem iY.in1 {P:Program}{w:World}{K:ZrF}{mg:Str->Option Value}{base:Heap}{A:Around}{outer:List Env}{s:Shared}{H:Hp} (e:iY P w K mg base A outer s H) :
  iY P w K mg base A.in1 outer s H:=⟨e.frames,e.mod,e.bs,e.mE,e.fF,e.pF,e.aB,e.bare⟩
section
variable {X:Cx}{pins:List (Addr × Obj)}{σ:St}{H:Hp}{s s':Shared}
theorem Inv.DX (I:Inv X pins σ H s):iY X.prog X.w X.K X.mg X.base X.A X.stack s H :=
 ⟨I.ok.frames,I.ok.mod,I.bs,ZtL I.ok.mE I.sz,I.stack,I.iD,I.aB,I.bare⟩
theorem Inv.after {Q:VK}{u:Value} (I:Inv X pins σ H s) (h:CE X.stack X.prog X.w H s Q u s'):EP X pins σ Q u s':=by
 obtain ⟨v,H',os,bare,un,aB,r,q⟩:=h
 obtain ⟨hh,g,d,t,os'⟩:=s'
 obtain rfl:os'=s.os:=os
 exact ⟨v,H',I.call (h':=hh) (g':=g) (d':=d) (t':=t) (ch:=[]) un aB bare (fun b z=>absurd z (by simp)),r,q⟩
end
noncomputable def cB (sp:Sp) (iH:List V) (E:XK) (t:TA):TE:=fun σ H Q=>t σ H fun vs H1=>sp (vs ++ iH) H1 Q E
noncomputable def d9 (C:Addr) (m:Str) (sp:Sp) (iH:List V) (E:XK) (ta:TE) (t:TA):TE:=fun σ H Q=>ta σ H fun x H1=>∃ a dx fs,x=.ref a/\H1 a=some (.ins C dx fs)/\fs.lookup m=none /\
 t σ H1 fun vs H2=>sp (x :: (vs ++ iH)) H2 Q E
noncomputable def zL (C:Addr) (sp:Sp) (iH:List V) (E:XK) (t:TA):TE:=fun σ H Q=>t σ H fun vs H1=>∀ x dx,H1 x=none->H1 dx=none->dx≠x ->
 sp (.ref x :: (vs ++ iH)) (upd (upd H1 dx (.own x)) x (.ins C dx [])) (fun v H2=>v=.non/\Q (.ref x) H2) E
noncomputable def pk (K:ZrF) (fd:FuncData) (ps:List Str) (ds:List Value):Prop :=
 ∀ (s:Shared) (us:List Value),K.In s.heap->(us ++ ds).length=ps.length->BindsTo s fd ⟨us,[]⟩ (ps.zip (us ++ ds))
theorem pk.all {K:ZrF}{fd:FuncData}{ps:List Str} (h:∀ us:List Value,us.length=ps.length->bindArgs fd ⟨us,[]⟩=pure (ps.zip us)):pk K fd ps []:=fun s us _ hl=>by
 rw [ZsT] at hl ⊢
 exact .of_eq (h us hl)
noncomputable def qH (CX:lF) (X:Cx) (E:XK):Prop:=∀ (pins:List (Addr × Obj)) (σ:St) (H:Hp) (s:Shared) (e:Value) (s':Shared),Inv X pins σ H s->CX X.stack H s E e s'->X.xe e s'
section
variable {X:Cx}{CX:lF}{k:Nat}{f C:Addr}{fd:FuncData}{ps:List Str}{sp:Sp}{iH:List V}{ds:List Value}{E:XK}{x m:Str}{p pos apos:Pos}{e o:Expr}{es:List Expr}{ta:TE}{t:TA}
theorem PZ {pins:List (Addr × Obj)}{σ:St}{H:Hp}{s:Shared}{Q:VK}{us:List Value}{vs:List V} (F:aG X.prog X.w X.K X.mg X.base CX k f fd ps sp) (hr:bG k X.A) (hb:pk X.K fd ps ds) (hd:Vals iH ds) (hx:qH CX X E)
  (I:Inv X pins σ H s) (r:Vals vs us) (h:sp (vs ++ iH) H Q E):wpAny (model X.prog X.w) X.A (call (.ref f) us) (EP X pins σ Q) X.xe s:=by
 have r2:Vals (vs ++ iH) (us ++ ds):=r.append hd
 have hl:(us ++ ds).length=ps.length:=by rw [<- r2.length];exact F.len _ _ _ _ h
 refine wpAny_call (codeAny_mono (F.run X.A X.stack s H ⟨us,[]⟩ (us ++ ds) (vs ++ iH) Q E hr I.DX (hb s us I.iz hl) r2 h) fun r s' hq=>?_)
 cases r with
 | error e=>exact hx pins σ H s e s' I hq
 | ok fl =>
  cases fl with
  | ret u=>exact I.after hq
  | next=>exact False.elim hq
  | brk=>exact False.elim hq
  | cont=>exact False.elim hq
theorem JL (F:aG X.prog X.w X.K X.mg X.base CX k f fd ps sp) (hr:bG k X.A) (hg:Gl X x) (hm:X.mg x=some (.ref f)) (hk:ZrP X.K (.ref f)=true) (hb:pk X.K fd ps ds) (hd:Vals iH ds) (hx:qH CX X E)
  (ha:PA X (e :: es) t) (lS:(x == ("__debug__" : Str))=false:=by decide) (he:starEach (e :: es) X.env=(false,eval e X.env) :: starEach es X.env:=by rfl) (jA:(backTo pos (starEach es X.env)).any (·.1)=false:=by rfl) :
  PE X (.Call (.Name x p) (e :: es) [] pos) (cB sp iH E t):=by
 intro pins s σ H Q I h
 refine wpAny_Call_Name_kw (Hn I hg hm ?_ lS)
 refine Zr1 (h₀:=X.base) I.ok.mod.AJ hk (aV (ha pos pins s σ H _ I h) fun us s1 ⟨vs,H1,I1,r,q⟩=>⟨I1.iz,?_⟩) he jA
 exact PZ F hr hb hd hx I1 r q
theorem kB {pl:Sem Bool} (he:PE X o ta) (c:mw X.K C) (hm:Meth X.K C m f) (F:aG X.prog X.w X.K X.mg X.base CX k f fd ps sp) (hr:bG k X.A) (hb:pk X.K fd ps ds) (hd:Vals iH ds) (hx:qH CX X E) (ha:PA X (e :: es) t)
  (kj:starEach (e :: es) X.env=(false,eval e X.env) :: starEach es X.env:=by rfl) (jA:(backTo pos (starEach es X.env)).any (·.1)=false:=by rfl)
  (ht:eval (.Call (.Attribute o m apos) (e :: es) [] pos) X.env=(do
   let ov <- eval o X.env
   standAt apos.atName
   let (f,first) <- holding [ov] (getMethod ov m pl)
   callWith pos f first (backTo pos (starEach (e :: es) X.env)) (backToKw pos (keywordEach [] X.env))):=by rfl) :
  PE X (.Call (.Attribute o m apos) (e :: es) [] pos) (d9 C m sp iH E ta t):=by
 intro pins s σ H Q I h
 refine Zr4 (pl:=pl) (aV (he pins s σ H _ I h) fun u s1 ⟨x,H1,I1,rx,a,dx,fs,ex,ea,l,q⟩=>?_) ht
 subst ex
 obtain rfl:u=Value.ref a:=rx
 refine QI I1 ea c hm l ?_
 refine Zr1 (first:=[.ref a]) (h₀:=X.base) I.ok.mod.AJ hm.kp (aV (ha pos pins s1 σ H1 _ I1 q) fun us s2 ⟨vs,H2,I2,r,q2⟩=>⟨I2.iz,?_⟩) kj jA
 exact PZ (us:=.ref a :: us) (vs:=.ref a :: vs) F hr hb hd hx I2 (.cons rfl r) q2
theorem kz {pl:Sem Bool} (he:PE X o ta) (c:mw X.K C) (hm:Meth X.K C m f) (F:aG X.prog X.w X.K X.mg X.base CX k f fd ps sp) (hr:bG k X.A) (hb:pk X.K fd ps ds) (hd:Vals iH ds) (hx:qH CX X E)
  (ht:eval (.Call (.Attribute o m apos) [] [] pos) X.env=(do
   let ov <- eval o X.env
   standAt apos.atName
   let (f,first) <- holding [ov] (getMethod ov m pl)
   callWith pos f first (backTo pos (starEach [] X.env)) (backToKw pos (keywordEach [] X.env))):=by rfl) :
  PE X (.Call (.Attribute o m apos) [] [] pos) (d9 C m sp iH E ta ar):=by
 intro pins s σ H Q I h
 refine Zr4 (pl:=pl) (aV (he pins s σ H _ I h) fun u s1 ⟨x,H1,I1,rx,a,dx,fs,ex,ea,l,q⟩=>?_) ht
 subst ex
 obtain rfl:u=Value.ref a:=rx
 refine QI I1 ea c hm l ?_
 exact PySem.W.callWith_K0 (first:=[.ref a]) I1.iz hm.kp (PZ (us:=[.ref a]) (vs:=[.ref a]) F hr hb hd hx I1 (.cons rfl .nil) q)
structure Mk (K:ZrF) (C f:Addr):Prop where
 makes:ZrZ K C=true
 init:ZrH K (.ref C) "__init__" = some (some (.ref f))
 fn:ZrU K (.ref f)=true
 kp:ZrP K (.ref C)=true
theorem Xy {pins:List (Addr × Obj)}{σ:St}{H:Hp}{s:Shared}{Q:VK}{us:List Value}{vs:List V} (M:Mk X.K C f) (F:aG X.prog X.w X.K X.mg X.base CX k f fd ps sp) (hr:bG (k+1) X.A) (hb:pk X.K fd ps ds) (hd:Vals iH ds)
  (hx:qH CX X E) (I:Inv X pins σ H s) (r:Vals vs us)
  (h:∀ x dx,H x=none->H dx=none->dx≠x->sp (.ref x :: (vs ++ iH)) (upd (upd H dx (.own x)) x (.ins C dx [])) (fun v H2=>v=.non/\Q (.ref x) H2) E) :
  wpAny (model X.prog X.w) X.A (call (.ref C) us) (EP X pins σ Q) X.xe s:=by
 have hq:=h (s.heap.objs.size+1) s.heap.objs.size (I.aB.fresh (Zt0 _)) (I.aB.fresh (ZtJ _)) (ZtK (ZtW _))
 have I2:=Inv.made (C:=C) I
 have r2:Vals (V.ref (s.heap.objs.size+1) :: (vs ++ iH)) (Value.ref (s.heap.objs.size+1) :: (us ++ ds)):=.cons rfl (r.append hd)
 have hl:(Value.ref (s.heap.objs.size+1) :: us ++ ds).length=ps.length:=by
  have e:=r2.length
  rw [F.len _ _ _ _ hq] at e
  exact e.symm
 refine wpAny_call (Xv (f:=f) I.iz M.makes M.init (beq_iff_eq.mp M.fn) (codeAny_mono (F.run _ X.stack _ _ ⟨Value.ref (s.heap.objs.size+1) :: us,[]⟩ (Value.ref (s.heap.objs.size+1) :: (us ++ ds)) _ _ E (hr.make C us [])
  (I2.DX.make C us []) (hb _ (Value.ref (s.heap.objs.size+1) :: us) I2.iz hl) r2 hq) fun r s' hq'=>?_))
 cases r with
 | error e=>exact hx pins σ _ _ e s' I2 hq'
 | ok fl =>
  cases fl with
  | ret u =>
   obtain ⟨v,H',I3,rv,ev,q3⟩:=I2.after hq'
   subst ev
   exact ⟨rv,⟨V.ref (s.heap.objs.size+1),H',I3,rfl,q3⟩⟩
  | next=>exact False.elim hq'
  | brk=>exact False.elim hq'
  | cont=>exact False.elim hq'
theorem HX (M:Mk X.K C f) (F:aG X.prog X.w X.K X.mg X.base CX k f fd ps sp) (hr:bG (k+1) X.A) (hg:Gl X x) (hm:X.mg x=some (.ref C)) (hb:pk X.K fd ps ds) (hd:Vals iH ds) (hx:qH CX X E)
  (ha:PA X (e :: es) t) (lS:(x == ("__debug__" : Str))=false:=by decide) (he:starEach (e :: es) X.env=(false,eval e X.env) :: starEach es X.env:=by rfl) (jA:(backTo pos (starEach es X.env)).any (·.1)=false:=by rfl) :
  PE X (.Call (.Name x p) (e :: es) [] pos) (zL C sp iH E t):=by
 intro pins s σ H Q I h
 refine wpAny_Call_Name_kw (Hn I hg hm ?_ lS)
 refine Zr1 (h₀:=X.base) I.ok.mod.AJ M.kp (aV (ha pos pins s σ H _ I h) fun us s1 ⟨vs,H1,I1,r,q⟩=>⟨I1.iz,?_⟩) he jA
 exact Xy M F hr hb hd hx I1 r q
end
noncomputable def PK (X:Cx) (Ub:List Keyword) (t:TA):Prop :=
 ∀ (pos:Pos) (pins:List (Addr × Obj)) (s:Shared) (σ:St) (H:Hp) (Q:List V->Hp->Prop),Inv X pins σ H s->t σ H Q->wpAny (model X.prog X.w) X.A (evalAll ((backToKw pos (keywordEach Ub X.env)).map (·.2))) (AP X pins σ Q) X.xe s
section
variable {X:Cx}{CX:lF}{k:Nat}{f C:Addr}{fd:FuncData}{ps ks:List Str}{sp:Sp}{E:XK}{x m:Str}{p pos apos Zuv:Pos}{e o:Expr}{es:List Expr}{Ub:List Keyword}{te ta:TE}{t tk:TA}{nm:Option Str}
structure Ob (K:ZrF) (fd:FuncData) (ps ks:List Str) (g:List Value->List Value->List Value) (gV:List V->List V->List V):Prop where
 to:∀ (s:Shared) (us ws:List Value),K.In s.heap->(g us ws).length=ps.length->BindsTo s fd ⟨us,ks.zip ws⟩ (ps.zip (g us ws))
 rel:∀ {vs:List V}{us:List Value}{zs:List V}{ws:List Value},Vals vs us->Vals zs ws->Vals (gV vs zs) (g us ws)
variable {g:List Value->List Value->List Value}{gV:List V->List V->List V}
end
structure ak (N P:List Str) (sc:Scope):Prop where
 kind:sc.kind=.function
 co:sc.isCoroutine=false
 gen:sc.isGenerator=false
 nd:N.Nodup
 pre:N.take P.length=P
 par:∀ x∈P,sc.names.lookup x=some .local\/sc.names.lookup x=some .cell
 vw:∀ y∈sc.names,y.2≠.free
theorem RM {kindOf:Str->Option NameKind}{x:Str}:∀ {binds:List (Str × Value)}{m:Str->Option Value},(∀ v,(x,v) ∉ binds)->bindL kindOf binds m x=m x
 | [],_,_=>rfl
 | (n,v) :: r,m,h=>by
  unfold bindL
  rw [RM fun w hw=>h w (ZsD _ hw)]
  split
  ·have:x≠n:=by rintro rfl;exact h v ZsJ
   simp [this]
  ·rfl
theorem V2 {kindOf:Str->Option NameKind}{x:Str}:∀ {binds:List (Str × Value)}{m:Str->Option Value},(∀ v,(x,v) ∉ binds)->bindC kindOf binds m x=m x
 | [],_,_=>rfl
 | (n,v) :: r,m,h=>by
  unfold bindC
  rw [V2 fun w hw=>h w (ZsD _ hw)]
  split
  ·rfl
  ·have:x≠n:=by rintro rfl;exact h v ZsJ
   simp [this]
theorem U3 {kindOf:Str->Option NameKind}{x:Str}{v:Value}:∀ {P:List Str}{vs:List Value}{i:Nat}{m:Str->Option Value},P.Nodup->P[i]? = some x->vs[i]? = some v->kindOf x=some .local ->
  bindL kindOf (P.zip vs) m x=some v
 | [],_,_,_,_,h,_,_=>by simp at h
 | _ :: _,[],_,_,_,_,h,_=>by simp at h
 | p :: P,w :: vs,0,m,nd,h1,h2,hk=>by
  simp at h1 h2;subst h1;subst h2
  show bindL kindOf ((p,w) :: P.zip vs) m p=_
  unfold bindL
  rw [RM fun v hv=>(ZsX.mp nd).1 (Ztt hv).1,if_pos hk]
  simp
 | p :: P,w :: vs,i+1,m,nd,h1,h2,hk=>by
  show bindL kindOf ((p,w) :: P.zip vs) m x=_
  unfold bindL
  exact U3 (i:=i) (ZsX.mp nd).2 (by simpa using h1) (by simpa using h2) hk
theorem RZ {kindOf:Str->Option NameKind}{x:Str}{v:Value}:∀ {P:List Str}{vs:List Value}{i:Nat}{m:Str->Option Value},P.Nodup->P[i]? = some x->vs[i]? = some v->kindOf x≠some .local ->
  bindC kindOf (P.zip vs) m x=some v
 | [],_,_,_,_,h,_,_=>by simp at h
 | _ :: _,[],_,_,_,_,h,_=>by simp at h
 | p :: P,w :: vs,0,m,nd,h1,h2,hk=>by
  simp at h1 h2;subst h1;subst h2
  show bindC kindOf ((p,w) :: P.zip vs) m p=_
  unfold bindC
  rw [V2 fun v hv=>(ZsX.mp nd).1 (Ztt hv).1,if_neg hk]
  simp
 | p :: P,w :: vs,i+1,m,nd,h1,h2,hk=>by
  show bindC kindOf ((p,w) :: P.zip vs) m x=_
  unfold bindC
  exact RZ (i:=i) (ZsX.mp nd).2 (by simpa using h1) (by simpa using h2) hk
noncomputable def start (N:List Str) (vs:List V):St:=vs.map some ++ Zsp (N.length - vs.length) none
noncomputable def lB (CX:lF) (P:Program) (w:World) (K:ZrF) (mg:Str->Option Value) (base:Heap) (N:List Str) (qual:Str) (scope:Scope) (f:Addr) (cd:Value) (A:Around) (outer:List Env) (s:Shared) (H:Hp) (E:XK):Cx where
 prog:=P
 w:=w
 K:=K
 mg:=mg
 base:=base
 A:=A.deeper (envOfC qual scope s.heap.objs.size f cd)
 N:=N
 s₀:=s
 H₀:=H
 env:=envOfC qual scope s.heap.objs.size f cd
 outer:=outer
 stack:=envOfC qual scope s.heap.objs.size f cd :: outer
 ex:=[]
 calm:=true
 fn:=fun _=>true
 pn:=[]
 xe:=fun e s'=>wpAny (model P w) (A.deeper (envOfC qual scope s.heap.objs.size f cd)) (leaving (envOfC qual scope s.heap.objs.size f cd) e) (fun _ s''=>CX outer H s E e s'') (fun e' s''=>CX outer H s E e' s'') s'
theorem Rq {sc:Scope}{n:Nat}{x:Str} (h:sc.names.lookup x=some .cell):∃ c,(cellsFrom n sc.names []).lookup x=some c:=by
 have q:=Zr5 sc.names n [] (.inl h)
 exact Option.isSome_iff_exists.mp q
theorem ZQ {CX:lF}{P:Program}{w:World}{K:ZrF}{mg:Str->Option Value}{base:Heap}{N ps:List Str}{qual:Str}{scope:Scope}{f:Addr}{cd:Value}{A:Around}{outer:List Env}{s s1:Shared}{H:Hp}{E:XK}{us:List Value}{vs:List V}
  (S:ak N ps scope) (hd:A.handled=none) (e0:iY P w K mg base A outer s H) (hl:vs.length=ps.length) (r:Vals vs us)
  (x:InCallC s s.heap.objs.size (bindL (envOfC qual scope s.heap.objs.size f cd).kindOf (ps.zip us) fun _=>none) (cellsFrom (s.heap.objs.size+1) scope.names []) (bindC (envOfC qual scope s.heap.objs.size f cd).kindOf (ps.zip us) fun _=>none) s1) :
  Inv (lB CX P w K mg base N qual scope f cd A outer s H E) [] (start N vs) H s1:=by
 have jA:ps.length<=N.length:=by have:=congrArg List.length S.pre;rw [Zs6] at this;omega
 obtain ⟨h1,tk,rfl,hk⟩:=x.done
 have Dz:∀ b:Addr,b ∉ (lB CX P w K mg base N qual scope f cd A outer s H E).ex:=fun b z=>absurd (show b∈([]:List Addr) from z) (by simp)
 refine ⟨⟨e0.mod,S.kind,rfl,rfl,ZtJ _,fun y z c h1 h2=>?_,fun y hy=>?_,fun y c _ h=>?_,fun _=>hd,Around.frames_deeper e0.frames,.inr ⟨rfl,rfl⟩,fun b z=>absurd z (Dz b),e0.bs,e0.mE,fun b _ _=>Dz b,fun b z=>absurd z (Dz b),e0.fF,e0.pF⟩,
  rfl,e0.bare,Un.kept hk,⟨_,x.toInCall.ns,fun i y v h1 h2 h3=>?_⟩,fun y c h=>⟨_,x.cell y c h⟩,e0.aB.fresh (ZtJ _),fun y c h=>?_,fun p hp=>absurd (show p∈([]:List (Addr × Obj)) from hp) (by simp),e0.aB.kept hk,?_⟩
 ·exact name_of_addr x.apart (PySem.mem_of_lookup h1) (PySem.mem_of_lookup h2)
 ·have hy:scope.names.lookup y=some .cell\/scope.names.lookup y=some .free:=hy
  rcases hy with hy | hy
  ·exact Rq hy
  ·exact absurd rfl (S.vw _ (PySem.mem_of_lookup hy))
 ·exact ZtR (x.above y c (PySem.mem_of_lookup h))
 ·have hi:i<vs.length:=by
   unfold start at h2
   by_cases hi:i<vs.length
   ·exact hi
   ·rw [ZsC (by simpa using hi)] at h2
    rw [Ztf] at h2
    split at h2 <;> cases h2
  have ha:vs[i]? = some v:=by
   unfold start at h2
   rw [ZsA (by simpa using hi),Zsu] at h2
   cases e:vs[i]? with
   | none=>rw [e] at h2;cases h2
   | some a=>rw [e] at h2;cases h2;rfl
  obtain ⟨u,hu,rv⟩:=r.get ha
  have hp:ps[i]? = some y:=by
   rw [<- S.pre,ZtC (by omega)];exact h1
  have QH:ps.Nodup:=by rw [<- S.pre];exact S.nd.sublist (List.take_sublist _ _)
  refine ⟨u,rv,?_⟩
  rcases S.par y (Zsz hp) with k | k
  ·exact .inl ⟨k,U3 QH hp hu k⟩
  ·obtain ⟨c,e⟩:=Rq (n:=s.heap.objs.size+1) k
   refine .inr ⟨.inl k,c,e,?_⟩
   have q:=x.cell y c e
   rw [RZ QH hp hu (by show scope.names.lookup y≠_;rw [k];decide)] at q
   exact q
 ·exact e0.aB.fresh (ZtR (x.above y c (PySem.mem_of_lookup h)))
 ·unfold start
  show _=N.length
  rw [Zsm,Zsh,ZsM]
  omega
theorem sN {CX:lF}{P:Program}{w:World}{K:ZrF}{mg:Str->Option Value}{base:Heap}{k:Nat}{f:Addr}{name qual:Str}{params:Arguments}{body:List Stmt}{scope:Scope}{dV kV doc pm bU ct oc:Value}{an od:Option Addr}
  {mL:Array (Option Value)}{N ps:List Str}{sp:Sp} (lk:K.lookup f=some ⟨oc,od,.func (ZrK name qual params body scope dV kV doc pm an bU ct),mL⟩) (mD:ZrR K bU qual=true) (S:ak N ps scope)
  (len:∀ vs H Q E,sp vs H Q E->vs.length=ps.length)
  (kU:∀ (A:Around) (outer:List Env) (s:Shared) (H:Hp) (vs:List V) (Q:VK) (E:XK),bG k (A.deeper (envOfC qual scope s.heap.objs.size f bU))->sp vs H Q E ->
   ∃ t,j7 (lB CX P w K mg base N qual scope f bU A outer s H E) body t/\t { nx:=fun _ H'=>Q .non H',rt:=Q } (start N vs) H) :
  aG P w K mg base CX (k+1) f (ZrK name qual params body scope dV kV doc pm an bU ct) ps sp:=by
 refine ⟨len,fun A outer s H args us vs Q E hr e0 hb r qx=>?_⟩
 have hl:=len _ _ _ _ qx
 have KX:K.In s.heap:=e0.mod.AJ.keeps fun b o e=>(e0.bs b o e).1
 have lim:s.heap.NoLimit:=e0.mod.nolimit.keeps fun b o e=>(e0.bs b o e).1
 have mZ:∀ y∈ps.zip us,scope.names.lookup y.1=some .local\/(scope.names.lookup y.1=some .cell/\((cellsFrom (s.heap.objs.size+1) scope.names []).lookup y.1).isSome=true):=fun ⟨n,v⟩ hy=>by
  rcases S.par n (Ztt hy).1 with q | q
  ·exact .inl q
  ·exact .inr ⟨q,Zr5 _ _ _ (.inl q)⟩
 refine codeAny_call_function hr.depth (KX _ _ lk) rfl S.co S.gen rfl (PySem.W.codeRec_of KX mD) (hb _ _ _ _ ?_)
 refine wpAny_newFunctionEnv_cells S.kind mZ fun env he s1 x=>?_
 subst he
 refine ⟨lim.keeps x.toInCall.keep,codeAny_func ?_⟩
 obtain ⟨t,ht,hq⟩:=kU A outer s H vs Q E (hr.deeper _) qx
 have I:Inv (lB CX P w K mg base N qual scope f bU A outer s H E) [] (start N vs) H s1:=ZQ S hr.hd e0 hl r x
 refine wpAny_mono (ht [] s1 (start N vs) H _ I hq) (fun fl s' hs=>?_) fun e s' hs=>hs
 have fin:∀ {σ':St}{H':Hp}{v:V}{u:Value},Inv (lB CX P w K mg base N qual scope f bU A outer s H E) [] σ' H' s'->bf v u->Q v H'->CE outer P w H s Q u s' :=
  fun {σ' H' v u} J rv q=>⟨v,H',J.os,J.bare,J.base,J.aB,rv,q⟩
 cases fl with
 | ret u =>
  obtain ⟨v,σ',H',J,rv,q⟩:=hs
  exact fin J rv q
 | next =>
  obtain ⟨σ',H',J,q⟩:=hs
  exact fin (v:=V.non) (u:=Value.none) J rfl q
 | brk =>
  obtain ⟨_,_,_,q⟩:=hs
  exact False.elim q
 | cont =>
  obtain ⟨_,_,_,q⟩:=hs
  exact False.elim q
section
variable {X:Cx}{x:Str}{p pos:Pos}{e:Expr}{es:List Expr}{t:TA}{id T:String}{r:List V->Hp->VK->Prop}
noncomputable def cH (r:List V->Hp->VK->Prop) (t:TA):TE:=fun σ H Q=>t σ H fun vs H1=>r vs H1 Q
theorem eV (hc:jE X (.builtin id) r) (hg:Gl X x) (hm:X.mg x=none) (hv:bootBuiltins x=some (.builtin id)) (ha:PA X (e :: es) t) (hn:x ≠ "__name__":=by decide) (lS:(x == ("__debug__" : Str))=false:=by decide)
  (he:starEach (e :: es) X.env=(false,eval e X.env) :: starEach es X.env:=by rfl) (jA:(backTo pos (starEach es X.env)).any (·.1)=false:=by rfl):PE X (.Call (.Name x p) (e :: es) [] pos) (cH r t):=by
 intro pins s σ H Q I h
 refine wpAny_Call_Name_kw (qJ I hg hm hv ?_ hn lS)
 exact PyProof.Rows.callWith_builtin1 (aV (ha pos pins s σ H _ I h) fun us s1 ⟨vs,H1,I1,r1,q1⟩=>hc pins s1 σ H1 vs us Q I1 r1 q1) he jA
theorem lK (hc:jE X (.type T) r) (hg:Gl X x) (hm:X.mg x=none) (hv:bootBuiltins x=some (.type T)) (ha:PA X (e :: es) t) (hn:x ≠ "__name__":=by decide) (lS:(x == ("__debug__" : Str))=false:=by decide)
  (he:starEach (e :: es) X.env=(false,eval e X.env) :: starEach es X.env:=by rfl) (jA:(backTo pos (starEach es X.env)).any (·.1)=false:=by rfl):PE X (.Call (.Name x p) (e :: es) [] pos) (cH r t):=by
 intro pins s σ H Q I h
 refine wpAny_Call_Name_kw (qJ I hg hm hv ?_ hn lS)
 exact PyProof.Rows.callWith_type1 (aV (ha pos pins s σ H _ I h) fun us s1 ⟨vs,H1,I1,r1,q1⟩=>hc pins s1 σ H1 vs us Q I1 r1 q1) he jA
end
end L2
namespace HT
open PySem PyProof.Rows
section
open PySem.SeqAt
open PySem.AutoSeq1 (wpAny_loadPart')
open PySem.MeetsSeq PySem.MeetsSeq2 PySem.MeetsSeq3
end
section
variable {prog:Program}{w:World}{A:Around}{E:Value->Shared->Prop}{s:Shared}
noncomputable def kA (n d:Nat):Option Int->Nat
 | none=>d
 | some v=>if v<0 then (v+(n:Int)).toNat else min v.toNat n
theorem ZH (n d k:Nat):kA n d (some (k:Int))=min k n:=by
 show (if (k:Int)<0 then ((k:Int)+(n:Int)).toNat else min (k:Int).toNat n)=min k n
 rw [if_neg (by omega),Zua]
end
end HT
namespace L2
open PySem PySem.Spec PyProof.Rows
noncomputable abbrev TO:=St->Hp->(Option Int->Hp->Prop)->Prop
noncomputable def PO (X:Cx) (e:Option Expr) (t:TO):Prop :=
 ∀ (pins:List (Addr × Obj)) (s:Shared) (σ:St) (H:Hp) (Q:Option Int->Hp->Prop),Inv X pins σ H s->t σ H Q ->
  wpAny (model X.prog X.w) X.A (evalPart e X.env) (fun u s'=>∃ o H',Inv X pins σ H' s'/\IsPart u o/\Q o H') X.xe s
noncomputable def J2:TO:=fun _ H Q=>Q none H
noncomputable def MS (t:TE):TO:=fun σ H Q=>t σ H fun x H1=>∃ i,x=.int i/\Q (some i) H1
theorem Rp {ns:List Int}:∀ {us:List Value},Vals (ns.map V.int) us->IntsAre us ns:=by
 induction ns with
 | nil=>intro us r;rw [ZsY] at r;cases r;exact .nil
 | cons n ns ih =>
  intro us r
  rw [Zsw] at r
  cases r with
  | cons r1 r2 =>
   obtain ⟨t,e⟩:=r1
   subst e
   exact .cons n t (ih r2)
section
variable {X:Cx}{e:Expr}{te:TE}{lo hi:Option Expr}{tl th:TO}{pos p2:Pos}
theorem ZqS:PO X none J2:=by
 intro pins s σ H Q I h
 rw [evalPart_none]
 exact wpAny_pure ⟨none,H,I,.none,h⟩
theorem ZqR (h:PE X e te):PO X (some e) (MS te):=by
 intro pins s σ H Q I hw
 rw [evalPart_some]
 refine aV (h pins s σ H _ I hw) fun u s1 ⟨x,H1,I1,r1,q1⟩=>?_
 obtain ⟨i,rfl,q⟩:=q1
 obtain ⟨t,rfl⟩:=r1
 exact ⟨some i,H1,I1,.int i t,q⟩
noncomputable def qX (X:Cx) (r:V->Option Int->Option Int->Hp->VK->Prop):Prop :=
 ∀ (pins:List (Addr × Obj)) (s:Shared) (σ:St) (H:Hp) (x:V) (v vl vu:Value) (lo hi:Option Int) (sl:Addr) (Q:VK),Inv X pins σ H s->bf x v->s.heap.IsSliceOf sl vl vu .none->IsPart vl lo->IsPart vu hi->r x lo hi H Q ->
  ∃ T id,typeLookup (.type T) "__getitem__" = pure (some (.builtin id))/\s.TypeIs v T/\wpAny (model X.prog X.w) X.A (getItem v (.ref sl)) (EP X pins σ Q) X.xe s
noncomputable def Jy (r:V->Option Int->Option Int->Hp->VK->Prop) (te:TE) (tl th:TO):TE:=fun σ H Q=>te σ H fun x H1=>tl σ H1 fun l H2=>th σ H2 fun u H3=>r x l u H3 Q
theorem Yd {r:V->Option Int->Option Int->Hp->VK->Prop} (hr:qX X r) (he:PE X e te) (hl:PO X lo tl) (hu:PO X hi th):PE X (.Subscript e (.Slice lo hi none p2) pos) (Jy r te tl th):=by
 intro pins s σ H Q I h
 refine Subscript_ (aV (he pins s σ H _ I h) fun v s1 ⟨x,H1,I1,r1,q1⟩=>?_)
 refine wpAny_Slice (aV (hl pins s1 σ H1 _ I1 q1) fun vl s2 ⟨l,H2,I2,pl,q2⟩=>aV (hu pins s2 σ H2 _ I2 q2) fun vu s3 ⟨u,H3,I3,pu,q3⟩=>?_)
 rw [evalPart_none]
 refine wpAny_pure ?_
 have I4:Inv X pins σ H3 { s3 with heap:=s3.heap.push { cls:=.type "slice",data:=.fields #[vl,vu,.none] } }:=I3.kept (t':=s3.toks) fun b ob q=>Heap.get?_push_of_some _ q
 obtain ⟨T,id,hT,ht,hg⟩:=hr pins { s3 with heap:=s3.heap.push { cls:=.type "slice",data:=.fields #[vl,vu,.none] } } σ H3 x v vl vu l u s3.heap.objs.size Q I4 r1 (Heap.IsSliceOf.new ..) pl pu q3
 show wpAny (model X.prog X.w) X.A (subscriptTail e (.Slice lo hi none p2) v (.ref s3.heap.objs.size)) (EP X pins σ Q) X.xe { s3 with heap:=s3.heap.push { cls:=.type "slice",data:=.fields #[vl,vu,.none] } }
 exact tail_any (ops:=[.ref s3.heap.objs.size,v]) ht hT hg (by with_unfolding_all rfl)
noncomputable def qU (xs:List V) (lo hi:Option Int):List V:=(xs.drop (HT.kA xs.length 0 lo)).take (HT.kA xs.length xs.length hi - HT.kA xs.length 0 lo)
theorem ZkZ (xs:List V) (lo hi:Option Int):(qU xs lo hi).length<=xs.length:=by
 unfold qU
 rw [Zs6,Ztu]
 omega
end
noncomputable def qc (n:Nat) (i:Int):Option Nat:=if 0<=i then (if i<n then some i.toNat else none) else if -(n:Int)<=i then some (i+n).toNat else none
noncomputable def jm {α:Type} (xs:List α) (i:Int):Option α:=(qc xs.length i).bind fun j=>xs[j]?
theorem Tt {n:Nat}{i:Int}{j:Nat} (h:qc n i=some j):seqIndex? i n=some j/\j<n /\ -(n:Int)<=i/\i<n:=by
 unfold qc at h
 by_cases h0:0<=i
 ·rw [if_pos h0] at h
  by_cases h1:i<n
  ·rw [if_pos h1] at h
   have e:i.toNat=j:=Option.some.inj h
   exact ⟨by rw [seqIndex_of h0 h1,e],by omega,by omega,h1⟩
  ·rw [if_neg h1] at h;cases h
 ·rw [if_neg h0] at h
  by_cases h1 : -(n:Int)<=i
  ·rw [if_pos h1] at h
   have e:(i+n).toNat=j:=Option.some.inj h
   exact ⟨by rw [seqIndex_neg (by omega) h1,e],by omega,h1,by omega⟩
  ·rw [if_neg h1] at h;cases h
theorem La {α:Type}{xs:List α}{i:Int}{v:α} (h:jm xs i=some v):∃ j,seqIndex? i xs.length=some j/\xs[j]? = some v/\j<xs.length /\ -(xs.length:Int)<=i/\i<xs.length:=by
 unfold jm at h
 cases e:qc xs.length i with
 | none=>rw [e] at h;cases h
 | some j =>
  rw [e] at h
  obtain ⟨h1,h2,h3,h4⟩:=Tt e
  exact ⟨j,h1,h,h2,h3,h4⟩
theorem XF {α:Type}{xs:List α}{j:Nat}{v:α} (h:xs[j]? = some v):jm xs (j:Int)=some v:=by
 have hj:j<xs.length:=(Zsk.mp h).1
 have e:qc xs.length (j:Int)=some j:=by
  unfold qc
  rw [if_pos (by omega),if_pos (by omega)];simp
 unfold jm;rw [e];exact h
noncomputable def ZD (b:Expr):Prop:=∀ o i,subscripted b false o i=operate [o,i] (getItem o i)
noncomputable def mS (X:Cx) (r:R2):Prop :=
 ∀ (value slice:Expr) (pins:List (Addr × Obj)) (s:Shared) (σ:St) (H:Hp) (x y:V) (v u:Value) (Q:VK),Inv X pins σ H s->bf x v->bf y u->r x y H Q ->
  subscripted slice false v u=operate [v,u] (getItem v u)->wpAny (model X.prog X.w) X.A (subscriptTail value slice v u) (EP X pins σ Q) X.xe s
noncomputable def Di (X:Cx) (id:String) (r:V->List V->Hp->VK->Prop):Prop :=
 ∀ (pins:List (Addr × Obj)) (s:Shared) (σ:St) (H:Hp) (x:V) (xs:List V) (v:Value) (us:List Value) (Q:VK),Inv X pins σ H s->bf x v->Vals xs us->r x xs H Q ->
  wpAny (model X.prog X.w) X.A (call (.builtin id) (v :: us)) (EP X pins σ Q) X.xe s
section
variable {X:Cx}{a b:Expr}{ta tb:TE}{pos:Pos}
theorem mS.or {r r':R2} (h:mS X r) (h':mS X r'):mS X (fun x y H Q=>r x y H Q\/r' x y H Q):=by
 intro value slice pins s σ H x y v u Q I rx ry q hs
 rcases q with q | q
 ·exact h value slice pins s σ H x y v u Q I rx ry q hs
 ·exact h' value slice pins s σ H x y v u Q I rx ry q hs
theorem fB {r:R2} (hr:mS X r) (ha:PE X a ta) (hb:PE X b tb) (hs:ZD b):PE X (.Subscript a b pos) (ax r ta tb):=by
 intro pins s σ H Q I h
 exact Subscript_ (xv ha hb I h fun v u s2 x y H2 I2 rx ry q=>hr a b pins s2 σ H2 x y v u Q I2 rx ry q (hs _ _))
noncomputable def Cb (K:ZrF):R2:=fun x y H Q=>∃ p xs i v,x=.ref p/\y=.int i/\bg K H p xs/\jm xs i=some v/\Q v H
noncomputable def Bk (K:ZrF):R2:=fun x y H Q=>∃ p xs i v,x=.ref p/\y=.int i/\dD K H p xs/\jm xs i=some v/\Q v H
noncomputable def Fi:R2:=fun x y H Q=>∃ z i c,x=.str z/\y=.int i/\z.length<=sizeLine/\jm z.cps.toList i=some c/\Q (.str ⟨#[c]⟩) H
theorem Wn:mS X (Cb X.K):=by
 intro value slice pins s σ H x y v u Q I rx ry h hs
 obtain ⟨p,xs,i,z,rfl,rfl,hq,he,q⟩:=h
 cases rx
 obtain ⟨t,rfl⟩:=ry
 obtain ⟨its,r,pl,hz⟩:=I.list hq
 obtain ⟨j,h1,h2,h3,h4,h5⟩:=La he
 obtain ⟨w,ew,rw'⟩:=r.get h2
 have hl:=r.length
 have hn:=uy
 have fin:EP X pins σ Q w s:=⟨z,H,I,rw',q⟩
 by_cases h0:0<=i
 ·have hj:i.toNat=j:=by
   rw [seqIndex_of h0 h5] at h1
   exact Option.some.inj h1
  exact item_listR pl.isList h0 (by omega) (by rw [hj];simpa using ew) fin hs
 ·have hj:(i+(its.toArray.size:Int)).toNat=j:=by
   rw [seqIndex_neg (by omega) h4] at h1
   rw [Zsr,<- hl]
   exact Option.some.inj h1
  exact subscriptTail_builtinR (x:=w) pl.isList.typeIs slot_list_getitem.lookup
   (wpAny_getItem_list_neg (Q:=fun r s'=>r=w/\EP X pins σ Q r s') pl.isList (by omega) (by rw [Zsr] <;> omega) (by omega) (by rw [hj];simpa using ew) ⟨rfl,fin⟩) hs
theorem yT:mS X (Bk X.K):=by
 intro value slice pins s σ H x y v u Q I rx ry h hs
 obtain ⟨p,xs,i,z,rfl,rfl,hq,he,q⟩:=h
 cases rx
 obtain ⟨t,rfl⟩:=ry
 obtain ⟨its,r,pl,hz⟩:=I.tuple hq
 obtain ⟨j,h1,h2,h3,h4,h5⟩:=La he
 obtain ⟨w,ew,rw'⟩:=r.get h2
 have hl:=r.length
 have hn:=uy
 have fin:EP X pins σ Q w s:=⟨z,H,I,rw',q⟩
 exact subscriptTail_builtinR (x:=w) pl.typeIs slot_tuple_getitem.lookup
  (getItem_tuple (j:=j) (Q:=fun r s'=>r=w/\EP X pins σ Q r s') pl (by omega) (by omega) (by rw [Zsr,<- hl];exact h1) (by simpa using ew) ⟨rfl,fin⟩) hs
theorem yi:mS X Fi:=by
 intro value slice pins s σ H x y v u Q I rx ry h hs
 obtain ⟨z,i,c,rfl,rfl,hz,he,q⟩:=h
 obtain ⟨t,rfl⟩:=rx
 obtain ⟨t',rfl⟩:=ry
 obtain ⟨j,h1,h2,h3,h4,h5⟩:=La he
 have hl:z.cps.toList.length=z.length:=by simp [Str.length]
 rw [hl] at h1 h4 h5
 have hn:=uy
 exact tail_any (typeIs_str s z t) slot_str_getitem.lookup (getItem_str (c:=c) (by
  have e1:decide (i < -(2 ^ 63:Int))=false:=decide_eq_false (by omega)
  have e2:decide (i ≥ 2 ^ 63)=false:=decide_eq_false (by omega)
  rw [e1,e2,Bool.or_false]) (by rw [h1];simpa using h2) ⟨.str ⟨#[c]⟩,H,I.tok _,⟨_,rfl⟩,q⟩) hs
noncomputable def YV (K:ZrF):R2:=fun x y H Q=>Cb K x y H Q\/Bk K x y H Q\/Fi x y H Q
theorem xr:mS X (YV X.K):=Wn.or (yT.or yi)
theorem WY (its:List Value) (n j:Nat) (u:Value):Obj.mapSeq (·.setIfInBounds j u) { cls:=.type "list",data:=.seq its.toArray n }={ cls:=.type "list",data:=.seq (its.set j u).toArray n }:=by
 simp [Obj.mapSeq]
theorem Inv.lst {pins:List (Addr × Obj)}{σ:St}{H:Hp}{s:Shared}{p:Addr}{xs:List V} (I:Inv X pins σ H s) (h:H p=some (.lst xs)) :
  ∃ (its:List Value) (n:Nat),Vals xs its/\s.heap.get? p=some { cls:=.type "list",data:=.seq its.toArray n }/\xs.length<=sizeLine:=by
 obtain ⟨z,its,n,r,e⟩:=I.aB p _ h
 exact ⟨its,n,r,e,z⟩
theorem Inv.yO {pins:List (Addr × Obj)}{σ:St}{H:Hp}{s:Shared}{p:Addr}{xs ys:List V}{its its':List Value}{n n':Nat}{f:Obj->Obj} (I:Inv X pins σ H s) (h:H p=some (.lst xs))
  (ho:s.heap.get? p=some { cls:=.type "list",data:=.seq its.toArray n }) (hf:f { cls:=.type "list",data:=.seq its.toArray n }={ cls:=.type "list",data:=.seq its'.toArray n' }) (r:Vals ys its') (hz:ys.length<=sizeLine) (t:Nat) :
  Inv X pins σ (upd H p (.lst ys)) { s with heap:=s.heap.update p f,toks:=t }:=by
 have e:(s.heap.update p f).get? p=some { cls:=.type "list",data:=.seq its'.toArray n' }:=by
  rw [Heap.get?_update_self f ho (by rw [hf] <;> rfl),hf]
 refine I.write (x:=p) (e:=p) (by rw [h];trivial) (.inl rfl) (fun b u hb q=>(Heap.get?_update_other _ _ (Ne.symm hb)).trans q) ⟨_,e⟩ ?_
 exact ⟨hz,its',n',r,e⟩
noncomputable def L1:V->V->V->Hp->(Hp->Prop)->Prop:=fun o i v H Q=>∃ p xs k j,o=.ref p/\i=.int k/\H p=some (.lst xs)/\qc xs.length k=some j/\Q (upd H p (.lst (xs.set j v)))
theorem UX:yl X L1:=by
 intro pins s σ H o i v ov iv u Q I ro ri rv h
 obtain ⟨p,xs,k,j,rfl,rfl,hp,hj,q⟩:=h
 cases ro
 obtain ⟨t,rfl⟩:=ri
 obtain ⟨its,n,r,ho,hz⟩:=I.lst hp
 obtain ⟨h1,h2,h3,h4⟩:=Tt hj
 have hl:=r.length
 have hn:=uy
 have I':Inv X pins σ (upd H p (.lst (xs.set j v))) { s with heap:=s.heap.update p (Obj.mapSeq (·.setIfInBounds j u)) } :=
  I.yO hp ho (WY its n j u) (r.set rv j) (by rw [List.length_set];exact hz) s.toks
 by_cases h0:0<=k
 ·have hk:k.toNat=j:=by
   rw [seqIndex_of h0 h4] at h1
   exact Option.some.inj h1
  exact PySem.W.ki_setAt ho h0 (by omega) (by rw [Zsr,<- hl];exact h4) (by rw [hk];exact ⟨_,I',q⟩)
 ·have hk:(k+(its.toArray.size:Int)).toNat=j:=by
   rw [seqIndex_neg (by omega) h3] at h1
   rw [Zsr,<- hl]
   exact Option.some.inj h1
  exact PySem.W.ki_setBack ho (by omega) (by rw [Zsr,<- hl];exact h3) (by omega) (by rw [hk];exact ⟨_,I',q⟩)
theorem Zjr (lo hi:Option Int) (n:Nat):(sliceBounds lo hi none n).1=((HT.kA n 0 lo:Nat):Int)/\(sliceBounds lo hi none n).2.1=((HT.kA n n hi:Nat):Int)/\(sliceBounds lo hi none n).2.2=1:=by
 refine ⟨?_,?_,rfl⟩
 ·cases lo with
  | none=>simp [sliceBounds,HT.kA]
  | some i =>
   simp only [sliceBounds,HT.kA,Option.getD_none,show (1:Int) > 0 by decide,if_true]
   by_cases h:i<0
   ·simp only [h,if_true] <;> omega
   ·simp only [h,if_false] <;> omega
 ·cases hi with
  | none=>simp [sliceBounds,HT.kA]
  | some i =>
   simp only [sliceBounds,HT.kA,Option.getD_none,show (1:Int) > 0 by decide,if_true]
   by_cases h:i<0
   ·simp only [h,if_true] <;> omega
   ·simp only [h,if_false] <;> omega
theorem Ziw (its:List Value) (lo hi:Option Int):slicePick its.toArray lo hi none=((its.drop (HT.kA its.length 0 lo)).take (HT.kA its.length its.length hi - HT.kA its.length 0 lo)).toArray:=by
 obtain ⟨h1,h2,h3⟩:=Zjr lo hi its.toArray.size
 unfold slicePick
 rw [h1,h2,h3]
 simp only [sliceRange_one,pick_run,Zsr] <;> rfl
noncomputable def M3 (K:ZrF):V->Option Int->Option Int->Hp->VK->Prop:=fun x lo hi H Q=>∃ a xs,x=.ref a/\bg K H a xs/\∀ p,H p=none->Q (.ref p) (upd H p (.lst (qU xs lo hi)))
theorem Zqt:qX X (M3 X.K):=by
 intro pins s σ H x v vl vu lo hi sl Q I rx hs pl pu h
 obtain ⟨a,xs,rfl,hx,q⟩:=h
 cases rx
 obtain ⟨its,r,ht,hz⟩:=I.list hx
 have hlen:=r.length
 refine ⟨"list",_,slot_list_getitem.lookup,ht.isList.typeIs,?_⟩
 refine wpAny_getItem_list_slice ht.isList hs pl pu .none (by simp) ?_ (by rw [Zsr] <;> omega)
 rw [Ziw,<- hlen]
 refine ⟨.ref s.heap.objs.size,_,I.laid (t':=s.toks) (o:=.lst (qU xs lo hi)) (fun b ob q=>Heap.get?_push_of_some _ q) (ZtJ _) ?_,rfl,q _ (I.aB.fresh (ZtJ _))⟩
 exact ⟨ZtL (ZkZ xs lo hi) hz,_,0,(r.drop (HT.kA xs.length 0 lo)).take (HT.kA xs.length xs.length hi - HT.kA xs.length 0 lo),Heap.get?_push_size _ rfl⟩
noncomputable def jG:V->Bool
 | .non=>true
 | .bl _=>true
 | .int _=>true
 | .str _=>true
 | _=>false
noncomputable def j8:V->V->Bool
 | .non,.non=>true
 | .bl a,.bl b=>a == b
 | .bl a,.int b=>(if a then 1 else 0) == b
 | .int a,.bl b=>a == (if b then 1 else 0)
 | .int a,.int b=>a == b
 | .str a,.str b=>a == b
 | _,_=>false
theorem K0 {A:Around}{s:Shared}{y x:V}{u v:Value} (ry:bf y u) (rx:bf x v) (fy:jG y=true) (fx:jG x=true):SeqAt.EqAt A s u v (j8 y x):=by
 cases y with
 | non =>
  cases ry
  cases x with
  | non=>cases rx;exact SeqAt.EqAt.same _
  | bl b=>cases rx;exact SeqAt.EqAt.none_bool b
  | int b=>obtain ⟨t,rfl⟩:=rx;exact SeqAt.EqAt.none_int b t
  | str b=>obtain ⟨t,rfl⟩:=rx;exact SeqAt.EqAt.none_str b t
  | _=>exact absurd (show false=true from fx) Zum
 | bl a =>
  cases ry
  cases x with
  | non=>cases rx;exact SeqAt.EqAt.bool_none a
  | bl b=>cases rx;exact SeqAt.EqAt.bool_bool a b
  | int b=>obtain ⟨t,rfl⟩:=rx;exact SeqAt.EqAt.bool_int a b t
  | str b=>obtain ⟨t,rfl⟩:=rx;exact SeqAt.EqAt.bool_str a b t
  | _=>exact absurd (show false=true from fx) Zum
 | int a =>
  obtain ⟨t',rfl⟩:=ry
  cases x with
  | non=>cases rx;exact SeqAt.EqAt.int_none a t'
  | bl b=>cases rx;exact SeqAt.EqAt.int_bool a t' b
  | int b=>obtain ⟨t,rfl⟩:=rx;exact SeqAt.EqAt.int_int a t' b t
  | str b=>obtain ⟨t,rfl⟩:=rx;exact SeqAt.EqAt.int_str a t' b t
  | _=>exact absurd (show false=true from fx) Zum
 | str a =>
  obtain ⟨t',rfl⟩:=ry
  cases x with
  | non=>cases rx;exact SeqAt.EqAt.str_none a t'
  | bl b=>cases rx;exact SeqAt.EqAt.str_bool a t' b
  | int b=>obtain ⟨t,rfl⟩:=rx;exact SeqAt.EqAt.str_int a t' b t
  | str b=>obtain ⟨t,rfl⟩:=rx;exact SeqAt.EqAt.str_str a t' b t
  | _=>exact absurd (show false=true from fx) Zum
 | _=>exact absurd (show false=true from fy) Zum
noncomputable def rF (x:V) (u:Value):Bool:=match u with
 | .none=>j8 .non x
 | .bool b=>j8 (.bl b) x
 | .int i _=>j8 (.int i) x
 | .str z _=>j8 (.str z) x
 | _=>false
theorem Q2 {x y:V}{u:Value} (r:bf y u) (f:jG y=true):rF x u=j8 y x:=by
 cases y with
 | non=>cases r;rfl
 | bl b=>cases r;rfl
 | int i=>obtain ⟨t,rfl⟩:=r;rfl
 | str z=>obtain ⟨t,rfl⟩:=r;rfl
 | _=>exact absurd (show false=true from f) Zum
theorem JO {x:V}:∀ {xs:List V}{us:List Value},Vals xs us->xs.all jG=true->us.any (rF x)=xs.any fun y=>j8 y x
 | _,_,.nil,_=>rfl
 | y :: xs,u :: us,.cons r t,f=>by
  rw [List.all_cons,Zun] at f
  rw [Ztg,Ztg,Q2 r f.1,JO t f.2]
theorem Lm {A:Around}{s:Shared}{x:V}{v:Value} (rx:bf x v) (fx:jG x=true):∀ {xs:List V}{us:List Value},Vals xs us->xs.all jG=true->∀ u∈us,SeqAt.EqAt A s u v (rF x u)
 | _,_,.nil,_=>fun u hu=>by cases hu
 | y :: xs,u :: us,.cons r t,f=>fun u' hu=>by
  rw [List.all_cons,Zun] at f
  rcases Zst.mp hu with rfl | hu
  ·rw [Q2 r f.1];exact K0 r rx f.1 fx
  ·exact Lm rx fx t f.2 u' hu
noncomputable def As (x:V) (xs:List V):Bool:=xs.any fun y=>j8 y x
noncomputable def Yp (K:ZrF) (neg:Bool):R2:=fun x y H Q=>∃ p xs,y=.ref p/\(bg K H p xs\/dD K H p xs)/\jG x=true/\xs.all jG=true/\Q (.bl (if neg then !As x xs else As x xs)) H
theorem Znn:ck X (compareOp .In) (Yp X.K false):=by
 intro pins s σ H x y v u Q I rx ry h
 obtain ⟨p,xs,rfl,hq,fx,fs,q⟩:=h
 cases ry
 rcases hq with hq | hq
 ·obtain ⟨its,r,pl,hz⟩:=I.list hq
  refine SeqAt.in_listAt (rF x) pl.isList (fun w hw=>Lm rx fx r fs w (by simpa using hw)) ⟨.bl _,H,I,rfl,?_⟩
  rw [show its.toArray.any (rF x)=its.any (rF x) by simp,JO r fs]
  exact q
 ·obtain ⟨its,r,pl,hz⟩:=I.tuple hq
  refine SeqAt.in_tupleAt (rF x) pl (fun w hw=>Lm rx fx r fs w (by simpa using hw)) ⟨.bl _,H,I,rfl,?_⟩
  rw [show its.toArray.any (rF x)=its.any (rF x) by simp,JO r fs]
  exact q
theorem Zh:jE X (.builtin "len") (fun xs H Q=>∃ p ys,xs=[.ref p]/\(bg X.K H p ys\/dD X.K H p ys)/\Q (.int ys.length) H):=by
 intro pins s σ H xs us Q I r h
 obtain ⟨p,ys,rfl,hq,q⟩:=h
 obtain ⟨u,rfl,rx⟩:=qD r
 cases rx
 have hn:=uy
 rcases hq with hq | hq
 ·obtain ⟨its,r',pl,hz⟩:=I.list hq
  have hlen:=r'.length
  exact Calls.call_len_list pl.isList (by simp only [Zsr] <;> omega) ⟨.int ys.length,H,I.tok _,⟨s.toks+1,by rw [Zsr,hlen]⟩,q⟩
 ·obtain ⟨its,r',pl,hz⟩:=I.tuple hq
  have hlen:=r'.length
  exact len_tuple pl (by simp only [Zsr] <;> omega) ⟨.int ys.length,H,I.tok _,⟨s.toks+1,by rw [Zsr,hlen]⟩,q⟩
theorem Zj3:jE X (.builtin "len") (fun xs H Q=>∃ z,xs=[.str z]/\z.length<=sizeLine/\Q (.int z.length) H):=by
 intro pins s σ H xs us Q I r h
 obtain ⟨z,rfl,hz,q⟩:=h
 obtain ⟨u,rfl,t,rfl⟩:=qD r
 have hn:=uy
 exact len_str (by omega) ⟨.int z.length,H,I.tok _,⟨_,rfl⟩,q⟩
theorem WK:jE X (.type "list") (fun xs H Q=>∃ p ys,xs=[.ref p]/\(bg X.K H p ys\/dD X.K H p ys)/\∀ l,H l=none->Q (.ref l) (upd H l (.lst ys))):=by
 intro pins s σ H xs us Q I r h
 obtain ⟨p,ys,rfl,hq,q⟩:=h
 obtain ⟨u,rfl,rx⟩:=qD r
 cases rx
 have fin:∀ (its:List Value),Vals ys its->ys.length<=sizeLine->∀ (h':Heap) (c':Nat),(∀ b o',s.heap.get? b=some o'->h'.get? b=some o') ->
   h'.get? s.heap.objs.size=some { cls:=.type "list",dict:=none,data:=.seq its.toArray c',slots:=#[] }->EP X pins σ Q (.ref s.heap.objs.size) { s with heap:=h' }:=fun its r' hz h' c' kp e =>
  ⟨.ref s.heap.objs.size,_,I.laid (t':=s.toks) kp (ZtJ _) (show eR X.prog X.w _ h' _ (.lst ys) from ⟨hz,its,c',r',e⟩),rfl,q _ (I.aB.fresh (ZtJ _))⟩
 rcases hq with hq | hq
 ·obtain ⟨its,r',pl,hz⟩:=I.list hq
  have hlen:=r'.length
  obtain ⟨o,ho,hc,n,hd⟩:=pl.isList
  exact call_list_seq p (.inl rfl) ho hc hd (fun h' c' kp e=>fin its r' hz h' c' kp e) (by simp only [Zsr] <;> omega)
 ·obtain ⟨its,r',pl,hz⟩:=I.tuple hq
  have hlen:=r'.length
  obtain ⟨o,ho,hc,n,hd⟩:=pl
  exact call_list_seq p (.inr rfl) ho hc hd (fun h' c' kp e=>fin its r' hz h' c' kp e) (by simp only [Zsr] <;> omega)
theorem Zi6:jE X (.type "tuple") (fun xs H Q=>∃ p ys,xs=[.ref p]/\((bg X.K H p ys/\∀ l,H l=none->Q (.ref l) (upd H l (.tup ys)))\/(dD X.K H p ys/\Q (.ref p) H))):=by
 intro pins s σ H xs us Q I r h
 obtain ⟨p,ys,rfl,h⟩:=h
 obtain ⟨u,rfl,rx⟩:=qD r
 cases rx
 rcases h with ⟨hq,q⟩ | ⟨hq,q⟩
 ·obtain ⟨its,r',pl,hz⟩:=I.list hq
  have hlen:=r'.length
  refine call_tuple_list pl.isList (fun h' kp=>?_) (by simp only [Zsr] <;> omega)
  have I1:Inv X pins σ H { s with heap:=h' }:=I.kept (t':=s.toks) kp
  have I2:Inv X pins σ (upd H h'.objs.size (.tup ys)) { s with heap:=h'.push { cls:=.type "tuple",data:=.seq its.toArray } } :=
   I1.laid (t':=s.toks) (fun b o e=>Heap.get?_push_of_some _ e) (ZtJ _) (show eR X.prog X.w _ _ _ (.tup ys) from ⟨hz,its,r',IsTup.new _ _⟩)
  exact ⟨.ref h'.objs.size,_,I2,rfl,q _ (I1.aB.fresh (ZtJ _))⟩
 ·obtain ⟨its,r',pl,hz⟩:=I.tuple hq
  exact call_tuple_same pl ⟨.ref p,H,I,rfl,q⟩
noncomputable def Ji (K:ZrF) (T:String) (x:V) (H:Hp):Prop:=match x with
 | .str _=>T = "str"
 | .int _=>T = "int"
 | .ref p=>(T = "list" /\ ∃ xs,bg K H p xs)\/(T = "tuple" /\ ∃ o,K.lookup p=some o/\o.cls=.type "tuple" /\ o.dict=none) \/
   (T = "dict" /\ ((∃ kvs,H p=some (.dK kvs))\/∃ kvs,H p=some (.dT kvs)))\/(T = "set" /\ ∃ S n,H p=some (.set S n))
 | _=>False
theorem P9 {pins:List (Addr × Obj)}{σ:St}{H:Hp}{s:Shared}{T:String}{x:V}{v:Value} (I:Inv X pins σ H s) (r:bf x v) (ty:Ji X.K T x H) :
  s.TypeIs v T/\∀ a,v=.ref a->∃ ob,s.heap.get? a=some ob/\ob.dict=none:=by
 cases x with
 | str z =>
  obtain ⟨t,rfl⟩:=r
  cases (show T = "str" from ty)
  exact ⟨typeIs_str s z t,fun _ e=>nomatch e⟩
 | int i =>
  obtain ⟨t,rfl⟩:=r
  cases (show T = "int" from ty)
  exact ⟨typeIs_int s i t,fun _ e=>nomatch e⟩
 | ref p =>
  cases r
  rcases ty with ⟨rfl,xs,hq⟩ | ⟨rfl,o,hk,hc,hd⟩ | ⟨rfl,hk⟩ | ⟨rfl,S,n,hk⟩
  ·obtain ⟨its,_,pl,_⟩:=I.list hq
   refine ⟨pl.isList.typeIs,fun a e=>?_⟩
   cases e
   obtain ⟨o,n,e,c,hd,_⟩:=pl
   exact ⟨o,e,hd⟩
  ·refine ⟨⟨o,I.iz p o hk,hc⟩,fun a e=>?_⟩
   cases e
   exact ⟨o,I.iz _ o hk,hd⟩
  ·have z:∃ o,s.heap.get? p=some o/\o.ExactDict:=by
    rcases hk with ⟨kvs,hk⟩ | ⟨kvs,hk⟩
    ·obtain ⟨_,_,_,_,o,_,_,e,ex,_⟩:=I.aB p _ hk
     exact ⟨o,e,ex⟩
    ·obtain ⟨_,_,_,_,o,_,_,e,ex,_⟩:=I.aB p _ hk
     exact ⟨o,e,ex⟩
   obtain ⟨o,e,ex⟩:=z
   refine ⟨⟨o,e,ex.1⟩,fun a e2=>?_⟩
   cases e2
   exact ⟨o,e,ex.2.1⟩
  ·obtain ⟨o,_,_,_,e,ex,_⟩:=I.aB p _ hk
   refine ⟨⟨o,e,ex.1⟩,fun a e2=>?_⟩
   cases e2
   exact ⟨o,e,ex.2.1⟩
 | _=>exact False.elim ty
noncomputable def pb (K:ZrF) (T:String) (r:V->List V->Hp->VK->Prop) (to:TE):TE:=fun σ H Q=>to σ H fun x H1=>Ji K T x H1/\r x [] H1 Q
noncomputable def pG (K:ZrF) (T:String) (r:V->List V->Hp->VK->Prop) (to:TE) (t:TA):TE:=fun σ H Q=>to σ H fun x H1=>Ji K T x H1/\t σ H1 fun xs H2=>r x xs H2 Q
variable {o e:Expr}{es:List Expr}{to:TE}{t:TA}{name:Str}{apos cg:Pos}{T id:String}{r:V->List V->Hp->VK->Prop}
theorem MU (pa:PlainAttrs T) (slot:Slot T name id) (KL:typeOf (.builtin id)=pure (.type "method_descriptor")) (hm:Di X id r) (ho:PE X o to)
  (kQ:attributeBase o name X.env (eval o X.env)=eval o X.env:=by rfl) (pH:(apos.endLine == cg.line)=true:=by rfl):PE X (.Call (.Attribute o name apos) [] [] cg) (pb X.K T r to):=by
 intro pins s σ H Q I h
 refine wpAny_Call_method0_late kQ pH (aV (ho pins s σ H _ I h) fun v s1 ⟨x,H1,I1,r1,ty,q1⟩=>?_)
 obtain ⟨h1,h2⟩:=P9 I1 r1 ty
 exact ⟨T,id,pa,slot,KL,h1,h2,Calls.callWith_builtin rfl (PySem.evalArgs_none (hm pins s1 σ H1 x [] v [] Q I1 r1 .nil q1))⟩
theorem tE (pa:PlainAttrs T) (slot:Slot T name id) (KL:typeOf (.builtin id)=pure (.type "method_descriptor")) (hm:Di X id r) (ho:PE X o to) (ha:PA X (e :: es) t)
  (kQ:attributeBase o name X.env (eval o X.env)=eval o X.env:=by rfl)
  (LP:((backTo cg (starEach (e :: es) X.env)).all (fun x=>!x.1) && (backToKw cg (keywordEach [] X.env)).all (fun x=>x.1.isSome)
   && decide ((e :: es).length+([]:List Keyword).length+(if ([]:List Keyword).isEmpty then 0 else 1)<30))=true:=by rfl)
  (pH:(apos.endLine == cg.line)=true:=by rfl) (hs:starEach (e :: es) X.env=(false,eval e X.env) :: starEach es X.env:=by rfl) (yZ:(backTo cg (starEach es X.env)).any (·.1)=false:=by rfl) :
  PE X (.Call (.Attribute o name apos) (e :: es) [] cg) (pG X.K T r to t):=by
 intro pins s σ H Q I h
 refine wpAny_Call_method_late kQ LP pH rfl (aV (ho pins s σ H _ I h) fun v s1 ⟨x,H1,I1,r1,ty,q1⟩=>?_)
 obtain ⟨h1,h2⟩:=P9 I1 r1 ty
 refine ⟨T,id,pa,slot,KL,h1,h2,?_⟩
 have hA:=ha cg pins s1 σ H1 _ I1 q1
 rw [hs] at hA ⊢
 refine Calls.callWith_builtin (by show (false || (backTo cg (starEach es X.env)).any (·.1))=false;rw [yZ] <;> rfl) (Calls.evalArgs_plain ?_)
 exact aV hA fun us s2 ⟨vs,H2,I2,r2,q2⟩=>hm pins s2 σ H2 x vs v us Q I2 r1 r2 q2
/- xs.append(e),list.index on a module's tuple .. are Di facts of 06m -/
end
noncomputable def zx (X:Cx) (id:String) (r:V->List V->Hp->VK->Prop):Prop :=
 ∀ (pins:List (Addr × Obj)) (s:Shared) (σ:St) (H:Hp) (x:V) (xs:List V) (v:Value) (us:List Value) (Q:VK),Inv X pins σ H s->bf x v->Vals xs us->r x xs H Q ->
  wpAny (model X.prog X.w) X.A (call (.builtin id) (v :: us)) (EP X pins σ Q) X.xe s
theorem Vals.one:∀ {x:V}{us:List Value},Vals [x] us->∃ u,us=[u]/\bf x u
 | _,_,.cons r .nil=>⟨_,rfl,r⟩
theorem Vals.two:∀ {x y:V}{us:List Value},Vals [x,y] us->∃ u v,us=[u,v]/\bf x u/\bf y v
 | _,_,_,.cons r (.cons q .nil)=>⟨_,_,rfl,r,q⟩
theorem Vals.zero:∀ {us:List Value},Vals [] us->us=[]
 | _,.nil=>rfl
theorem Vals.dropLast {xs:List V}{us:List Value} (h:Vals xs us):Vals xs.dropLast us.dropLast:=by
 induction h with
 | nil=>exact .nil
 | cons r t ih =>
  cases t with
  | nil=>exact .nil
  | cons q t'=>exact .cons r ih
theorem Vals.eraseIdx:∀ {xs:List V}{us:List Value} (i:Nat),Vals xs us->Vals (xs.eraseIdx i) (us.eraseIdx i)
 | _,_,_,.nil=>.nil
 | _,_,0,.cons _ t=>t
 | _,_,i+1,.cons r t=>.cons r (Vals.eraseIdx i t)
theorem Vals.reverse {xs:List V}{us:List Value} (h:Vals xs us):Vals xs.reverse us.reverse:=by
 induction h with
 | nil=>exact .nil
 | cons r t ih=>rw [List.reverse_cons,List.reverse_cons];exact Vals.append ih (.cons r .nil)
theorem Vals.rep {xs:List V}{us:List Value} (h:Vals xs us):∀ k:Nat,Vals (Zsp k xs).flatten (Zsp k us).flatten
 | 0=>.nil
 | k+1=>by
  rw [ZsZ,ZsZ,Zth,Zth]
  exact Vals.append h (Vals.rep h k)
theorem Zmq {α:Type} (l:List α):l.eraseIdx (l.length - 1)=l.dropLast:=by
 induction l with
 | nil=>rfl
 | cons a r ih =>
  cases r with
  | nil=>rfl
  | cons b r =>
   have e:(a :: b :: r).length - 1=((b :: r).length - 1)+1:=by
    have h1:(a :: b :: r).length=r.length+2:=rfl
    have h2:(b :: r).length=r.length+1:=rfl
    omega
   rw [e,List.eraseIdx_cons_succ,ih]
   all_goals rfl
theorem R8 (its:List Value):∀ (k:Nat) (acc:List Value),
  List.foldl (fun x1 x2=>x1 ++ x2) acc.toArray (Zsp k its.toArray)=(acc ++ (Zsp k its).flatten).toArray
 | 0,acc=>by simp
 | k+1,acc=>by
  have e:acc.toArray ++ its.toArray=(acc ++ its).toArray:=by simp
  have e2:(acc ++ its) ++ (Zsp k its).flatten=acc ++ (Zsp (k+1) its).flatten:=by
   rw [ZsZ,Zth,Ztv]
  rw [<- e2,<- R8 its k (acc ++ its),<- e,ZsZ,ZsU]
section
variable {X:Cx}{pins:List (Addr × Obj)}{σ:St}{H:Hp}{s:Shared}{l b:Addr}{xs ys zs:List V}
theorem Inv.qR {its its':List Value}{n:Nat}{f:Array Value->Array Value}{t':Nat} (I:Inv X pins σ H s) (hH:H l=some (.lst xs))
  (e:s.heap.get? l=some { cls:=.type "list",data:=.seq its.toArray n }) (hf:f its.toArray=its'.toArray) (hv:Vals ys its') (hz:ys.length<=sizeLine) :
  Inv X pins σ (upd H l (.lst ys)) { s with heap:=s.heap.update l (Obj.mapSeq f),toks:=t' }:=by
 have q:=PySem.IsL.update e f
 rw [hf] at q
 refine I.write (x:=l) (e:=l) (by rw [hH];exact trivial) (.inl rfl) (fun b' u hb hu=>(Heap.get?_update_other s.heap (Obj.mapSeq f) (Ne.symm hb)).trans hu) ⟨_,q⟩ ?_
 exact ⟨hz,its',_,hv,q⟩
theorem Inv.uM {its:List Value}{t':Nat} (I:Inv X pins σ H s) (hv:Vals ys its) (hz:ys.length<=sizeLine) :
  Inv X pins σ (upd H s.heap.objs.size (.lst ys)) { s with heap:=s.heap.push { cls:=.type "list",data:=.seq its.toArray },toks:=t' } :=
 I.laid (fun _ _ q=>Heap.get?_push_of_some _ q) (ZtJ _) ⟨hz,its,0,hv,Heap.get?_push_size _ rfl⟩
theorem Inv.fresh (I:Inv X pins σ H s):H s.heap.objs.size=none:=I.aB.fresh (ZtJ _)
theorem Inv.kP (I:Inv X pins σ H s) (hH:H l=some (.lst xs)):xs.length<=sizeLine/\∃ (its:List Value) (n:Nat),Vals xs its/\xs.length=its.length/\s.heap.get? l=some { cls:=.type "list",data:=.seq its.toArray n }:=by
 obtain ⟨z,its,n,r,e⟩:=I.aB l _ hH
 exact ⟨z,its,n,r,r.length,e⟩
theorem ZoY {n:Nat} (h:n<=sizeLine):Builtin.List.listTooLong n=false:=by
 unfold Builtin.List.listTooLong
 exact decide_eq_false (by omega)
end
section
variable {X:Cx}
noncomputable def qm:V->List V->Hp->VK->Prop:=fun x vs H Q=>∃ l xs y,x=.ref l/\vs=[y]/\H l=some (.lst xs)/\xs.length<sizeLine/\Q .non (upd H l (.lst (xs ++ [y])))
theorem rH:zx X "list.append" qm:=by
 intro pins s σ H x vs v us Q I rx rv h
 obtain ⟨l,xs,y,rfl,rfl,hH,hz,q⟩:=h
 cases rx
 obtain ⟨u,rfl,ru⟩:=rv.one
 obtain ⟨z,its,n,r,hl,e⟩:=I.kP hH
 refine call_meets F.slot_list_append ⟨_,e,rfl⟩ F.entry_list_append (F.args_list_append_2 _ _) (PySem.list_append l its.toArray n u (by rw [Zsr];omega)) ⟨e,?_⟩
 refine ⟨.non,_,I.qR (its':=its ++ [u]) hH e (by simp) (r.append (.cons ru .nil)) ?_,rfl,q⟩
 rw [Zsm,ZsN]
 omega
noncomputable def tZ:V->List V->Hp->VK->Prop:=fun x vs H Q=>∃ l xs y,x=.ref l/\vs=[]/\H l=some (.lst xs)/\xs[xs.length - 1]? = some y/\Q y (upd H l (.lst xs.dropLast))
theorem tY:zx X "list.pop" tZ:=by
 intro pins s σ H x vs v us Q I rx rv h
 obtain ⟨l,xs,y,rfl,rfl,hH,hy,q⟩:=h
 cases rx
 have kH:=rv.zero
 subst kH
 obtain ⟨z,its,n,r,hl,e⟩:=I.kP hH
 obtain ⟨u,hu,ru⟩:=r.get hy
 have hy':its.toArray[its.toArray.size - 1]? = some u:=by
  show its.toArray[its.length - 1]? = some u
  rw [<- Zuj,<- hl]
  exact hu
 refine call_meets F.slot_list_pop ⟨_,e,rfl⟩ F.entry_list_pop (F.args_list_pop_1 _) (MeetsSeq.list_pop_last l its.toArray n u hy' (by rw [Zsr];omega)) ⟨e,?_⟩
 refine ⟨y,_,I.qR (its':=its.dropLast) hH e ?_ r.dropLast ?_,ru,q⟩
 ·show its.toArray.eraseIdxIfInBounds (its.toArray.size - 1)=its.dropLast.toArray
  rw [Zsr,List.eraseIdxIfInBounds_toArray,Zmq]
 ·rw [List.length_dropLast]
  omega
noncomputable def Ph:V->List V->Hp->VK->Prop:=fun x vs H Q=>∃ l xs,x=.ref l/\vs=[]/\H l=some (.lst xs)/\Q .non (upd H l (.lst xs.reverse))
theorem Wz:zx X "list.reverse" Ph:=by
 intro pins s σ H x vs v us Q I rx rv h
 obtain ⟨l,xs,rfl,rfl,hH,q⟩:=h
 cases rx
 have kH:=rv.zero
 subst kH
 obtain ⟨z,its,n,r,hl,e⟩:=I.kP hH
 refine call_meets F.slot_list_reverse ⟨_,e,rfl⟩ F.entry_list_reverse (F.args_list_reverse_1 _) (AutoSeq1.list_reverse_list_0 l its.toArray n (by rw [Zsr];omega)) ⟨e,?_⟩
 refine ⟨.non,_,I.qR (its':=its.reverse) hH e (by simp) r.reverse ?_,rfl,q⟩
 rw [Zti]
 omega
noncomputable def S8:V->List V->Hp->VK->Prop:=fun x vs H Q=>∃ l xs,x=.ref l/\vs=[]/\H l=some (.lst xs)/\Q .non (upd H l (.lst []))
theorem W9:zx X "list.clear" S8:=by
 intro pins s σ H x vs v us Q I rx rv h
 obtain ⟨l,xs,rfl,rfl,hH,q⟩:=h
 cases rx
 have kH:=rv.zero
 subst kH
 obtain ⟨z,its,n,r,hl,e⟩:=I.kP hH
 refine call_meets F.slot_list_clear ⟨_,e,rfl⟩ F.entry_list_clear (F.args_list_clear_1 _) (AutoSeq1.list_clear_list_0 l its.toArray n (by rw [Zsr];omega)) ⟨e,?_⟩
 exact ⟨.non,_,I.qR (its':=[]) (ys:=[]) hH e rfl .nil (ZtN _),rfl,q⟩
noncomputable def M7:R2:=fun x y H Q=>∃ l b xs zs,x=.ref l/\y=.ref b/\H l=some (.lst xs)/\H b=some (.lst zs)/\xs.length+zs.length<=sizeLine/\∀ p,H p=none->Q (.ref p) (upd H p (.lst (xs ++ zs)))
theorem ya:ck X (binaryOp .Add) M7:=by
 intro pins s σ H x y v u Q I rx ry h
 obtain ⟨l,b,xs,zs,rfl,rfl,hH,hB,hz,q⟩:=h
 cases rx
 cases ry
 obtain ⟨z,its,n,r,hl,e⟩:=I.kP hH
 obtain ⟨z2,its2,n2,r2,iE,e2⟩:=I.kP hB
 refine PySem.P.add_list e e2 ?_ (by rw [Zsr,Zsr];omega)
 have ea:its.toArray ++ its2.toArray=(its ++ its2).toArray:=by simp
 rw [ea]
 exact ⟨.ref _,_,I.uM (t':=s.toks) (r.append r2) (by rw [Zsm];omega),rfl,q _ I.fresh⟩
noncomputable def KI:R2:=fun x y H Q=>∃ l k xs,x=.ref l/\y=.int k/\H l=some (.lst xs) /\ -(2 ^ 63)<=k/\k<2 ^ 63/\xs.length * k.toNat<=sizeLine /\
 ∀ p,H p=none->Q (.ref p) (upd H p (.lst (Zsp k.toNat xs).flatten))
theorem Zq5 {α:Type} (xs:List α) (k:Nat):(Zsp k xs).flatten.length=k * xs.length:=by
 induction k with
 | zero=>simp
 | succ k ih=>rw [ZsZ,Zth,Zsm,ih,Nat.succ_mul,Nat.add_comm]
theorem yz:ck X (binaryOp .Mult) KI:=by
 intro pins s σ H x y v u Q I rx ry h
 obtain ⟨l,k,xs,rfl,rfl,hH,h1,h2,hz,q⟩:=h
 cases rx
 obtain ⟨t,rfl⟩:=ry
 obtain ⟨z,its,n,r,hl,e⟩:=I.kP hH
 have hlen:its.toArray.size * k.toNat<=sizeLine:=by rw [Zsr,<- hl];exact hz
 have OL:¬ its.toArray.size * k.toNat > (2 ^ 63 - 1) / 8:=by
  have:(sizeLine:Nat)<=(2 ^ 63 - 1) / 8:=by decide
  omega
 have Nn:¬ (!Builtin.List.listFitsIndex k)=true:=by
  rw [fitsIndex_both h1 h2]
  exact Zum
 have BJ:¬ Builtin.List.listTooLong (its.toArray.size * k.toNat)=true:=by
  rw [ZoY hlen]
  exact Zum
 have uo:List.foldl (fun x1 x2=>x1 ++ x2) #[] (Zsp (if its.toArray.isEmpty=true then 0 else k.toNat) its.toArray)=(Zsp k.toNat its).flatten.toArray:=by
  have f0:∀ m:Nat,List.foldl (fun x1 x2=>x1 ++ x2) #[] (Zsp m its.toArray)=(Zsp m its).flatten.toArray:=fun m=>by
   have:=R8 its m []
   rw [List.nil_append] at this
   exact this
  rw [f0]
  cases its with
  | nil=>simp
  | cons a r'=>rw [if_neg (by simp)]
 refine wpAny_binaryOp_repeat_ref (T:="list") (U:="int") (by decide) ⟨_,e,rfl⟩ (fun s'=>typeIs_int s' k t) noFill_list_mul F.fills_int_mul F.slot_int_rmul repeat_list F.slot_int_index.lookup
  (call_meets F.slot_int_rmul (typeIs_int s k t) F.entry_int_rmul (F.args_int_rmul_2 _ _) (int___rmul___int_list k t l its.toArray n)
   ⟨e,rfl,⟨_,e,rfl⟩,call_meets F.slot_list_mul ⟨_,e,rfl⟩ F.entry_list_mul (F.args_list_mul_2 _ _) (AutoListH.list___mul___list_int_3 l its.toArray n k t Nn OL BJ) ⟨e,?_⟩⟩)
 rw [uo]
 exact ⟨.ref _,_,I.uM (t':=s.toks) (r.rep k.toNat) (by rw [Zq5,Nat.mul_comm];exact hz),rfl,q _ I.fresh⟩
end
section
variable {prog:Program}{w:World}{A:Around}{E:Value->Shared->Prop}{s:Shared}
end
section
variable {X:Cx}
end
section
variable {κ:Type} [DecidableEq κ]
noncomputable def bC (kvs:List (κ × V)) (k:κ):Option V:=(kvs.find? fun kv=>decide (kv.1=k)).map (·.2)
noncomputable def cJ (kvs:List (κ × V)) (k:κ) (v:V):List (κ × V) :=
 if (kvs.any fun kv=>decide (kv.1=k))=true then kvs.map (fun kv=>if kv.1=k then (kv.1,v) else kv) else kvs ++ [(k,v)]
noncomputable def wk (kvs:List (κ × V)) (k:κ):List (κ × V):=kvs.filter fun kv=>decide (kv.1≠k)
theorem lJ {p:κ × V}{r:List (κ × V)}{k:κ} (e:p.1=k):bC (p :: r) k=some p.2:=by simp [bC,Zs7,e]
theorem lW {p:κ × V}{r:List (κ × V)}{k:κ} (e:¬ p.1=k):bC (p :: r) k=bC r k:=by simp [bC,Zs7,e]
theorem Gy (k:κ):∀ kvs:List (κ × V),(kvs.any fun kv=>decide (kv.1=k))=(bC kvs k).isSome
 | []=>rfl
 | p :: r=>by
  rw [Ztg]
  by_cases e:p.1=k
  ·simp only [lJ e,decide_eq_true e,Bool.true_or,Option.isSome_some]
  ·rw [lW e,decide_eq_false e,Zur];exact Gy k r
theorem Rf (k j:κ) (y:V):∀ kvs:List (κ × V),bC (kvs.map fun kv=>if kv.1=k then (kv.1,y) else kv) j=(bC kvs j).map fun x=>if j=k then y else x
 | []=>rfl
 | p :: r=>by
  have ih:=Rf k j y r
  rw [Zsw]
  by_cases h:p.1=k
  ·rw [if_pos h]
   by_cases e:p.1=j
   ·rw [lJ (p:=(p.1,y)) e,lJ e,Option.map_some,if_pos (e.symm.trans h)]
   ·rw [lW (p:=(p.1,y)) e,lW e,ih]
  ·rw [if_neg h]
   by_cases e:p.1=j
   ·rw [lJ (p:=p) e,lJ e,Option.map_some,if_neg (fun z=>h (e.trans z))]
   ·rw [lW (p:=p) e,lW e,ih]
theorem Rh (k j:κ) (y:V):∀ kvs:List (κ × V),bC kvs k=none->bC (kvs ++ [(k,y)]) j=if j=k then some y else bC kvs j
 | [],_=>by
  by_cases e:k=j
  ·rw [if_pos e.symm];exact lJ (p:=(k,y)) e
  ·rw [if_neg (fun z=>e z.symm)];exact lW (p:=(k,y)) e
 | p :: r,hn=>by
  rw [List.cons_append]
  have hk:¬ p.1=k:=fun z=>by rw [lJ z] at hn;cases hn
  rw [lW hk] at hn
  have ih:=Rh k j y r hn
  by_cases e:p.1=j
  ·rw [lJ e,lJ e,if_neg (fun z=>hk (e.trans z))]
  ·rw [lW e,lW e,ih]
theorem pL (kvs:List (κ × V)) (k j:κ) (y:V):bC (cJ kvs k y) j=if j=k then some y else bC kvs j:=by
 unfold cJ
 by_cases a:(kvs.any fun kv=>decide (kv.1=k))=true
 ·rw [if_pos a,Rf]
  rw [Gy] at a
  by_cases e:j=k
  ·obtain ⟨x,hx⟩:=Option.isSome_iff_exists.mp a
   rw [if_pos e,e,hx,Option.map_some,if_pos rfl]
  ·rw [if_neg e]
   cases bC kvs j with
   | none=>rfl
   | some x=>rw [Option.map_some,if_neg e]
 ·rw [if_neg a]
  refine Rh k j y kvs ?_
  rw [Gy] at a
  cases q:bC kvs k with
  | none=>rfl
  | some x=>rw [q] at a;exact (a rfl).elim
theorem JB (kvs:List (κ × V)) (k:κ) (v:V):(cJ kvs k v).length<=kvs.length+1:=by
 unfold cJ
 split
 ·rw [Zsh];omega
 ·rw [Zsm,ZsB,ZsH];omega
theorem ka.dN {o:Option V}{u:Option Value} (r:ka o u):o.isSome=u.isSome:=by
 cases o with
 | none=>cases u with
  | none=>rfl
  | some _=>exact (show False from r).elim
 | some _=>cases u with
  | none=>exact (show False from r).elim
  | some _=>rfl
theorem ka.getD {o:Option V}{u:Option Value}{d:V}{d':Value} (r:ka o u) (rd:bf d d'):bf (o.getD d) (u.getD d'):=by
 cases o with
 | none=>cases u with
  | none=>exact rd
  | some _=>exact (show False from r).elim
 | some _=>cases u with
  | none=>exact (show False from r).elim
  | some _=>exact r
theorem KV.val {kvs:List (κ × V)}{vs:List (κ × Value)} (r:KV kvs vs) (k:κ):ka (bC kvs k) (valueAt vs k):=by
 unfold KV at r
 induction r with
 | nil=>exact True.intro
 | @cons p q ps qs h t ih =>
  obtain ⟨h1,h2⟩:=h
  by_cases e:p.1=k
  ·have e':q.1=k:=h1.symm.trans e
   have b:valueAt (q :: qs) k=some q.2:=by simp [valueAt,Zs7,e']
   rw [lJ e,b];exact h2
  ·have e':¬ q.1=k:=fun z=>e (h1.trans z)
   have b:valueAt (q :: qs) k=valueAt qs k:=by simp [valueAt,Zs7,e']
   rw [lW e,b];exact ih
theorem KV.any {kvs:List (κ × V)}{vs:List (κ × Value)} (r:KV kvs vs) (k:κ):(kvs.any fun kv=>decide (kv.1=k))=vs.any fun kv=>decide (kv.1=k):=by
 unfold KV at r
 induction r with
 | nil=>rfl
 | cons h t ih=>rw [Ztg,Ztg,ih,h.1]
theorem KV.vp {kvs:List (κ × V)}{vs:List (κ × Value)} (r:KV kvs vs) (k:κ) {y:V}{u:Value} (ry:bf y u) :
  KV (kvs.map fun kv=>if kv.1=k then (kv.1,y) else kv) (vs.map fun kv=>if kv.1=k then (kv.1,u) else kv):=by
 unfold KV at r ⊢
 induction r with
 | nil=>exact .nil
 | @cons p q ps qs h t ih =>
  rw [Zsw,Zsw]
  refine .cons ?_ ih
  obtain ⟨h1,h2⟩:=h
  by_cases e:p.1=k
  ·rw [if_pos e,if_pos (h1.symm.trans e)];exact ⟨h1,ry⟩
  ·rw [if_neg e,if_neg (fun z=>e (h1.trans z))];exact ⟨h1,h2⟩
theorem KV.put {kvs:List (κ × V)}{vs:List (κ × Value)} (r:KV kvs vs) (k:κ) {y:V}{u:Value} (ry:bf y u):KV (cJ kvs k y) (stored vs k u):=by
 unfold cJ stored
 rw [r.any k]
 by_cases e:(vs.any fun kv=>decide (kv.1=k))=true
 ·rw [if_pos e,if_pos e];exact r.vp k ry
 ·rw [if_neg e,if_neg e];exact Paired.snoc r ⟨rfl,ry⟩
theorem KV.drop {kvs:List (κ × V)}{vs:List (κ × Value)} (r:KV kvs vs) (k:κ):KV (wk kvs k) (without vs k):=by
 unfold KV at r ⊢
 unfold wk without
 induction r with
 | nil=>exact .nil
 | @cons p q ps qs h t ih =>
  obtain ⟨h1,h2⟩:=h
  rw [ZsO,ZsO]
  by_cases e:p.1=k
  ·have a:¬ decide (p.1≠k)=true:=by simp [e]
   have b:¬ decide (q.1≠k)=true:=by simp [h1.symm.trans e]
   rw [if_neg a,if_neg b];exact ih
  ·have e':¬ q.1=k:=fun z=>e (h1.trans z)
   have a:decide (p.1≠k)=true:=by simp [e]
   have b:decide (q.1≠k)=true:=by simp [e']
   rw [if_pos a,if_pos b];exact .cons ⟨h1,h2⟩ ih
theorem KV.length {kvs:List (κ × V)}{vs:List (κ × Value)} (r:KV kvs vs):kvs.length=vs.length:=Paired.length r
theorem Xr (kvs:List (κ × V)) (k:κ):(wk kvs k).length<=kvs.length:=Zs2 _ _
end
theorem rV {P:Program}{w:World}{k:Key}{u:Value} (r:bf (kV k) u):(ij P w).is k u=true:=by
 cases k with
 | inl i=>obtain ⟨t,e⟩:=(show ∃ t,u=Value.int i t from r);subst e;exact YN P w i t
 | inr x=>obtain ⟨t,e⟩:=(show ∃ t,u=Value.str x t from r);subst e;exact ZkI P w x t
theorem RQ {P:Program}{w:World}:∀ {ks:List Key}{us:List Value},Vals (ks.map kV) us->ItemsAre (ij P w) ks us
 | [],_,r=>by rw [ZsY] at r;cases r;exact .nil
 | k :: ks,_,r=>by
  rw [Zsw] at r
  cases r with
  | cons h t=>exact .cons (rV h) (RQ t)
noncomputable abbrev KT (H:Hp):List (List Key × V)->List (List Key × Addr × Value)->Prop:=Paired fun p q=>p.1=q.1/\H q.2.1=some (.tup (p.1.map kV))/\bf p.2 q.2.2
theorem KT.val {H:Hp}{kvs:List (List Key × V)}{xs:List (List Key × Addr × Value)} (r:KT H kvs xs) (k:List Key):ka (bC kvs k) ((atKey xs k).map (·.2)):=by
 induction r with
 | nil=>exact True.intro
 | @cons p q ps qs h t ih =>
  obtain ⟨h1,_,h2⟩:=h
  by_cases e:p.1=k
  ·have e':q.1=k:=h1.symm.trans e
   have b:atKey (q :: qs) k=some q.2:=by simp [atKey,Zs7,e']
   rw [lJ e,b];exact h2
  ·have e':¬ q.1=k:=fun z=>e (h1.trans z)
   have b:atKey (q :: qs) k=atKey qs k:=by simp [atKey,Zs7,e']
   rw [lW e,b];exact ih
theorem KT.vp {H:Hp}{kvs:List (List Key × V)}{xs:List (List Key × Addr × Value)} (r:KT H kvs xs) (k:List Key) {y:V}{u:Value} (ry:bf y u) :
  KT H (kvs.map fun kv=>if kv.1=k then (kv.1,y) else kv) (xs.map (putAt k u)):=by
 induction r with
 | nil=>exact .nil
 | @cons p q ps qs h t ih =>
  rw [Zsw,Zsw]
  refine .cons ?_ ih
  obtain ⟨h1,h2,h3⟩:=h
  unfold putAt
  by_cases e:p.1=k
  ·rw [if_pos e,if_pos (h1.symm.trans e)];exact ⟨h1,h2,ry⟩
  ·rw [if_neg e,if_neg (fun z=>e (h1.trans z))];exact ⟨h1,h2,h3⟩
theorem KT.put {H:Hp}{kvs:List (List Key × V)}{xs:List (List Key × Addr × Value)} (r:KT H kvs xs) (k:List Key) {b:Addr}{y:V}{u:Value} (hb:H b=some (.tup (k.map kV))) (ry:bf y u) :
  KT H (cJ kvs k y) (storedH xs k b u):=by
 have e:(kvs.any fun kv=>decide (kv.1=k))=(atKey xs k).isSome:=by
  rw [Gy,(r.val k).dN,Option.isSome_map]
 unfold cJ storedH
 rw [e]
 by_cases q:(atKey xs k).isSome=true
 ·rw [if_pos q,if_pos q];exact r.vp k ry
 ·rw [if_neg q,if_neg q];exact Paired.snoc r ⟨rfl,hb,ry⟩
theorem KT.keeps {H H':Hp}{kvs:List (List Key × V)}{xs:List (List Key × Addr × Value)} (r:KT H kvs xs) (ht:∀ b ys,H b=some (.tup ys)->H' b=some (.tup ys)):KT H' kvs xs :=
 Paired.xg r fun _ _ z=>⟨z.1,ht _ _ z.2.1,z.2.2⟩
section
variable {P:Program}{w:World}{H:Hp}{h:Heap}{a:Addr}
theorem N5 {u:HO} (ok:fJ P w H h) (e:Rd H a u):eR P w H h a u:=e.ok ok
theorem qe {kvs:List (Key × V)} (ok:fJ P w H h) (e:Rd H a (.dK kvs)):kvs.length<=sizeLine/\(a == sysModules)=false/\∃ vs,KV kvs vs/\h.DictOf (ij P w) a vs :=
 show eR P w H h a (.dK kvs) from N5 ok e
theorem Ii {kvs:List (Key × V)} (ok:fJ P w H h) (e:H a=some (.dK kvs)):kvs.length<=sizeLine/\(a == sysModules)=false/\∃ vs,KV kvs vs/\h.DictOf (ij P w) a vs:=qe ok (.inl e)
theorem AD {ks:List Key} (ok:fJ P w H h) (e:H a=some (.tup (ks.map kV))):(tupleKind (ij P w)).is h ks a:=by
 obtain ⟨_,its,r,o,h1,h2,n,h3⟩:=(show eR P w H h a (.tup (ks.map kV)) from ok a _ e)
 exact ⟨o,its.toArray,n,h1,h2,h3,by simpa using RQ r⟩
theorem vG {kvs:List (List Key × V)} (ok:fJ P w H h) (e:Rd H a (.dT kvs)):kvs.length<=sizeLine/\(a == sysModules)=false /\
  ∃ xs,KT H kvs xs/\h.DictOfH (tupleKind (ij P w)) a xs:=by
 obtain ⟨z,y,xs,r,o,es,ep,h1,h2,h3,h4,h5⟩:=(show eR P w H h a (.dT kvs) from N5 ok e)
 refine ⟨z,y,xs,r,o,es,ep,h1,h2,h3,h4,fun x hx=>?_,h5⟩
 have all:∀ {l:List (List Key × V)}{m:List (List Key × Addr × Value)},KT H l m->∀ x∈m,(tupleKind (ij P w)).is h x.1 x.2.1:=by
  intro l m q
  induction q with
  | nil=>intro x hx;exact nomatch hx
  | @cons p q ps qs hq t ih =>
   intro x hx
   rcases Zst.mp hx with e | hx
   ·subst e
    exact AD ok (by rw [<- hq.1];exact hq.2.1)
   ·exact ih x hx
 exact all r x hx
theorem GN {kvs:List (List Key × V)} (ok:fJ P w H h) (e:H a=some (.dT kvs)):kvs.length<=sizeLine/\(a == sysModules)=false /\
  ∃ xs,KT H kvs xs/\h.DictOfH (tupleKind (ij P w)) a xs:=vG ok (.inl e)
end
noncomputable def eB (H:Hp) (a:Addr) (y:V) (r:Option V):Prop :=
 (∃ kvs k,Rd H a (.dK kvs)/\y=kV k/\r=bC kvs k)\/∃ kvs k b,Rd H a (.dT kvs)/\y=.ref b/\H b=some (.tup (k.map kV))/\r=bC kvs k
noncomputable def pO (H:Hp) (a:Addr) (y v:V) (H':Hp):Prop :=
 (∃ kvs k,H a=some (.dK kvs)/\y=kV k/\kvs.length<sizeLine/\H'=upd H a (.dK (cJ kvs k v))) \/
 ∃ kvs k b,H a=some (.dT kvs)/\y=.ref b/\H b=some (.tup (k.map kV))/\kvs.length<sizeLine/\H'=upd H a (.dT (cJ kvs k v))
theorem eB.k {H:Hp}{a:Addr}{kvs:List (Key × V)}{k:Key} (e:H a=some (.dK kvs)):eB H a (kV k) (bC kvs k):=.inl ⟨kvs,k,.inl e,rfl,rfl⟩
theorem eB.t {H:Hp}{a b:Addr}{kvs:List (List Key × V)}{k:List Key} (e:H a=some (.dT kvs)) (eb:H b=some (.tup (k.map kV))):eB H a (.ref b) (bC kvs k):=.inr ⟨kvs,k,b,.inl e,rfl,eb,rfl⟩
theorem pO.k {H:Hp}{a:Addr}{kvs:List (Key × V)}{k:Key}{v:V} (e:H a=some (.dK kvs)) (hl:kvs.length<sizeLine):pO H a (kV k) v (upd H a (.dK (cJ kvs k v))):=.inl ⟨kvs,k,e,rfl,hl,rfl⟩
theorem pO.t {H:Hp}{a b:Addr}{kvs:List (List Key × V)}{k:List Key}{v:V} (e:H a=some (.dT kvs)) (eb:H b=some (.tup (k.map kV))) (hl:kvs.length<sizeLine) :
  pO H a (.ref b) v (upd H a (.dT (cJ kvs k v))):=.inr ⟨kvs,k,b,e,rfl,eb,hl,rfl⟩
section
variable {X:Cx}{pins:List (Addr × Obj)}{σ:St}{H:Hp}{s:Shared}{a:Addr}{y v:V}{u r:Value}{o:Option V}{A:Around}{E:Value->Shared->Prop}
theorem Inv.big (I:Inv X pins σ H s):sysModules<s.heap.objs.size:=by
 have h:mainGlobals<s.heap.objs.size:=(I.mod.glob.keeps I.bk).lt
 exact Nat.lt_trans (by decide) h
theorem XJ {Q:Value->Shared->Prop} (hu:A.units+1<cLine) (I:Inv X pins σ H s) (g:eB H a y (some v)) (ry:bf y u) (h:∀ w' s',Inv X pins σ H s'->bf v w'->Q w' s') :
  wpAny (model X.prog X.w) A (getItem (.ref a) u) Q E s:=by
 rcases g with ⟨kvs,k,e,ey,l⟩ | ⟨kvs,k,b,e,ey,eb,l⟩
 ·subst ey
  obtain ⟨z,hd,vs,rel,dd⟩:=qe I.aB e
  obtain ⟨w',hw,rw'⟩:=ka.some_of (v:=v) (o:=valueAt vs k) (by rw [l];exact rel.val k)
  exact wpAny_getItem_of (rV ry) dd.mapOf hw (h w' _ (I.tok _) rw')
 ·subst ey
  cases (show u=Value.ref b from ry)
  obtain ⟨z,hd,xs,rel,dd⟩:=vG I.aB e
  obtain ⟨w',hw,rw'⟩:=ka.some_of (v:=v) (o:=(atKey xs k).map (·.2)) (by rw [l];exact rel.val k)
  obtain ⟨p,hp,hp2⟩:=Option.map_eq_some_iff.mp hw
  refine wpAny_getItem_heap (tupleKind_room_in1 hu) (AD I.aB eb) dd hp ?_
  rw [hp2]
  exact h w' _ (I.tok _) rw'
theorem NS {Q:Value->Shared->Prop} (hu:A.units+1<cLine) (I:Inv X pins σ H s) (g:eB H a y o) (ry:bf y u) (h:∀ s',Inv X pins σ H s'->Q (.bool o.isSome) s') :
  wpAny (model X.prog X.w) A (compareOp .In u (.ref a)) Q E s:=by
 rcases g with ⟨kvs,k,e,ey,l⟩ | ⟨kvs,k,b,e,ey,eb,l⟩
 ·subst ey
  obtain ⟨z,hd,vs,rel,dd⟩:=qe I.aB e
  refine wpAny_in_of (rV ry) hd dd.mapOf ?_
  rw [<- (rel.val k).dN,<- l]
  exact h _ (I.tok _)
 ·subst ey
  cases (show u=Value.ref b from ry)
  obtain ⟨z,hd,xs,rel,dd⟩:=vG I.aB e
  refine wpAny_in_heap (tupleKind_room_in1 hu) (AD I.aB eb) hd dd ?_
  have q:=(rel.val k).dN
  rw [Option.isSome_map] at q
  rw [<- q,<- l]
  exact h _ (I.tok _)
theorem WO {Q:Value->Shared->Prop} (hu:A.units+1<cLine) (I:Inv X pins σ H s) (g:eB H a y o) (ry:bf y u) (h:∀ s',Inv X pins σ H s'->Q (.bool (!o.isSome)) s') :
  wpAny (model X.prog X.w) A (compareOp .NotIn u (.ref a)) Q E s:=by
 rcases g with ⟨kvs,k,e,ey,l⟩ | ⟨kvs,k,b,e,ey,eb,l⟩
 ·subst ey
  obtain ⟨z,hd,vs,rel,dd⟩:=qe I.aB e
  refine wpAny_notIn_of (rV ry) hd dd.mapOf ?_
  rw [<- (rel.val k).dN,<- l]
  exact h _ (I.tok _)
 ·subst ey
  cases (show u=Value.ref b from ry)
  obtain ⟨z,hd,xs,rel,dd⟩:=vG I.aB e
  refine wpAny_notIn_heap (tupleKind_room_in1 hu) (AD I.aB eb) hd dd ?_
  have q:=(rel.val k).dN
  rw [Option.isSome_map] at q
  rw [<- q,<- l]
  exact h _ (I.tok _)
theorem HH {h':Heap}{t':Nat}{ob:HO} (I:Inv X pins σ H s) (mu:Hb (H a)) (hs:Heap.SameBut a s.heap h') (he:∃ q,h'.get? a=some q) (new:eR X.prog X.w (upd H a ob) h' a ob) :
  Inv X pins σ (upd H a ob) { s with heap:=h',toks:=t' } :=
 I.write (x:=a) (e:=a) mu (.inl rfl) (fun b q hb z=>(hs.2 b hb).trans z) he new
theorem Es {P:Program}{w:World}{H':Hp}{h':Heap}{kvs:List (Key × V)}{vs:List (Key × Value)} (z:kvs.length<=sizeLine) (hd:(a == sysModules)=false) (rel:KV kvs vs) (dd:h'.DictOf (ij P w) a vs) :
  eR P w H' h' a (.dK kvs):=⟨z,hd,vs,rel,dd⟩
theorem Zr {H':Hp}{Q:Unit->Shared->Prop} (hu:A.units+1<cLine) (I:Inv X pins σ H s) (g:pO H a y v H') (ry:bf y u) (rv:bf v r) (h:∀ s',Inv X pins σ H' s'->Q () s') :
  wpAny (model X.prog X.w) A (setItem (.ref a) u r) Q E s:=by
 rcases g with ⟨kvs,k,e,ey,l,eH⟩ | ⟨kvs,k,b,e,ey,eb,l,eH⟩
 ·subst ey eH
  obtain ⟨z,hd,vs,rel,dd⟩:=Ii I.aB e
  have hz:vs.length<=sizeLine:=by rw [<- rel.length];exact z
  have hl:(cJ kvs k v).length<=sizeLine:=by have:=JB kvs k v;omega
  refine wpAny_setItem_pairs (hsz:=hz) (rV ry) dd fun h' dd' hs=>h _ ?_
  have he:∃ q,h'.get? a=some q:=let ⟨q,_,_,hq,_⟩:=dd';⟨q,hq⟩
  exact HH I (by rw [e];exact True.intro) hs he (Es hl hd (rel.put k rv) dd')
 ·subst ey eH
  cases (show u=Value.ref b from ry)
  obtain ⟨z,hd,xs,rel,dd⟩:=GN I.aB e
  have hz:xs.length<=sizeLine:=by rw [<- Paired.length rel];exact z
  have hl:(cJ kvs k v).length<=sizeLine:=by have:=JB kvs k v;omega
  refine wpAny_setItem_heap (hsz:=hz) (tupleKind_room_in1 hu) (AD I.aB eb) dd fun h' dd' hs=>h _ ?_
  obtain ⟨q,es,ep,hq,h2,h3,h4,_,h5⟩:=dd'
  refine HH I (by rw [e];exact True.intro) hs ⟨q,hq⟩ ⟨hl,hd,_,(rel.put k eb rv).keeps fun c ys ec=>?_,q,es,ep,hq,h2,h3,h4,h5⟩
  rw [aE (eA ec e (fun z=>nomatch z))]
  exact ec
end
section
variable {X:Cx}{pins:List (Addr × Obj)}{σ:St}{H:Hp}{s:Shared}{a:Addr}{kvs:List (Key × V)}{k:Key}{u:Value}{A:Around}{E:Value->Shared->Prop}
theorem FI {v:V}{more:List Value}{Q:Value->Shared->Prop} (I:Inv X pins σ H s) (e:H a=some (.dK kvs)) (ry:bf (kV k) u) (l:bC kvs k=some v) (hm:more=[]\/∃ x,more=[x])
  (h:∀ w' s',Inv X pins σ (upd H a (.dK (wk kvs k))) s'->bf v w'->Q w' s'):wpAny (model X.prog X.w) A (call (.builtin "dict.pop") (.ref a :: u :: more)) Q E s:=by
 obtain ⟨z,hd,vs,rel,dd⟩:=Ii I.aB e
 obtain ⟨w',hw,rw'⟩:=ka.some_of (v:=v) (o:=valueAt vs k) (by rw [<- l];exact rel.val k)
 have hp:(keyPart u).isSome=true:=by
  cases k with
  | inl i=>obtain ⟨t,q⟩:=(show ∃ t,u=Value.int i t from ry);subst q;rfl
  | inr x=>obtain ⟨t,q⟩:=(show ∃ t,u=Value.str x t from ry);subst q;rfl
 have ha:argsOk "dict.pop" ⟨.ref a :: u :: more,[]⟩:=by
  rcases hm with q | ⟨x,q⟩
  ·subst q;exact PySem.F.args_dict_pop_2 _ _
  ·subst q;exact PySem.F.args_dict_pop_3 _ _ _
 refine call_meetsIn Zsd dd.typeIs PySem.F.entry_dict_pop ha (meets_dict_pop_there (ij X.prog X.w) a (rV ry) more hm hp)
  ⟨vs,w',dd,by rw [<- rel.length];exact z,hw,fun h' dd' hs=>h w' _ ?_ rw'⟩
 have he:∃ q,h'.get? a=some q:=let ⟨q,_,_,hq,_⟩:=dd';⟨q,hq⟩
 exact HH I (by rw [e];exact True.intro) hs he (Es (ZtL (Xr kvs k) z) hd (rel.drop k) dd')
theorem D2 {Q:Value->Shared->Prop} (I:Inv X pins σ H s) (e:Rd H a (.dK kvs)) (h:∀ t s',Inv X pins σ H s'->Q (.int kvs.length t) s'):wpAny (model X.prog X.w) A (call (.builtin "len") [.ref a]) Q E s:=by
 obtain ⟨z,hd,vs,rel,dd⟩:=qe I.aB e
 refine call_len_dict hd dd (by rw [<- rel.length];rw [sizeLine_eq] at z;omega) ?_
 rw [<- rel.length]
 exact h _ _ (I.tok _)
end
noncomputable def Bh (i:Expr):Prop:=∀ ov iv,subscripted i false ov iv=operate [ov,iv] (getItem ov iv)
theorem Zqq {prog:Program}{w:World}{A:Around}{E:Value->Shared->Prop}{s:Shared}{env:Env}{value slice:Expr}{pos:Pos}{T id:String}{Q:Value->Shared->Prop}
  (hl:typeLookup (.type T) "__getitem__" = pure (some (.builtin id))) (hs:Bh slice)
  (h:wpAny (model prog w) A (eval value env) (fun o s₁=>wpAny (model prog w) A (eval slice env) (fun i s₂=>s₂.TypeIs o T/\wpAny (model prog w) A (getItem o i) Q E s₂) E s₁) E s) :
  wpAny (model prog w) A (eval (.Subscript value slice pos) env) Q E s:=by
 refine Subscript_ (wpAny_mono h (fun o s₁ h₁=>wpAny_mono h₁ (fun i s₂ h₂=>?_) fun _ _ x=>x) fun _ _ x=>x)
 obtain ⟨hT,h₂⟩:=h₂
 unfold subscriptTail
 refine wpAny_bind ?_
 rw [getitemInPython_of_ne hT.not_modules]
 refine wpAny_bind (wpAny_specialOf hT hl ?_)
 have fin:wpAny (model prog w) A (subscripted slice false o i) (fun r s₃=>wpAny (model prog w) A (letTemporaryGo value o r >>= fun _=>pure r) Q E s₃) E s₂:=by
  rw [hs o i]
  exact wpAny_operating (wpAny_mono h₂ (fun r s₃ h₃=>wpAny_bind (wpAny_letTemporaryGo (wpAny_pure h₃))) fun _ _ x=>x)
 first
  | exact wpAny_pure (wpAny_bind fin)
  | exact wpAny_bind (wpAny_pure (wpAny_bind fin))
  | exact wpAny_bind fin
theorem ZkW {X:Cx}{pins:List (Addr × Obj)}{σ:St}{H:Hp}{s:Shared}{a:Addr}{y:V}{o:Option V} (I:Inv X pins σ H s) (g:eB H a y o):s.TypeIs (.ref a) "dict":=by
 rcases g with ⟨kvs,k,e,_,_⟩ | ⟨kvs,k,b,e,_,_,_⟩
 ·obtain ⟨_,_,vs,_,dd⟩:=qe I.aB e
  exact dd.typeIs
 ·obtain ⟨_,_,xs,_,dd⟩:=vG I.aB e
  exact dd.typeIs
noncomputable def lO (td ty:TE):TE:=fun σ H Q=>td σ H fun x H1=>ty σ H1 fun y H2=>∃ a v,x=.ref a/\eB H2 a y (some v)/\Q v H2
noncomputable def nP (ty td:TE):TE:=fun σ H Q=>ty σ H fun y H1=>td σ H1 fun x H2=>∃ a o,x=.ref a/\eB H2 a y o/\Q (.bl o.isSome) H2
noncomputable def oM (ty td:TE):TE:=fun σ H Q=>ty σ H fun y H1=>td σ H1 fun x H2=>∃ a o,x=.ref a/\eB H2 a y o/\Q (.bl (!o.isSome)) H2
noncomputable def mX (td ty tv:TE):TS:=fun D σ H=>tv σ H fun v H1=>td σ H1 fun x H2=>ty σ H2 fun y H3=>∃ a H4,x=.ref a/\pO H3 a y v H4/\D.nx σ H4
section
variable {X:Cx}{o i e value:Expr}{pos pos' K9:Pos}{td ty tv:TE}
theorem nh (hu:X.A.units+1<cLine) (ho:PE X o td) (hi:PE X i ty) (hs:Bh i):PE X (.Subscript o i pos) (lO td ty):=by
 intro pins s σ H Q I h
 refine Zqq PySem.F.slot_dict_getitem.lookup hs (aV (ho pins s σ H _ I h) fun u s1 ⟨x,H1,I1,rx,q1⟩=>aV (hi pins s1 σ H1 _ I1 q1) fun iv s2 ⟨y,H2,I2,ry,a,v,ex,g,q2⟩=>?_)
 subst ex
 obtain rfl:u=Value.ref a:=rx
 exact ⟨ZkW I2 g,XJ hu I2 g ry fun w' s3 I3 rw'=>⟨v,H2,I3,rw',q2⟩⟩
theorem ID (hu:X.A.units+1<cLine) (hi:PE X i ty) (ho:PE X o td):PC X .In i o (nP ty td):=by
 intro pins s σ H Q I h
 refine aV (hi pins s σ H _ I h) fun iv s1 ⟨y,H1,I1,ry,q1⟩=>aV (ho pins s1 σ H1 _ I1 q1) fun u s2 ⟨x,H2,I2,rx,a,ov,ex,g,q2⟩=>?_
 subst ex
 obtain rfl:u=Value.ref a:=rx
 exact NS hu I2 g ry fun s3 I3=>⟨.bl ov.isSome,H2,I3,rfl,q2⟩
theorem su (hu:X.A.units+1<cLine) (hi:PE X i ty) (ho:PE X o td):PC X .NotIn i o (oM ty td):=by
 intro pins s σ H Q I h
 refine aV (hi pins s σ H _ I h) fun iv s1 ⟨y,H1,I1,ry,q1⟩=>aV (ho pins s1 σ H1 _ I1 q1) fun u s2 ⟨x,H2,I2,rx,a,ov,ex,g,q2⟩=>?_
 subst ex
 obtain rfl:u=Value.ref a:=rx
 exact WO hu I2 g ry fun s3 I3=>⟨.bl (!ov.isSome),H2,I3,rfl,q2⟩
theorem pJ (hu:X.A.units+1<cLine) (ho:PE X o td) (hi:PE X i ty) (hv:PE X value tv) (hs:swapsWith value (some (.Subscript o i pos')) pos.line X.env=pure false) :
  PS X (.Assign [.Subscript o i pos'] value pos) (mX td ty tv):=by
 intro pins s σ H D I h
 refine wpAny_Assign_Subscript (aV (hv pins s σ H _ I h) fun r s1 ⟨v,H1,I1,rv,q1⟩=>aV (ho pins s1 σ H1 _ I1 q1) fun u s2 ⟨x,H2,I2,rx,q2⟩=>aV (hi pins s2 σ H2 _ I2 q2) fun iv s3 ⟨y,H3,I3,ry,a,H4,ex,g,q3⟩=>?_) hs
 subst ex
 obtain rfl:u=Value.ref a:=rx
 exact Zr hu I3 g ry rv fun s4 I4=>⟨σ,H4,I4,q3⟩
end
theorem Zps {P:Program}{w:World}{H:Hp} (h:Heap) (hb:sysModules<h.objs.size):eR P w H (h.push { cls:=.type "dict",data:=.dict #[] }) h.objs.size (.dK []) :=
 ⟨ZtN _,beq_eq_false_iff_ne.mpr (Ne.symm (ZtK hb)),[],.nil,Heap.DictOf.new h⟩
theorem Zpo {P:Program}{w:World}{H:Hp} (h:Heap) (hb:sysModules<h.objs.size):eR P w H (h.push { cls:=.type "dict",data:=.dict #[] }) h.objs.size (.dT []) :=
 ⟨ZtN _,beq_eq_false_iff_ne.mpr (Ne.symm (ZtK hb)),[],.nil,_,#[],0,Heap.get?_push_size _ rfl,⟨rfl,rfl,rfl⟩,rfl,rfl,Zs8⟩
noncomputable def rC:TE:=fun _ H Q=>∀ p,H p=none->Q (.ref p) (upd H p (.dK []))
noncomputable def Ja:TE:=fun _ H Q=>∀ p,H p=none->Q (.ref p) (upd H p (.dT []))
section
variable {X:Cx}{pos:Pos}
theorem zZ:PE X (.Dict [] [] pos) rC:=fun pins s σ H Q I h =>
 wpAny_Dict_empty ⟨.ref s.heap.objs.size,_,I.laid (a:=s.heap.objs.size) (o:=.dK []) (t':=s.toks) (fun _ _ q=>Heap.get?_push_of_some _ q) (ZtJ _) (Zps s.heap I.big),rfl,h _ (I.aB.fresh (ZtJ _))⟩
theorem ZoU:PE X (.Dict [] [] pos) Ja:=fun pins s σ H Q I h =>
 wpAny_Dict_empty ⟨.ref s.heap.objs.size,_,I.laid (a:=s.heap.objs.size) (o:=.dT []) (t':=s.toks) (fun _ _ q=>Heap.get?_push_of_some _ q) (ZtJ _) (Zpo s.heap I.big),rfl,h _ (I.aB.fresh (ZtJ _))⟩
end
noncomputable def V0:List (TE × TE)->St->Hp->(List (V × V)->Hp->Prop)->Prop
 | [],_,H,Q=>Q [] H
 | (tk,tv) :: r,σ,H,Q=>tk σ H fun x H1=>tv σ H1 fun y H2=>V0 r σ H2 fun ps H3=>Q ((x,y) :: ps) H3
noncomputable abbrev VV:List (V × V)->List (Value × Value)->Prop:=Paired fun p q=>bf p.1 q.1/\bf p.2 q.2
noncomputable def PPs (X:Cx) (pos:Pos) (keys:List (Option Expr)) (values:List Expr) (trs:List (TE × TE)):Prop :=
 ∀ (pins:List (Addr × Obj)) (s:Shared) (σ:St) (H:Hp) (Q:List (V × V)->Hp->Prop),Inv X pins σ H s->V0 trs σ H Q ->
  wpAny (model X.prog X.w) X.A (evalPairs (pairTrees keys values X.env pos)) (fun vs s'=>∃ ps H',Inv X pins σ H' s'/\VV ps vs/\Q ps H') X.xe s
noncomputable def eO (kvs more:List (Key × V)):List (Key × V):=more.foldl (fun acc kv=>cJ acc kv.1 kv.2) kvs
theorem KV.merge:∀ {more:List (Key × V)}{rs:List (Key × Value)}{kvs:List (Key × V)}{vs:List (Key × Value)},KV more rs->KV kvs vs->KV (eO kvs more) (merged vs rs):=by
 intro more rs kvs vs r
 unfold KV at r
 induction r generalizing kvs vs with
 | nil=>intro q;exact q
 | @cons p q ps qs h t ih =>
  intro r0
  have e:KV (cJ kvs p.1 p.2) (stored vs q.1 q.2):=by
   have:=r0.put p.1 h.2
   rw [<- h.1];exact this
  exact ih e
theorem zH:∀ (more kvs:List (Key × V)),(eO kvs more).length<=kvs.length+more.length
 | [],kvs=>by show kvs.length<=kvs.length+0;omega
 | p :: r,kvs=>by
  have h1:=zH r (cJ kvs p.1 p.2)
  have h2:=JB kvs p.1 p.2
  show (eO (cJ kvs p.1 p.2) r).length<=_
  rw [ZsB];omega
structure M1 (X:Cx) (o:Expr) (m:Str) (apos:Pos) (e:Expr) (cg:Pos):Prop where
 base:attributeBase o m X.env (eval o X.env)=eval o X.env
 Hq:((backTo cg (starEach [e] X.env)).all (fun x=>!x.1) && (backToKw cg (keywordEach [] X.env)).all (fun x=>x.1.isSome)
  && decide (([e]:List Expr).length+([]:List Keyword).length+(if ([]:List Keyword).isEmpty then 0 else 1)<30))=true
 line:(apos.endLine == cg.line)=true
 trees:backTo cg (starEach [e] X.env)=[(false,eval e X.env)]
structure M2 (X:Cx) (o:Expr) (m:Str) (apos:Pos) (e f:Expr) (cg:Pos):Prop where
 base:attributeBase o m X.env (eval o X.env)=eval o X.env
 Hq:((backTo cg (starEach [e,f] X.env)).all (fun x=>!x.1) && (backToKw cg (keywordEach [] X.env)).all (fun x=>x.1.isSome)
  && decide (([e,f]:List Expr).length+([]:List Keyword).length+(if ([]:List Keyword).isEmpty then 0 else 1)<30))=true
 line:(apos.endLine == cg.line)=true
 trees:backTo cg (starEach [e,f] X.env)=[(false,eval e X.env),(false,eval f X.env)]
noncomputable def Jj (H:Hp) (a:Addr):Prop:=(∃ kvs,Rd H a (.dK kvs))\/∃ kvs,Rd H a (.dT kvs)
theorem Mu {X:Cx}{pins:List (Addr × Obj)}{σ:St}{H:Hp}{s:Shared}{a:Addr} (I:Inv X pins σ H s) (d:Jj H a) :
  s.TypeIs (.ref a) "dict" /\ (∀ b,Value.ref a=.ref b->∃ ob,s.heap.get? b=some ob/\ob.dict=none)/\(a == sysModules)=false:=by
 rcases d with ⟨kvs,e⟩ | ⟨kvs,e⟩
 ·obtain ⟨_,hd,vs,_,dd⟩:=qe I.aB e
  refine ⟨dd.typeIs,fun b q=>?_,hd⟩
  cases q
  obtain ⟨ob,_,_,h1,h2,_⟩:=dd
  exact ⟨ob,h1,h2.2.1⟩
 ·obtain ⟨_,hd,xs,_,dd⟩:=vG I.aB e
  refine ⟨dd.typeIs,fun b q=>?_,hd⟩
  cases q
  obtain ⟨ob,_,_,h1,h2,_⟩:=dd
  exact ⟨ob,h1,h2.2.1⟩
section
variable {X:Cx}{pins:List (Addr × Obj)}{σ:St}{H:Hp}{s:Shared}{a:Addr}{y d:V}{u r:Value}{o:Option V}{A:Around}{E:Value->Shared->Prop}
theorem yJ {Q:Value->Shared->Prop} (hu:A.units+1<cLine) (I:Inv X pins σ H s) (g:eB H a y o) (ry:bf y u) (rd:bf d r) (h:∀ w' s',Inv X pins σ H s'->bf (o.getD d) w'->Q w' s') :
  wpAny (model X.prog X.w) A (call (.builtin "dict.get") [.ref a,u,r]) Q E s:=by
 rcases g with ⟨kvs,k,e,ey,l⟩ | ⟨kvs,k,b,e,ey,eb,l⟩
 ·subst ey
  obtain ⟨z,hd,vs,rel,dd⟩:=qe I.aB e
  refine call_meetsIn Zsb dd.typeIs Zse (Zsf _ _ _) (meets_dict_get_default (ij X.prog X.w) a (rV ry) hd r) ⟨_,dd.mapOf,h _ _ (I.tok _) ?_⟩
  rw [l]
  exact (rel.val k).getD rd
 ·subst ey
  cases (show u=Value.ref b from ry)
  obtain ⟨z,hd,xs,rel,dd⟩:=vG I.aB e
  refine call_meetsIn Zsb dd.typeIs Zse (Zsf _ _ _) (meetsH_dict_get_default (tupleKind (ij X.prog X.w)) a b hd r) ⟨tupleKind_room_in1 hu,k,xs,AD I.aB eb,dd,h _ _ (I.tok _) ?_⟩
  rw [l]
  exact (rel.val k).getD rd
end
noncomputable def Hu (td ty tx:TE):TE:=fun σ H Q=>td σ H fun x H1=>∃ a,x=.ref a/\Jj H1 a/\ty σ H1 fun y H2=>tx σ H2 fun z H3=>∃ o,eB H3 a y o/\Q (o.getD z) H3
noncomputable def Nq (td ty:TE):TE:=fun σ H Q=>td σ H fun x H1=>∃ a,x=.ref a/\Jj H1 a/\ty σ H1 fun y H2=>∃ kvs k v,H2 a=some (.dK kvs)/\y=kV k/\bC kvs k=some v/\Q v (upd H2 a (.dK (wk kvs k)))
section
variable {X:Cx}{o e f:Expr}{apos cg:Pos}{td ty tx:TE}
theorem RH (hu:X.A.units+1<cLine) (ho:PE X o td) (he:PE X e ty) (hf:PE X f tx) (m:M2 X o "get" apos e f cg):PE X (.Call (.Attribute o "get" apos) [e,f] [] cg) (Hu td ty tx):=by
 intro pins s σ H Q I h
 refine wpAny_Call_method m.base m.Hq m.line Zsc Zsb PySem.F.type_dict_get (aV (ho pins s σ H _ I h) fun u s1 ⟨x,H1,I1,rx,a,ex,d,q1⟩=>?_)
 subst ex
 obtain rfl:u=Value.ref a:=rx
 obtain ⟨t1,t2,_⟩:=Mu I1 d
 refine ⟨t1,t2,?_⟩
 rw [m.trees]
 refine Calls.callWith_builtin rfl (Calls.evalArgs_plain (Calls.spliced_cons (aV (he pins s1 σ H1 _ I1 q1) fun iv s2 ⟨y,H2,I2,ry,q2⟩ =>
  Calls.spliced_cons (aV (hf pins s2 σ H2 _ I2 q2) fun fv s3 ⟨z,H3,I3,rz,ov,g,q3⟩=>Calls.spliced_nil ?_))))
 exact yJ hu I3 g ry rz fun w' s4 I4 rw'=>⟨_,H3,I4,rw',q3⟩
theorem ZoT (ho:PE X o td) (he:PE X e ty) (m:M1 X o "pop" apos e cg):PE X (.Call (.Attribute o "pop" apos) [e] [] cg) (Nq td ty):=by
 intro pins s σ H Q I h
 refine wpAny_Call_method m.base m.Hq m.line Zsc Zsd PySem.F.type_dict_pop (aV (ho pins s σ H _ I h) fun u s1 ⟨x,H1,I1,rx,a,ex,d,q1⟩=>?_)
 subst ex
 obtain rfl:u=Value.ref a:=rx
 obtain ⟨t1,t2,_⟩:=Mu I1 d
 refine ⟨t1,t2,?_⟩
 rw [m.trees]
 refine Calls.callWith_builtin rfl (Calls.evalArgs_plain (Calls.spliced_cons (aV (he pins s1 σ H1 _ I1 q1) fun iv s2 ⟨y,H2,I2,ry,kvs,k,v,ea,ey,l,q2⟩=>Calls.spliced_nil ?_)))
 subst ey
 exact FI I2 ea ry l (.inl rfl) fun w' s3 I3 rw'=>⟨v,_,I3,rw',q2⟩
end
section
variable {X:Cx}{pins:List (Addr × Obj)}{σ:St}{H:Hp}{s:Shared}{a:Addr}{kvs:List (Key × V)}{A:Around}{E:Value->Shared->Prop}
end
section
variable {X:Cx}{pins:List (Addr × Obj)}{σ:St}{H:Hp}{s:Shared}{a:Addr}{y:V}{u:Value}{A:Around}{E:Value->Shared->Prop}
end
end L2
namespace Vq
open PySem PySem.W PySem.Calls PyProof.Rows
theorem Xn {P:Params}{h:Heap}:∀ (ns:List Int) (vs:List Value),WellAll P h vs (ns.map WData.int)->IntsAre vs ns:=by
 intro ns
 induction ns with
 | nil =>
  intro vs w
  rw [ZsY] at w
  cases w
  exact .nil
 | cons n ns ih =>
  intro vs w
  rw [Zsw] at w
  cases w with
  | cons a b =>
   cases a
   exact .cons _ _ (ih _ b)
theorem Zm2 {l:OpenLaw}{n:Nat} (hn:l.most=some n) {P:Params}{h:Heap}{args:List WData}{vals:List Value}
  (rg:l.row.toRowW.claim.pre args=true) (o9:WellAll P h vals args) :
  ∃ a vs ns,vals=[Value.ref a]/\args=[WData.list (ns.map WData.int)]/\h.get? a=some { cls:=.type "list",data:=.seq vs.toArray }/\IntsAre vs ns/\ns.length<=n:=by
 have IX:WShape.hasAll [] args [.list .int]=true:=(pre_splitW rg).1
 have hc:l.pre.holds [] { args:=args }=true:=(pre_splitW rg).2
 obtain ⟨d,r,rfl,h1,h2⟩:=hasAllW_cons IX
 obtain rfl:=hasAllW_nil h2
 obtain ⟨xs,rfl,h3⟩:=hasW_list h1
 obtain ⟨ns,rfl⟩:=items_int h3
 have hlen:ns.length<=n:=by
  unfold OpenLaw.pre at hc
  have h4:(WTm.not (.lt (.lit (.int (n:Int))) (.len (.arg 0)))).holds [] { args:=[.list (ns.map .int)] }=true:=by
   have h4:=(holds_andW hc).1
   rw [hn] at h4
   exact h4
  have h5:=condW_of h4 (w_not (w_lt w_lit (w_len_list (w_arg rfl))))
  rw [Zsh] at h5
  refine Nat.le_of_not_lt fun q=>?_
  have q':(n:Int)<((ns.length:Nat):Int):=by omega
  first
   | (rw [decide_eq_true q'] at h5;exact absurd h5 (by decide))
   | (simp at h5;omega)
 cases o9 with
 | cons w1 w2 =>
  cases w2
  cases w1 with
  | list ho yL=>exact ⟨_,_,ns,rfl,rfl,ho,Xn ns _ yL,hlen⟩
theorem Zne (l:OpenLaw) (args:List WData):l.row.toRowW.claim.post args (.bool true) args=true :=
 postW_of (r:=l.row.toRowW) (X:=(true == true))
  (show WShape.has [] (.bool true) .bool=true by first | rfl | decide | simp [WShape.has,WShape.arms,WShape.armsAll])
  (show (WTm.eq .res (.lit (.bool true))).value [] { args:=args,res:=some (.bool true),after:=args }=some (.bool (true == true)) from w_eq_bool (w_res rfl) w_lit) rfl
theorem Zk8 {l:OpenLaw}{n:Nat}{q:Program}{loose:List Str}{XP:(Str->Option Value)->Heap->Prop}{YP:World->Heap->Prop}{d:DefRec}
  (hn:l.most=some n) (BG:d.params.defaults=[])
  (call:∀ (w:World) (s₀ s₁:Shared) (mg mb:Str->Option Value) (fa:Addr) (o:Obj) (pm cd doc:Value) (a:Addr) (vs:List Value) (ns:List Int),
   Ground q loose [] XP w s₀ mg mb s₁.heap->YP w s₁.heap ->
   s₁.heap.get? fa=some o->o.data=.func (docDef d.name d.params d.body d.scope pm cd doc)->s₁.heap.CodeRec cd d.name->mg d.name=some (.ref fa) ->
   s₁.heap.get? a=some { cls:=.type "list",data:=.seq vs.toArray }->IntsAre vs ns->ns.length<=n->s₁.gens = #[] ->
   codeAny (model l.prog w) callerA (.call (.ref fa) ⟨[.ref a],[]⟩) (fun r s'=>r=.ok (.ret (.bool true))/\OldK s₁.heap s'.heap/\s'.os=s₁.os/\AllBare s'.gens) s₁) :
  WalkO q loose XP YP l.row.toRowW d [] (fun f vs=>PySem.call f vs):=by
 intro w s₀ s₁ mg mb G Y fa o pm cd doc dV kV ho hd mD hD hmg hg args vals as rg hlay hrd o9 oo
 obtain rfl:dV=.none:=Dflts.none hD BG
 obtain rfl:kV=.none:=Dflts.noKw hD
 obtain ⟨a,vs,ns,rfl,rfl,hobj,hints,hlen⟩:=Zm2 hn rg o9
 refine enter_call (codeAny_mono (call w s₀ s₁ mg mb fa o pm cd doc a vs ns G Y ho (fd_plain hd) mD hmg hobj hints hlen hg) fun r s' hq=>?_)
 obtain ⟨rfl,h2,h3,h4⟩:=hq
 exact ⟨.inl ⟨.bool true,.bool true,[],rfl,fun _=>rfl,.bool true,Zne l _,fun _=>⟨Ztw.nil,fun _ hm=>(nomatch hm)⟩⟩,h2,h3,h4⟩
section
variable {prog:Program}{w:World}{A:Around}{E:Value->Shared->Prop}{s:Shared}{K:Frag}
noncomputable def ledger (h:Heap) (L d:Addr):List (Addr × Obj):=(Zsj h.objs.size).filterMap fun a=>if a=L\/a=d then none else (h.get? a).map fun o=>(a,o)
end
end Vq
namespace L2
open PySem PySem.Spec PyProof.Rows
theorem Jt:∀ {vs:List Value}{ns:List Int},IntsAre vs ns->Vals (ns.map V.int) vs
 | _,_,.nil=>.nil
 | _,_,.cons n t h=>.cons ⟨t,rfl⟩ (Jt h)
noncomputable def xH (H:Hp):Prop:=∀ b,H b=none\/∃ o xs,H b=some (.frz o (.lst xs))
theorem Wc {P:Program}{w:World}{K:ZrF}{mg mb:Str->Option Value}{CX:lF}{k:Nat}{fa a:Addr}{fd:FuncData}{x:Str}{sp:Sp}{s₁:Shared}{vs:List Value}{ns:List Int}
  (KX:K.In s₁.heap) (rY:s₁.heap.Ns mainGlobals mg) (hb:s₁.heap.Ns builtinsNs mb) (ZU:∀ x:Str,x ≠ "__name__" -> mb x=bootBuiltins x) (Lo:s₁.heap.NoLimit) (hg:s₁.gens = #[])
  (ha:s₁.heap.get? a=some { cls:=.type "list",data:=.seq vs.toArray }) (hi:IntsAre vs ns) (hl:ns.length<=sizeLine) (hr:bG k callerA)
  (F:∀ base:Heap,K.In base->base.Ns mainGlobals mg->aG P w K mg base CX k fa fd [x] sp) (F0:∀ (s:Shared) (u:Value),BindsTo s fd ⟨[u],[]⟩ [(x,u)])
  (qx:∀ H:Hp,xH H->bg K H a (ns.map V.int)->sp [.ref a] H (fun v _=>v=.bl true) fun _ _ _=>False)
  (N8:∀ H e s',CX [] H s₁ (fun _ _ _=>False) e s'->False) :
  codeAny (model P w) callerA (.call (.ref fa) ⟨[.ref a],[]⟩) (fun r s'=>r=.ok (.ret (.bool true))/\OldK s₁.heap s'.heap/\s'.os=s₁.os/\AllBare s'.gens) s₁:=by
 have rv:=Jt hi
 have Lz:=hi.length
 -- from an abstract heap in which nothing but oS script may be tracked
 have core:∀ H:Hp,xH H->bg K H a (ns.map V.int)->fJ P w H s₁.heap->(∀ b,H b≠none->b=a)->(H a≠none->K.lookup a=none) ->
   codeAny (model P w) callerA (.call (.ref fa) ⟨[.ref a],[]⟩) (fun r s'=>r=.ok (.ret (.bool true))/\OldK s₁.heap s'.heap/\s'.os=s₁.os/\AllBare s'.gens) s₁:=by
  intro H hO hS aB hA hK
  have mx:∀ {b:Addr}{o:Obj},s₁.heap.get? b=some o->H b=none->(qQ s₁.heap H).get? b=some o:=fun e n=>Zpe e n
  have Dz:∀ {b:Addr}{o:Obj}{es:Array DictEntry}{ep:Nat},s₁.heap.get? b=some o->o.data=.dict es ep->H b=none:=fun {b o es ep} e d=>by
   cases q:H b with
   | none=>rfl
   | some u =>
    have e':b=a:=hA b (by rw [q];simp)
    subst e'
    rw [ha] at e;cases e
    have d':Data.seq vs.toArray _=Data.dict es ep:=d
    cases d'
  have Io:∀ {b:Addr}{m:Str->Option Value},s₁.heap.Ns b m->(qQ s₁.heap H).Ns b m:=fun {b m} ⟨o,es,ep,e,d,r⟩=>⟨o,es,ep,mx e (Dz e d),d,r⟩
  have QJ:K.In (qQ s₁.heap H):=fun b o e=>mx (KX b o e) (by
   cases q:H b with
   | none=>rfl
   | some u =>
    have e':b=a:=hA b (by rw [q];simp)
    subst e'
    rw [hK (by rw [q];simp)] at e;cases e)
  have hM:Mod K mg (qQ s₁.heap H):=⟨QJ,Io rY,⟨mb,Io hb,ZU⟩,let ⟨mc,h1,h2⟩:=Lo;⟨mc,Io h1,h2⟩⟩
  have e0:iY P w K mg (qQ s₁.heap H) callerA [] s₁ H:=⟨rfl,hM,fun b o e=>Zq0 e,Nat.le_of_eq (Z2 _ _),trivial,fun b hb=>absurd (show b∈([]:List Addr) from hb) (by simp),aB,.of_eq hg⟩
  refine codeAny_mono ((F _ QJ (Io rY)).run callerA [] s₁ H ⟨[.ref a],[]⟩ [.ref a] [.ref a] _ _ hr e0 (F0 s₁ (.ref a)) (.cons rfl .nil) (qx H hO hS)) fun r s' h=>?_
  cases r with
  | error e=>exact (N8 H e s' h).elim
  | ok fl =>
   cases fl with
   | next=>exact False.elim h
   | brk=>exact False.elim h
   | cont=>exact False.elim h
   | ret u =>
    obtain ⟨v,H',os,bare,un,hok',r',q⟩:=h
    have q':v=.bl true:=q
    subst q'
    obtain rfl:u=Value.bool true:=r'
    refine ⟨rfl,OldK.of_keep fun b o e=>?_,os,bare⟩
    cases q:H b with
    | none=>exact un.keep b o e q (by intro z;exact absurd (show b∈([]:List Addr) from z) (by simp)) (by simp)
    | some u =>
     rcases hO b with z | ⟨ob,xs,z⟩
     ·rw [q] at z;cases z
     ·have z2:=un.gE b ob _ z
      obtain ⟨e1,_⟩:=aB b _ z
      obtain ⟨e2,_⟩:=hok' b _ z2
      rw [e] at e1;cases e1
      exact e2
 cases hk:K.lookup a with
 | some o =>
  -- oS script is one of oS module's own objects
  have e:=KX a o hk
  rw [ha] at e
  cases e
  refine core (fun _=>none) (fun _=>.inl rfl) (.inr ⟨_,vs.toArray,_,hk,rfl,rfl,rfl,by rw [Zsr,Lz];exact hl,by simpa using rv⟩) (fun b u z=>by have z':(none:Option HO)=some u:=z;cases z') (fun b z=>absurd rfl z) fun z=>absurd rfl z
 | none =>
  refine core (fun b=>if b=a then some (.frz { cls:=.type "list",data:=.seq vs.toArray } (.lst (ns.map V.int))) else none) (fun b=>?_) (.inl (.inr ⟨{ cls:=.type "list",data:=.seq vs.toArray },if_pos rfl⟩)) (fun b u z=>?_) (fun b z=>?_) fun _=>hk
  ·by_cases hb:b=a
   ·exact .inr ⟨_,_,if_pos hb⟩
   ·exact .inl (if_neg hb)
  ·by_cases hb:b=a
   ·have z':=(if_pos hb).symm.trans z
    cases z'
    subst hb
    exact ⟨ha,by rw [Zsh];exact hl,vs,_,rv,ha⟩
   ·have z':=(if_neg hb).symm.trans z
    cases z'
  ·by_cases hb:b=a
   ·exact hb
   ·exact absurd (if_neg hb) z
noncomputable abbrev Q5 {K:ZrF}{h:Heap} (_:K.In h):ZrF:=K
theorem Sw {l:Zr2}{n k:Nat}{q:Program}{loose:List Str}{XP:(Str->Option Value)->Heap->Prop}{YP:World->Heap->Prop}{d:DefRec}{K:Params->ZrF}{CX:World->lF}{sp:World->Sp}{x:Str}
  (hn:l.most=some n) (IY:n<=sizeLine) (BG:d.params.defaults=[]) (hr:bG k callerA)
  (hY:∀ (w:World) (h:Heap),YP w h->(K w.params).In h)
  (F:∀ (w:World) (mg:Str->Option Value) (fa:Addr) (h:Heap),(K w.params).In h->h.Ns mainGlobals mg->mg d.name=some (.ref fa) ->
   ∃ fd:FuncData,(∀ (s:Shared) (u:Value),BindsTo s fd ⟨[u],[]⟩ [(x,u)]) /\
    ∀ base:Heap,(K w.params).In base->base.Ns mainGlobals mg->aG l.prog w (K w.params) mg base (CX w) k fa fd [x] (sp w))
  (qx:∀ (w:World) (H:Hp) (a:Addr) (ns:List Int),ns.length<=n->xH H->bg (K w.params) H a (ns.map V.int)->sp w [.ref a] H (fun v _=>v=.bl true) fun _ _ _=>False)
  (N8:∀ (w:World) (H:Hp) (s:Shared) (e:Value) (s':Shared),CX w [] H s (fun _ _ _=>False) e s'->False) :
  PySem.W.WalkO q loose XP YP l.row.toRowW d [] (fun f vs=>PySem.call f vs):=by
 refine Vq.Zk8 hn BG fun w s₀ s₁ mg mb fa o pm cd doc a vs ns G Y ho hd mD hmg hobj hints hlen hg=>?_
 have KX:=hY w _ Y
 obtain ⟨fd,hb,hF⟩:=F w mg fa _ KX G.T.g hmg
 exact Wc KX G.T.g G.T.b G.T.builtins G.T.nolimit hg hobj hints (ZtL hlen IY) hr hF hb (fun H hO hS=>qx w H a ns hlen hO hS) fun H e s'=>N8 w H s₁ e s'
end L2
/- THE LAST THEOREM (shape;LID,My.* are yours):
   My.bZ: a structure of oS addresses that your layer names (classes,functions);My.Txt K t: a structure (Prop) of oS equations over K;
   My.txt_mk:{K}{implicit addresses ..} (e1:nsIn K mainGlobals "law" = some (some (.ref f))) (e2:K.lookup f=some ⟨oc,od,.func (fnOf "law" "law" params body scope dV kV doc pm an bU ct),sl⟩) (e3:codeIn K bU "law" = true) .. : ∃ t,My.Txt K t
set_option maxRecDepth 100000 in
set_option maxHeartbeats 0 in
theorem PySem.Challenge.cw_LID_holds : PySem.Challenge.rw_LID.Holds := by
 w_on;o_law;k_head;(case hw=>w_witness2)
 k_fill
 refine L2.Sw (l:=PySem.Challenge.rw_LID) (n:=63) (k:=40) (x:="script") (CX:=fun w=>..) (sp:=fun _=>My.jd) rfl (by decide) rfl ⟨rfl,by decide,by decide⟩ (fun w h Y=>PySem.W.kIn_of Y) ?F ?S ?C
 case F =>
  intro w mg fa h KX G hmg
  have T:∃ t,My.Txt (L2.Q5 KX) t:=by
   dsimp only [L2.Q5]                          -- K must stand as «<heap const> w.params» for k_is
   refine' My.txt_mk ?e1 ?e2 ?e3 ..
   (case e1 => PySem.W.k_is)                    -- in oS order: a name -> its address -> its object -> its parts
   (case e2=>PySem.W.k_is)
   ..
  obtain ⟨t,T⟩:=T
  have e0:=hmg.symm.trans (ZrI KX G T.law)
  cases e0                                       -- fa is oS law's own address
  exact ⟨_, fun s u => .of_eq rfl, fun base kb nb => My.law_fn T kb nb⟩     -- if «.of_eq rfl» comes too early: refine' ⟨_, ?b, fun base kb nb => My.law_fn T kb nb⟩; exact fun s u => .of_eq rfl
 case S=>exact fun w H a ns hl hO hS=>..
 case C=>exact ..
(oS tactic k_is has no namespace: write k_is) -/
namespace L2
open PySem PySem.Spec PyProof.Rows
noncomputable def cM (s:Stmt) (j:Nat):Stmt:=match s with
 | .ClassDef _ _ _ body _ _ _ _ _ _ _=>body.getD j (.Pass ⟨0,0,0,0⟩)
 | _=>.Pass ⟨0,0,0,0⟩
noncomputable def oj (s:Stmt):Arguments:=match s with
 | .FunctionDef _ a _ _ _ _ _ _ _ _=>a
 | _=>{ posonlyargs:=[],args:=[],vararg:=none,kwonlyargs:=[],kw_defaults:=[],kwarg:=none,defaults:=[] }
noncomputable def lE (s:Stmt):List Stmt:=match s with
 | .FunctionDef _ _ b _ _ _ _ _ _ _=>b
 | _=>[]
noncomputable def aW (s:Stmt):Scope:=match s with
 | .FunctionDef _ _ _ _ _ _ sc _ _ _=>sc
 | _=>{ kind:=.function,names:=[],isGenerator:=false,isCoroutine:=false }
noncomputable abbrev dw:lF:=fun _ _ _ _ _ _=>False
noncomputable abbrev E0:XK:=fun _ _ _=>False
theorem bE {X:Cx}:qH dw X E0:=fun _ _ _ _ _ _ _ h=>h.elim
structure kJ (K:ZrF) (x qual:Str) (st:Stmt) (f:Addr) (fd:FuncData):Prop where
 ex:∃ (oc:Value) (od:Option Addr) (kV doc pm:Value) (an:Option Addr) (bU ct:Value) (mL:Array (Option Value)),
  fd=ZrK x qual (oj st) (lE st) (aW st) .none kV doc pm an bU ct/\K.lookup f=some ⟨oc,od,.func fd,mL⟩/\ZrR K bU qual=true
 kp:ZrP K (.ref f)=true
section
variable {P:Program}{w:World}{K:ZrF}{mg:Str->Option Value}{base:Heap}
theorem kJ.ok {x qual:Str}{st:Stmt}{f:Addr}{fd:FuncData}{N ps:List Str}{k:Nat}{sp:Sp} (F:kJ K x qual st f fd) (S:ak N ps (aW st)) (len:∀ vs H Q E,sp vs H Q E->vs.length=ps.length)
  (kU:∀ (bU:Value) (A:Around) (outer:List Env) (s:Shared) (H:Hp) (vs:List V) (Q:VK) (E:XK),bG k (A.deeper (envOfC qual (aW st) s.heap.objs.size f bU))->sp vs H Q E ->
   ∃ t,j7 (lB dw P w K mg base N qual (aW st) f bU A outer s H E).qA (lE st) t/\t { nx:=fun _ H'=>Q .non H',rt:=Q } (start N vs) H):aG P w K mg base dw (k+1) f fd ps sp:=by
 obtain ⟨oc,od,kV,doc,pm,an,bU,ct,mL,rfl,lk,mD⟩:=F.ex
 refine sN lk mD S len fun A outer s H vs Q E hr qx=>?_
 obtain ⟨t,h,q⟩:=kU bU A outer s H vs Q E hr qx
 exact ⟨t,h.qA,q⟩
theorem kJ.binds {x qual:Str}{st:Stmt}{f:Addr}{fd:FuncData}{ps:List Str} (F:kJ K x qual st f fd)
  (h:∀ (kV doc pm:Value) (an:Option Addr) (bU ct:Value) (us:List Value),us.length=ps.length->bindArgs (ZrK x qual (oj st) (lE st) (aW st) .none kV doc pm an bU ct) ⟨us,[]⟩=pure (ps.zip us)):pk K fd ps []:=by
 obtain ⟨oc,od,kV,doc,pm,an,bU,ct,mL,rfl,lk,mD⟩:=F.ex
 exact .all (h kV doc pm an bU ct)
theorem UG {x qual:Str}{st:Stmt}{f:Addr}{oc:Value}{od an:Option Addr}{mL:Array (Option Value)}{kV doc pm bU ct:Value} (l:K.lookup f=some ⟨oc,od,.func (ZrK x qual (oj st) (lE st) (aW st) .none kV doc pm an bU ct),mL⟩)
  (c:ZrR K bU qual=true) (k:ZrP K (.ref f)=true):kJ K x qual st f (ZrK x qual (oj st) (lE st) (aW st) .none kV doc pm an bU ct):=⟨⟨oc,od,kV,doc,pm,an,bU,ct,mL,rfl,l,c⟩,k⟩
end
theorem eG {A:Around}{k:Nat} (hr:bG k A):A.units+1<cLine:=Nat.lt_of_le_of_lt (Nat.add_le_add_left (by decide:1<=64) _) hr.units
section
variable {X:Cx}
theorem Xu:jE X (.builtin "len") (fun xs H Q=>∃ a kvs,xs=[V.ref a]/\H a=some (.dK kvs)/\Q (.int kvs.length) H):=by
 intro pins s σ H xs us Q I r h
 obtain ⟨a,kvs,rfl,ha,q⟩:=h
 obtain ⟨u,rfl,ru⟩:=qD r
 cases ru
 exact D2 I (.inl ha) fun t s' I'=>⟨.int kvs.length,H,I',⟨t,rfl⟩,q⟩
end
noncomputable def aQ (H H':Hp):Prop:=∀ b o,H b=some o->H' b=some o
theorem aQ.refl (H:Hp):aQ H H:=fun _ _ h=>h
theorem aQ.trans {H H1 H2:Hp} (a:aQ H H1) (b:aQ H1 H2):aQ H H2:=fun c o h=>b c o (a c o h)
theorem aQ.free {H H':Hp} (e:aQ H H') {l:Addr} (h:H' l=Option.none):H l=Option.none:=by
 cases q:H l with
 | none=>rfl
 | some o =>
  rw [e l o q] at h
  cases h
theorem aQ.seq {K:ZrF}{H H':Hp}{a:Addr}{xs:List V} (e:aQ H H') (h:bg K H a xs):bg K H' a xs:=by
 rcases h with (h | ⟨o,h⟩) | h
 ·exact .inl (.inl (e _ _ h))
 ·exact .inl (.inr ⟨o,e _ _ h⟩)
 ·exact .inr h
section
variable {κ:Type} [DecidableEq κ]
end
noncomputable def js (env:Env):List (Str × NameKind)->List (Str × Addr)->List (Str × Addr)
 | [],acc=>acc
 | (n,k) :: r,acc=>if (k == NameKind.free)=true then js env r ((n,(env.cells.lookup n).getD 0) :: acc) else js env r acc
theorem X4 {env:Env}{n:Str}{c:Addr} (h:env.cells.lookup n=some c):cellOf env n=pure c:=by
 unfold cellOf
 rw [h]
theorem Tb {env:Env}:∀ (names:List (Str × NameKind)) (acc:List (Str × Addr)),(∀ x∈names,x.2=.free->∃ c,env.cells.lookup x.1=some c) ->
  (forIn names acc fun (x:Str × NameKind) (cs:List (Str × Addr))=>(match x with | (name,kind)=>if (kind == NameKind.free)=true then (do let __do_lift <- cellOf env name;pure PUnit.unit;pure (ForInStep.yield ((name,__do_lift) :: cs)):Sem _) else (do pure PUnit.unit;pure (ForInStep.yield cs)):Sem (ForInStep (List (Str × Addr)))))=pure (js env names acc)
 | [],acc,_=>rfl
 | (n,k) :: r,acc,h=>by
  have ih:=fun a=>Tb r a fun x hx=>h x (ZsD _ hx)
  rw [Ztj]
  by_cases hk:(k == NameKind.free)=true
  ·obtain ⟨c,hc⟩:=h (n,k) ZsJ (by simpa using hk)
   simp only [hk,if_true,js,X4 hc,hc,Option.getD_some,pure_bind]
   exact ih _
  ·simp only [hk,if_false,js,pure_bind]
   exact ih _
theorem R9 {scope:Scope}{env:Env} (h:∀ x∈scope.names,x.2=.free->∃ c,env.cells.lookup x.1=some c):closureFor scope env=pure (js env scope.names []):=by
 unfold closureFor
 have q:=Tb scope.names [] h
 exact (congrArg (fun m=>m >>= pure) q).trans (pure_bind _ _)
theorem ND {env:Env}:∀ (names:List (Str × NameKind)) (acc:List (Str × Addr)),(∀ x∈names,x.2=.free->∃ c,env.cells.lookup x.1=some c)->(∀ p∈acc,env.cells.lookup p.1=some p.2) ->
  ∀ p∈js env names acc,env.cells.lookup p.1=some p.2
 | [],acc,_,ha=>ha
 | (n,k) :: r,acc,h,ha=>by
  by_cases hk:(k == NameKind.free)=true
  ·obtain ⟨c,hc⟩:=h (n,k) ZsJ (by simpa using hk)
   simp only [js,hk,if_true]
   refine ND r _ (fun x hx=>h x (ZsD _ hx)) fun p hp=>?_
   rcases Zst.mp hp with rfl | hp
   ·show env.cells.lookup n=some _
    rw [hc];rfl
   ·exact ha p hp
  ·simp only [js,hk,if_false]
   exact ND r _ (fun x hx=>h x (ZsD _ hx)) ha
theorem Om {env:Env}:∀ (names:List (Str × NameKind)) (acc:List (Str × Addr)) (p:Str × Addr),p∈acc->p∈js env names acc
 | [],_,_,h=>h
 | (n,k) :: r,acc,p,h=>by
  by_cases hk:(k == NameKind.free)=true
  ·simp only [js,hk,if_true]
   exact Om r _ p (ZsD _ h)
  ·simp only [js,hk,if_false]
   exact Om r _ p h
theorem Px {env:Env}:∀ (names:List (Str × NameKind)) (acc:List (Str × Addr)) (x:Str),(x,NameKind.free)∈names->∃ c,(x,c)∈js env names acc
 | (n,k) :: r,acc,x,h=>by
  rcases Zst.mp h with e | h
  ·injection e with e1 e2
   subst e1;subst e2
   simp only [js,beq_self_eq_true,if_true]
   exact ⟨_,Om r _ _ ZsJ⟩
  ·by_cases hk:(k == NameKind.free)=true
   ·simp only [js,hk,if_true]
    exact Px r _ x h
   ·simp only [js,hk,if_false]
    exact Px r _ x h
theorem VM:∀ {l:List (Str × Addr)}{x:Str}{c:Addr},(x,c)∈l->∃ d,l.lookup x=some d
 | (n,d) :: r,x,c,h=>by
  by_cases e:x == n
  ·exact ⟨d,by simp [ZsP,e]⟩
  ·rcases Zst.mp h with q | q
   ·injection q with q1 _
    subst q1
    simp at e
   ·obtain ⟨d',hd⟩:=VM q
    exact ⟨d',by simp [ZsP,e,hd]⟩
theorem JM {env:Env}:∀ {names:List (Str × NameKind)}{x:Str}{k:NameKind},
  (names.map fun (n,k)=>if (k == NameKind.free && env.scope.kind == .function && env.kindOf n == some .cell) then (n,NameKind.cell) else (n,k)).lookup x=some k ->
  ∃ k',names.lookup x=some k'/\(k=k'\/k'=.free)
 | [],_,_,h=>by simp at h
 | (n,j) :: r,x,k,h=>by
  have ih:=@JM env r x k
  by_cases hc:(j == NameKind.free && env.scope.kind == .function && env.kindOf n == some .cell)=true
  ·simp only [Zsw,hc,if_true,ZsP] at h ⊢
   cases e:x == n with
   | true =>
    rw [e] at h
    refine ⟨j,rfl,.inr ?_⟩
    simp only [Zun,beq_iff_eq] at hc
    exact hc.1.1
   | false =>
    rw [e] at h
    exact ih h
  ·rw [Zsw] at h
   dsimp only at h
   rw [if_neg hc,ZsP] at h
   rw [ZsP]
   cases e:x == n with
   | true =>
    rw [e] at h
    exact ⟨j,rfl,.inl (by injection h with h;exact h.symm)⟩
   | false =>
    rw [e] at h
    exact ih h
theorem Vg {env:Env}:∀ {names:List (Str × NameKind)}{x:Str},names.lookup x=some .free ->
  (names.map fun (n,k)=>if (k == NameKind.free && env.scope.kind == .function && env.kindOf n == some .cell) then (n,NameKind.cell) else (n,k)).lookup x=some .cell \/
  (names.map fun (n,k)=>if (k == NameKind.free && env.scope.kind == .function && env.kindOf n == some .cell) then (n,NameKind.cell) else (n,k)).lookup x=some .free
 | [],_,h=>by simp at h
 | (n,j) :: r,x,h=>by
  have ih:=@Vg env r x
  cases e:x == n with
  | true =>
   rw [ZsP,e] at h
   injection h with h
   subst h
   rw [Zsw]
   dsimp only
   split
   ·exact .inl (by simp [ZsP,e])
   ·exact .inr (by simp [ZsP,e])
  | false =>
   rw [ZsP,e] at h
   rcases ih h with q | q
   ·left
    rw [Zsw]
    dsimp only
    split <;> simp only [ZsP,e] <;> exact q
   ·right
    rw [Zsw]
    dsimp only
    split <;> simp only [ZsP,e] <;> exact q
noncomputable def oB (X:Cx) (scope:Scope) (N:List Str) (C:Addr) (s:Shared) (H:Hp) (fp:List Addr):Cx :=
 { X with N:=N,s₀:=s,H₀:=H,env:=compEnvC scope (js X.env scope.names []) C X.env,outer:=X.stack,stack:=X.stack,ex:=fp,fn:=fun _=>false,pn:=[],xe:=fun _ _=>False }
structure az (X:Cx) (scope:Scope):Prop where
 kind:scope.kind=.function
 pP:∀ y∈scope.names,y.2≠.cell
 names:∀ y∈scope.names,y.2=.local->scope.names.lookup y.1=some .local
 free:∀ y∈scope.names,y.2=.free->X.env.kindOf y.1=some .cell\/X.env.kindOf y.1=some .free
section
variable {X:Cx}{pins:List (Addr × Obj)}{σ:St}{H:Hp}{s:Shared}
theorem az.has {scope:Scope} (S:az X scope) (ok:X.Ok):∀ x∈scope.names,x.2=.free->∃ c,X.env.cells.lookup x.1=some c:=fun x hx h=>ok.has _ (S.free x hx h)
theorem xa {scope:Scope} (S:az X scope) (ok:X.Ok) {x:Str}{c:Addr} (h:(js X.env scope.names []).lookup x=some c):X.env.cells.lookup x=some c :=
 ND scope.names [] (S.has ok) (fun p hp=>absurd hp (by simp)) (x,c) (PySem.mem_of_lookup h)
theorem Og {scope:Scope} (S:az X scope) (ok:X.Ok) {x:Str} (h:scope.names.lookup x=some .free):∃ c,(js X.env scope.names []).lookup x=some c/\X.env.cells.lookup x=some c:=by
 obtain ⟨c,hc⟩:=Px (env:=X.env) scope.names [] x (PySem.mem_of_lookup h)
 obtain ⟨d,hd⟩:=VM hc
 exact ⟨d,hd,xa S ok hd⟩
structure aF (X:Cx) (scope:Scope) (N:List Str) (k:Nat) (sel:List Nat):Prop where
 len:N.length=k+sel.length
 fr:∀ (i j:Nat) (x:Str),sel[i]? = some j->N[k+i]? = some x->X.N[j]? = some x/\scope.names.lookup x=some .free
noncomputable def cst (σ:St) (k:Nat) (sel:List Nat):St:=Zsp k none ++ sel.map fun j=>(σ[j]?).join
theorem Zrl {k:Nat}{sel:List Nat}:(cst σ k sel).length=k+sel.length:=by
 unfold cst;rw [Zsm,ZsM,Zsh]
theorem Vi {scope:Scope}{N:List Str}{fp:List Addr} (S:az X scope) (I:Inv X pins σ H s) (hf:∀ b∈fp,lg X pins H b) (bw:∀ b∈fp,b<s.heap.objs.size):(oB X scope N s.heap.objs.size s H fp).Ok where
 mod:=I.ok.mod
 kind:=S.kind
 glob:=I.ok.glob
 blt:=I.ok.blt
 above:=ZtJ _
 inj:=fun x y c h1 h2=>I.ok.inj x y c (xa S I.ok h1) (xa S I.ok h2)
 has:=fun x h=>by
  have h':(relabel scope X.env).names.lookup x=some .cell\/(relabel scope X.env).names.lookup x=some .free:=h
  rcases h' with h' | h'
  ·obtain ⟨k',e,q⟩:=JM h'
   rcases q with q | q
   ·subst q
    exact absurd rfl (S.pP _ (PySem.mem_of_lookup e))
   ·subst q
    obtain ⟨c,hc,_⟩:=Og S I.ok e
    exact ⟨c,hc⟩
  ·obtain ⟨k',e,q⟩:=JM h'
   have:k'=.free:=by rcases q with q | q;exact q.symm;exact q
   subst this
   obtain ⟨c,hc,_⟩:=Og S I.ok e
   exact ⟨c,hc⟩
 tJ:=fun x c h=>absurd (show false=true from h) (by simp)
 hd:=I.ok.hd
 frames:=I.ok.frames
 ve:=.inl rfl
 C1:=fun b hb=>⟨ZtK (bw b hb),fun x c h=>(hf b hb).2.2.2.2.1 x c (xa S I.ok h)⟩
 bs:=I.bs
 mE:=ZtL I.ok.mE I.sz
 j9:=fun b o e hb=>by
  rcases (hf b hb).2.2.2.1 with z | z
  ·exact I.ok.j9 b o e z
  ·exact absurd (ZtM (Heap.lt_size e) (ZtL I.ok.mE z)) (ZtU _)
 kI:=fun b hb z=>by
  rcases Zst.mp (I.lZ b z) with q | q
  ·exact (hf b hb).2.1 q
  ·exact (hf b hb).2.2.1 q
 fF:=I.stack
 pF:=I.iD
theorem Zro {scope:Scope}{N:List Str}{fp:List Addr}{k:Nat}{sel:List Nat}{h₁:Heap}{m:Str->Option Value}{t':Nat} (S:az X scope) (M:aF X scope N k sel) (I:Inv X pins σ H s) (hf:∀ b∈fp,lg X pins H b) (bw:∀ b∈fp,b<s.heap.objs.size)
  (hn:h₁.Ns s.heap.objs.size m) (hk:∀ b o,s.heap.get? b=some o->h₁.get? b=some o):Inv (oB X scope N s.heap.objs.size s H fp) [] (cst σ k sel) H { s with heap:=h₁,toks:=t' }:=by
 refine ⟨Vi S I hf bw,rfl,I.bare,Un.kept hk,⟨m,hn,fun i x v e1 e2 e3=>?_⟩,fun x c e=>?_,I.aB.fresh (ZtJ _),fun x c e=>I.dr x c (xa S I.ok e),fun p hp=>absurd (show p∈([]:List (Addr × Obj)) from hp) (by simp),I.aB.kept hk,?_⟩
 ·have hi:k<=i:=by
   by_cases hi:k<=i
   ·exact hi
   ·unfold cst at e2
    rw [ZsA (by simp;omega),Ztf] at e2
    split at e2 <;> cases e2
  obtain ⟨d,rfl⟩:∃ d,i=k+d:=⟨i - k,by omega⟩
  unfold cst at e2
  rw [ZsC (by simp),ZsM,Nat.add_sub_cancel_left,Zsu] at e2
  cases ej:sel[d]? with
  | none=>rw [ej] at e2;cases e2
  | some j =>
   rw [ej] at e2
   have e2':(σ[j]?).join=some v:=Option.some.inj e2
   have e4:σ[j]? = some (some v):=by
    cases q:σ[j]? with
    | none=>rw [q] at e2';cases e2'
    | some o=>rw [q] at e2';cases o with
     | none=>cases e2'
     | some w=>cases e2';rfl
   obtain ⟨hN,qF⟩:=M.fr d j x ej e1
   obtain ⟨mo,kd,oo⟩:=I.loc
   have mZ:=S.free _ (PySem.mem_of_lookup qF) rfl
   obtain ⟨u,ru,lu⟩:=oo j x v hN e4 (by rcases mZ with q | q;exact .inr (.inl q);exact .inr (.inr q))
   obtain ⟨c,hc,hc'⟩:=Og S I.ok qF
   refine ⟨u,ru,.inr ⟨?_,c,hc,?_⟩⟩
   ·exact Vg qF
   ·rcases lu with ⟨kl,_⟩ | ⟨_,c',e5,z⟩
    ·rcases mZ with q | q
     ·rw [kl] at q;cases q
     ·rw [kl] at q;cases q
    ·rw [hc'] at e5;cases e5
     obtain ⟨o,ho,hd⟩:=z
     exact ⟨o,hk _ _ ho,hd⟩
 ·obtain ⟨v,o,ho,hd⟩:=I.cell x c (xa S I.ok e)
  exact ⟨v,o,hk _ _ ho,hd⟩
 ·rw [Zrl];exact M.len.symm
end
noncomputable def uJ (X:Cx) (ifs:List Expr) (t:TT):Prop :=
 ∀ (pins:List (Addr × Obj)) (s:Shared) (σ:St) (H:Hp) (Q:Bool->Hp->Prop),Inv X pins σ H s->t σ H Q ->
  wpAny (model X.prog X.w) X.A (forIn ifs true fun c r=>if r=true then do let ok <- isTrue c X.env (eval c X.env);pure (ForInStep.yield ok) else pure (ForInStep.yield r)) (TP X pins σ Q) X.xe s
noncomputable def gr:TT:=fun _ H Q=>Q true H
theorem jq {X:Cx}:uJ X [] gr:=fun pins s σ H Q I h=>wpAny_tests_nil ⟨H,I,h⟩
theorem Ap {X:Cx}{c:Expr}{t:TT} (hc:PT X c t):uJ X [c] t:=fun pins s σ H Q I h=>wpAny_tests_one (hc pins s σ H Q I h)
noncomputable def eN (wi:TI) (k:Nat) (sel:List Nat) (g:TG) (tt:TT) (te:TE):TE:=fun σ H Q=>wi σ H fun J H1=>∀ p,H1 p=none ->
 ∃ W:Nat->Nat->St->Hp->Prop,(∃ m,W 0 m (cst σ k sel) (upd H1 p (.lst [])))/\∀ i m σ2 H2,W i m σ2 H2 ->
  (J.stop i H2/\Q (.ref p) H2)\/(J.go i H2/\∀ x H3,J.lT i H2 x H3->g x σ2 H3 fun σ4 H4=>tt σ4 H4 fun b H5 =>
   if b=true then te σ4 H5 fun v H6=>∃ ys,H6 p=some (.lst ys)/\ys.length<sizeLine/\∃ m',m'<m/\W (i+1) m' σ4 (upd H6 p (.lst (ys ++ [v]))) else ∃ m',m'<m/\W (i+1) m' σ4 H5)
theorem Zq {X:Cx}{elt tg iter:Expr}{ifs:List Expr}{scope:Scope}{pos:Pos}{it D:Addr}{fp:List Addr}{tn:Nat->Heap->Prop}{J:It}{g:TG}{tt:TT}{te:TE}{W:Nat->Nat->St->Hp->Prop}{R:Result->Shared->Prop}{QQ:Hp->Prop}
  (hx:X.xe=fun _ _=>False) (hc:X.calm=true) (T:Turn X.prog X.w X.K tg J fp it tn) (hg:PG X tg g) (ht:uJ X ifs tt) (he:PE X elt te)
  (hfp:∀ b∈fp,b≠X.env.locals/\b ∉ X.fs/\(b∈X.ex\/X.s₀.heap.objs.size<=b)/\(∀ x c,X.env.cells.lookup x=some c->c≠b)/\∀ p∈X.pn ++ [],p.1≠b)
  (turn:∀ i m σ2 H2,W i m σ2 H2 ->
   (J.stop i H2/\QQ H2)\/(J.go i H2/\∀ x H3,J.lT i H2 x H3->g x σ2 H3 fun σ4 H4=>tt σ4 H4 fun b H5 =>
    if b=true then te σ4 H5 fun v H6=>∃ ys,H6 D=some (.lst ys)/\ys.length<sizeLine/\∃ m',m'<m/\W (i+1) m' σ4 (upd H6 D (.lst (ys ++ [v]))) else ∃ m',m'<m/\W (i+1) m' σ4 H5))
  (hR:∀ s' σ' H',Inv X [] σ' H' s'->QQ H'->R (.ok .next) s') {s:Shared} (m0:Nat) (h:∃ i σ' H',Inv X [] σ' H' s/\tn i s.heap/\(∀ b∈fp,H' b=none)/\W i m0 σ' H') :
  codeAny (model X.prog X.w) X.A (.compLoop (.ListComp elt [⟨tg,iter,ifs,0⟩] scope pos) 0 (.ref it) (.ref D) X.env) R s:=by
 have stat:∀ {H':Hp},(∀ b∈fp,H' b=none)->∀ b∈fp,lg X [] H' b:=fun hn b hb=>⟨hn b hb,hfp b hb⟩
 have ye:∀ {α:Type}{t:Sem α}{Q:α->Shared->Prop}{E:Value->Shared->Prop}{s:Shared},wpAny (model X.prog X.w) X.A t Q X.xe s->wpAny (model X.prog X.w) X.A t Q E s:=fun {α t Q E s} h=>by
  rw [hx] at h
  exact wpAny_noRaise h
 refine codeAny_loop rfl (fun n s'=>∃ i σ' H',Inv X [] σ' H' s'/\tn i s'.heap/\(∀ b∈fp,H' b=none)/\W i n σ' H') (fun n s3 hI=>?_) m0 h
 obtain ⟨i,σ3,H3,I3,st3,fr3,w3⟩:=hI
 show wpAny _ X.A ((compTurn (.ListComp elt [⟨tg,iter,ifs,0⟩] scope pos) 0 (.ref it) (.ref D) X.env).onRaise (fun x=>do noteFrame x X.env;theTreesLotGoes x)) _ _ s3
 refine wpAny_noted ?_
 rw [compTurn_list]
 rcases turn i n σ3 H3 w3 with ⟨stop,qn⟩ | ⟨go,step⟩
 ·refine wpAny_bind (wpAny_standAt (wpAny_bind (aV (ye (T.done X rfl rfl rfl hc i [] s3 σ3 H3 X.xe I3 (stat fr3) st3 stop)) fun r s4 ⟨hr,I4⟩=>?_)))
  subst hr
  exact wpAny_pure (hR s4 σ3 H3 I4 qn)
 ·refine wpAny_bind (wpAny_standAt (wpAny_bind (aV (ye (T.item X rfl rfl rfl hc i [] s3 σ3 H3 X.xe I3 (stat fr3) st3 go)) fun r s4 ⟨u,hr,h4⟩=>?_)))
  subst hr
  refine wpAny_bind (aV (ye h4) fun _ s5 ⟨x,H5,I5,r5,y5,st5,fr5⟩=>?_)
  have I5':=I5.pinned (stat fr5) (T.obj _ _ st5)
  refine wpAny_bind (aV (ye (hg _ s5 σ3 H5 x u _ I5' r5 (step x H5 y5))) fun _ s6 ⟨σ6,H6,I6,q6⟩=>?_)
  refine wpAny_bind (aV (ye (ht _ s6 σ6 H6 _ I6 q6)) fun ok s7 ⟨H7,I7,q7⟩=>?_)
  have again:∀ {s8:Shared}{H8:Hp},Inv X ([] ++ Bb fp s5.heap) σ6 H8 s8->(∃ m',m'<n/\W (i+1) m' σ6 H8)->∃ m,m<n/\∃ i σ' H',Inv X [] σ' H' s8/\tn i s8.heap/\(∀ b∈fp,H' b=none)/\W i m σ' H':=fun {s8 H8} I8 n8=>by
   obtain ⟨m',hm,w8⟩:=n8
   refine ⟨m',hm,i+1,σ6,H8,I8.gG,T.keep _ _ _ st5 fun b hb o e=>(I8.pin (b,o) (ZsE _ (ZsE _ (Iv hb e)))).1,fun b hb=>?_,w8⟩
   obtain ⟨o,e,d⟩:=T.obj _ _ st5 b hb
   exact (I8.pin (b,o) (ZsE _ (ZsE _ (Iv hb e)))).2.1
  cases ok with
  | false=>exact wpAny_pure ⟨rfl,again I7 q7⟩
  | true =>
   refine wpAny_bind (wpAny_bind (aV (ye (he _ s7 σ6 H7 _ I7 q7)) fun y s8 ⟨v,H8,I8,r8,ys,hys,hl,q8⟩=>?_))
   refine wpAny_bind (aV (ye (rH _ s8 σ6 H8 (.ref D) [v] (.ref D) [y] (fun _ H9=>∃ m',m'<n/\W (i+1) m' σ6 H9) I8 rfl (.cons r8 .nil) ⟨D,ys,v,rfl,rfl,hys,hl,q8⟩)) fun _ s9 ⟨_,H9,I9,_,q9⟩=>?_)
   exact wpAny_pure (wpAny_pure ⟨rfl,again I9 q9⟩)
structure B5 (X:Cx) (pins:List (Addr × Obj)) (H:Hp) (C:Addr) (s:Shared):Prop where
 none:H C=Option.none
 ne:C≠X.env.locals
 above:X.s₀.heap.objs.size<=C
 cells:∀ x c,X.env.cells.lookup x=some c->c≠C
 pins:∀ p∈X.pn ++ pins,p.1≠C
 ns:∃ m,s.heap.Ns C m
theorem Qr {X:Cx}{pins:List (Addr × Obj)}{σ:St}{elt tg iter:Expr}{ifs:List Expr}{scope:Scope}{pos:Pos}{N:List Str}{k:Nat}{sel:List Nat}{g:TG}{tt:TT}{te:TE}{yt:Value}{s2:Shared}{QQ:VK}{use:Option (Value->Sem Unit)}{Qv:Value->Shared->Prop}
  (S:az X scope) (M:aF X scope N k sel) (hc:X.calm=true)
  (hg:∀ C s H fp,PG (oB X scope N C s H fp) tg g) (ht:∀ C s H fp,uJ (oB X scope N C s H fp) ifs tt) (he:∀ C s H fp,PE (oB X scope N C s H fp) elt te)
  (fin:∀ D C s' H',Inv X pins σ H' s'->B5 X pins H' C s'->QQ (.ref D) H'->compPost (model X.prog X.w) X.A X.xe use Qv (.ref D) C (.ok .next) s')
  (h2:Pe X pins σ tg (fun J H1=>∀ p,H1 p=none->∃ W:Nat->Nat->St->Hp->Prop,(∃ m,W 0 m (cst σ k sel) (upd H1 p (.lst [])))/\∀ i m σ2 H2,W i m σ2 H2 ->
   (J.stop i H2/\QQ (.ref p) H2)\/(J.go i H2/\∀ x H3,J.lT i H2 x H3->g x σ2 H3 fun σ4 H4=>tt σ4 H4 fun b H5 =>
    if b=true then te σ4 H5 fun v H6=>∃ ys,H6 p=some (.lst ys)/\ys.length<sizeLine/\∃ m',m'<m/\W (i+1) m' σ4 (upd H6 p (.lst (ys ++ [v]))) else ∃ m',m'<m/\W (i+1) m' σ4 H5)) yt s2) :
  wpAny (model X.prog X.w) X.A (newList []) (fun acc s₃=>wpAny (model X.prog X.w) X.A (newFunctionEnv scope X.env.globals (js X.env scope.names []) [] X.env.qual none .none (some X.env)) (fun G3 s₄ =>
   codeAny (model X.prog X.w) X.A (.compStart (.ListComp elt [⟨tg,iter,ifs,0⟩] scope pos) 0 yt acc { G3 with scope:=relabel scope X.env }) (compPost (model X.prog X.w) X.A X.xe use Qv acc G3.locals) s₄) X.xe s₃) X.xe s2:=by
 obtain ⟨it,fp,tn,J,H2,rfl,I2,T,st2,f2,R2⟩:=h2
 have hD:H2 s2.heap.objs.size=none:=I2.aB.fresh (ZtJ _)
 obtain ⟨W,⟨m0,w0⟩,turn⟩:=R2 _ hD
 refine wpAny_newObj_type ?_
 have I3:=I2.uM (its:=[]) (ys:=[]) (t':=s2.toks) .nil (ZtN _)
 generalize hs3:({ s2 with heap:=s2.heap.push { cls:=.type "list",data:=.seq ([]:List Value).toArray },toks:=s2.toks }:Shared)=s3 at I3
 have e3:({ s2 with heap:=s2.heap.push { cls:=.type "list",dict:=none,data:=.seq ([]:List Value).toArray } }:Shared)=s3:=by rw [<- hs3]
 have up:∀ b o,s2.heap.get? b=some o->s3.heap.get? b=some o:=fun b o e=>by rw [<- hs3];exact Heap.get?_push_of_some _ e
 have hsz:s2.heap.objs.size<=s3.heap.objs.size:=by rw [<- hs3];show _<=(s2.heap.push _).objs.size;rw [Heap.size_push];exact Zt0 _
 have CA:∀ b∈fp,b<s2.heap.objs.size:=fun b hb=>by
  obtain ⟨o,e,_⟩:=T.obj _ _ st2 b hb
  exact Heap.lt_size e
 have bw:∀ b∈fp,b<s3.heap.objs.size:=fun b hb=>ZtM (CA b hb) hsz
 have f3:∀ b∈fp,lg X pins (upd H2 s2.heap.objs.size (.lst [])) b:=fun b hb=>⟨by rw [aE (ZtK (CA b hb))];exact (f2 b hb).1,(f2 b hb).2⟩
 refine wpAny_newFunctionEnv S.pP (by intro y hy;simp at hy) (fun h₁ hns₁ hsb₁=>?_) S.kind
 have VB:∀ b o,s3.heap.get? b=some o->h₁.get? b=some o:=fun b o e=>hsb₁.extBut b o (ZtK (Heap.lt_size e)) (Heap.get?_push_of_some _ e)
 have Ic:=Zro (N:=N) (k:=k) (sel:=sel) (t':=s3.toks+([]:List (Str × Value)).length) S M I3 f3 bw hns₁ VB
 have T1:tn 0 h₁:=T.keep _ _ _ st2 fun b hb o e=>VB b o (up b o e)
 have fr:∀ b∈fp,(upd H2 s2.heap.objs.size (.lst [])) b=none:=fun b hb=>(f3 b hb).1
 have loop:codeAny (model X.prog X.w) X.A (.compLoop (.ListComp elt [⟨tg,iter,ifs,0⟩] scope pos) 0 (.ref it) (.ref s2.heap.objs.size) (compEnvC scope (js X.env scope.names []) s3.heap.objs.size X.env))
   (compPost (model X.prog X.w) X.A X.xe use Qv (.ref s2.heap.objs.size) s3.heap.objs.size) { s3 with heap:=h₁,toks:=s3.toks+([]:List (Str × Value)).length }:=by
  refine Zq (X:=oB X scope N s3.heap.objs.size s3 (upd H2 s2.heap.objs.size (.lst [])) fp) (QQ:=fun H'=>QQ (.ref s2.heap.objs.size) H') (W:=W) rfl hc T (hg _ _ _ _) (ht _ _ _ _) (he _ _ _ _) (fun b hb=>?_) turn (fun s' σ' H' I' q'=>?_) m0 ⟨0,cst σ k sel,_,Ic,T1,fr,w0⟩
  ·refine ⟨ZtK (bw b hb),?_,.inl hb,fun x c h=>(f3 b hb).2.2.2.2.1 x c (xa S I3.ok h),fun p hp=>absurd (show p∈([]:List (Addr × Obj)) from hp) (by simp)⟩
   exact (Vi (N:=N) S I3 f3 bw).kI b hb
  ·have Ie:Inv X pins σ H' s':=I3.DW (ch:=fp) I'.os I'.base I'.aB I'.bare fun b hb=>⟨(f3 b hb).2.2.2.1,(f3 b hb).2.1,(f3 b hb).2.2.2.2.1,(f3 b hb).2.2.2.2.2⟩
   refine fin _ _ s' H' Ie ⟨I'.free,?_,ZtL I3.sz (ZtJ _),fun x c e=>?_,fun p hp=>?_,?_⟩ q'
   ·exact Ne.symm (ZtK I3.lt)
   ·obtain ⟨v,o,ho,_⟩:=I3.cell x c e
    exact ZtK (Heap.lt_size ho)
   ·exact ZtK (Heap.lt_size (I3.pin p hp).1)
   ·obtain ⟨m,hn,_⟩:=I'.loc
    exact ⟨m,hn⟩
 exact codeAny_compStart_list loop (T.self X.A 0 _ _ _ T1 loop)
section
variable {X:Cx}{elt tg iter:Expr}{ifs:List Expr}{scope:Scope}{pos:Pos}{N:List Str}{k:Nat}{sel:List Nat}{wi:TI}{g:TG}{tt:TT}{te:TE}
theorem jl (S:az X scope) (M:aF X scope N k sel) (hc:X.calm=true) (hi:PI X tg iter wi)
  (hg:∀ C s H fp,PG (oB X scope N C s H fp) tg g) (ht:∀ C s H fp,uJ (oB X scope N C s H fp) ifs tt) (he:∀ C s H fp,PE (oB X scope N C s H fp) elt te)
  (hs:∀ x,foldedSetIterable iter X.env x=pure x:=by intro _;rfl):PE X (.ListComp elt [⟨tg,iter,ifs,0⟩] scope pos) (eN wi k sel g tt te):=by
 intro pins s σ H Q I h
 rw [eval_ListComp]
 refine wpAny_comprehension_free (use:=none) rfl hs (R9 (S.has I.ok)) S.kind S.names (aV (hi pins s σ H _ I h) fun v s1 h1=>aV h1 fun yt s2 h2=>?_)
 refine Qr (QQ:=Q) S M hc hg ht he (fun D C s' H' I' F q=>?_) h2
 obtain ⟨m,hn⟩:=F.ns
 exact ⟨m,hn,fun h' hsb=>⟨.ref D,H',I'.turned (t':=s'.toks) (fun b o hb e=>hsb.extBut b o hb e) F.none F.ne (.inr F.above) F.cells F.pins,rfl,q⟩⟩
theorem A6 {i:Nat}{y:Str}{py Cz:Pos} (S:az X scope) (M:aF X scope N k sel) (hc:X.calm=true) (hi:PI X tg iter wi)
  (hg:∀ C s H fp,PG (oB X scope N C s H fp) tg g) (ht:∀ C s H fp,uJ (oB X scope N C s H fp) ifs tt) (he:∀ C s H fp,PE (oB X scope N C s H fp) elt te)
  (hN:X.N.Nodup) (hiy:X.N[i]? = some y) (hy:Loc X.env.scope y)
  (X5:swapsWith (.ListComp elt [⟨tg,iter,ifs,0⟩] scope pos) (some (.Name y py)) Cz.line X.env=pure true)
  (hs:∀ x,foldedSetIterable iter X.env x=pure x:=by intro _;rfl) (hf:X.fn y=true\/X.env.scope.names.lookup y=some .local:=by first | exact .inl rfl | exact .inr rfl | assumption) :
  PS X (.Assign [.Name y py] (.ListComp elt [⟨tg,iter,ifs,0⟩] scope pos) Cz) (bV (eN wi k sel g tt te) (aC i)):=by
 intro pins s σ H D I h
 rw [exec_Assign_Name_used _ _ _ _ X5]
 refine wpAny_bind (wpAny_standAt (wpAny_bind ?_))
 show wpAny _ X.A (do let _ <- comprehension (.ListComp elt [⟨tg,iter,ifs,0⟩] scope pos) scope X.env _ (newList []) false (eval iter X.env) (some (assign (.Name y py) X.env))) _ _ s
 refine wpAny_bind (wpAny_mono (wpAny_comprehension_free (use:=some (assign (.Name y py) X.env)) (Q:=fun _ s'=>SP X pins D .next s') rfl hs (R9 (S.has I.ok)) S.kind S.names
  (aV (hi pins s σ H _ I h) fun v s1 h1=>aV h1 fun yt s2 h2=>?_)) (fun _ s' hq=>wpAny_pure (wpAny_pure hq)) fun _ _ e=>e)
 refine Qr (QQ:=fun v H1=>D.nx (σ.set i (some v)) H1) S M hc hg ht he (fun Da C s' H' I' F q=>?_) h2
 show wpAny _ X.A (assign (.Name y py) X.env (.ref Da)) _ _ _
 refine wpAny_assign_Name (Ua I' hN hiy hy (v:=.ref Da) rfl (fun s'' I'' lD=>?_) hf)
 obtain ⟨m,hn⟩:=F.ns
 obtain ⟨a,hsb,ha⟩:=lD
 have haC:C≠a:=by
  rcases ha with ha | ha
  ·rw [ha];exact F.ne
  ·exact Ne.symm (F.cells _ _ ha)
 refine ⟨m,hn.sameBut hsb haC,fun h' hsb'=>⟨σ.set i (some (.ref Da)),H',I''.turned (t':=s''.toks) (fun b o hb e=>hsb'.extBut b o hb e) F.none F.ne (.inr F.above) F.cells F.pins,q⟩⟩
end
section
variable {X:Cx}
theorem PE.imp {e:Expr}{t t':TE} (h:PE X e t) (f:∀ σ H Q,t' σ H Q->t σ H Q):PE X e t':=fun pins s σ H Q I q=>h pins s σ H Q I (f σ H Q q)
theorem ck.imp {g:Value->Value->Sem Value}{r r':R2} (h:ck X g r) (f:∀ x y H Q,r' x y H Q->r x y H Q):ck X g r':=fun pins s σ H x y v u Q I rx ry q=>h pins s σ H x y v u Q I rx ry (f x y H Q q)
theorem mS.imp {r r':R2} (h:mS X r) (f:∀ x y H Q,r' x y H Q->r x y H Q):mS X r':=fun value slice pins s σ H x y v u Q I rx ry q=>h value slice pins s σ H x y v u Q I rx ry (f x y H Q q)
theorem qX.imp {r r':V->Option Int->Option Int->Hp->VK->Prop} (h:qX X r) (f:∀ x lo hi H Q,r' x lo hi H Q->r x lo hi H Q):qX X r':=fun pins s σ H x v vl vu lo hi sl Q I rx hs pl pu q=>h pins s σ H x v vl vu lo hi sl Q I rx hs pl pu (f x lo hi H Q q)
noncomputable def aa (i:Nat):TE:=fun σ H Q=>match σ[i]? with | some (some v)=>Q v H | _=>False
theorem Wt {i:Nat}{σ:St}{H:Hp}{Q:VK} (h:aa i σ H Q):BD i σ H Q:=by
 unfold aa at h
 split at h
 ·exact ⟨_,by assumption,h⟩
 ·exact h.elim
theorem cv (i:Nat) {x:Str}{pos:Pos} (hN:X.N[i]? = some x:=by rfl) (hv:OO X.env.scope x:=by first | exact Or.inl rfl | exact Or.inr (Or.inl rfl) | exact Or.inr (Or.inr rfl)) (hd:(x == ("__debug__" : Str))=false:=by decide)
  (mD:(x == ("__classdict__" : Str))=false:=by decide):PE X (.Name x pos) (aa i):=(yQ hN hv hd mD).imp fun _ _ _ h=>Wt h
noncomputable def cV (f:Int->Int->V):R2:=fun x y H Q=>match x,y with | .int i,.int j=>Q (f i j) H | _,_=>False
noncomputable def cI (C:Int->Int->Prop) (f:Int->Int->V):R2:=fun x y H Q=>match x,y with | .int i,.int j=>C i j/\Q (f i j) H | _,_=>False
theorem si {f:Int->Int->V}{x y:V}{H:Hp}{Q:VK} (h:cV f x y H Q):ou f x y H Q:=by
 cases x <;> cases y <;> first | exact False.elim h | exact ⟨_,_,rfl,rfl,h⟩
theorem zz {C:Int->Int->Prop}{f:Int->Int->V}{x y:V}{H:Hp}{Q:VK} (h:cI C f x y H Q):rI C f x y H Q:=by
 cases x <;> cases y <;> first | exact False.elim h | exact ⟨_,_,rfl,rfl,h.1,h.2⟩
theorem ql:ck X (binaryOp .Sub) (cV fun i j=>.int (i - j)):=vv.imp fun _ _ _ _ h=>si h
theorem iC:ck X (binaryOp .FloorDiv) (cI hJ fun i j=>.int (i / j)):=WV.imp fun _ _ _ _ h=>zz h
theorem nH:ck X (binaryOp .Mod) (cI (fun _ j=>0<j) fun i j=>.int (i % j)):=vZ.imp fun _ _ _ _ h=>zz h
theorem tQ:ck X (binaryOp .LShift) (cI sF fun i j=>.int (i * 2 ^ j.toNat)):=ud.imp fun _ _ _ _ h=>zz h
theorem CZ:ck X (binaryOp .RShift) (cI (fun _ j=>0<=j) fun i j=>.int (i / 2 ^ j.toNat)):=xw.imp fun _ _ _ _ h=>zz h
theorem BN:ck X (binaryOp .BitAnd) (cV fun i j=>.int (Builtin.bitAnd i j)):=wj.imp fun _ _ _ _ h=>si h
theorem Cp:ck X (binaryOp .BitOr) (cV fun i j=>.int (Builtin.bitOr i j)):=Fy.imp fun _ _ _ _ h=>si h
theorem M8:ck X (binaryOp .BitXor) (cV fun i j=>.int (Builtin.bitXor i j)):=vS.imp fun _ _ _ _ h=>si h
theorem qr:ck X (compareOp .Lt) (cV fun i j=>.bl (decide (i<j))):=B1.imp fun _ _ _ _ h=>si h
theorem pw:ck X (compareOp .LtE) (cV fun i j=>.bl (decide (i<=j))):=Fm.imp fun _ _ _ _ h=>si h
theorem yD:ck X (compareOp .Gt) (cV fun i j=>.bl (decide (j<i))):=G8.imp fun _ _ _ _ h=>si h
theorem pK:ck X (compareOp .GtE) (cV fun i j=>.bl (decide (j<=i))):=Bo.imp fun _ _ _ _ h=>si h
noncomputable def iJ:R2:=fun x y H Q=>match x,y with
 | .int i,.int j=>Q (.int (i+j)) H
 | .str i,.str j=>i.length+j.length<=sizeLine/\Q (.str (i ++ j)) H
 | .ref l,.ref b=>∃ xs zs,H l=some (.lst xs)/\H b=some (.lst zs)/\xs.length+zs.length<=sizeLine/\∀ p,H p=none->Q (.ref p) (upd H p (.lst (xs ++ zs)))
 | _,_=>False
theorem jr:ck X (binaryOp .Add) iJ:=by
 intro pins s σ H x y v u Q I rx ry h
 cases x <;> cases y <;> first
  | exact False.elim h
  | exact yp pins s σ H _ _ v u Q I rx ry ⟨_,_,rfl,rfl,h⟩
  | exact Zmg pins s σ H _ _ v u Q I rx ry ⟨_,_,rfl,rfl,h.1,h.2⟩
  | (obtain ⟨xs,zs,h1,h2,h3,h4⟩:=h;exact ya pins s σ H _ _ v u Q I rx ry ⟨_,_,xs,zs,rfl,rfl,h1,h2,h3,h4⟩)
inductive cQ (K:ZrF) (H:Hp):Nat->V->V->Prop where
 | flat {n:Nat}{x:V} (f:jG x=true):cQ K H n x x
 | lst {n:Nat}{a b:Addr}{xs ys:List V} (h1:bg K H a xs) (h2:bg K H b ys) (hl:xs.length=ys.length) (h:∀ (i:Nat) x y,xs[i]? = some x->ys[i]? = some y->cQ K H n x y):cQ K H (n+1) (.ref a) (.ref b)
 | tup {n:Nat}{a b:Addr}{xs ys:List V} (h1:dD K H a xs) (h2:dD K H b ys) (hl:xs.length=ys.length) (h:∀ (i:Nat) x y,xs[i]? = some x->ys[i]? = some y->cQ K H n x y):cQ K H (n+1) (.ref a) (.ref b)
theorem qg {pins:List (Addr × Obj)}{σ:St}{H:Hp}{s:Shared}{a:Addr}{xs:List V} (I:Inv X pins σ H s) (h:bg X.K H a xs):∃ its:List Value,Vals xs its/\s.heap.IsList a its.toArray:=by
 obtain ⟨its,r,p,_⟩:=I.list h
 exact ⟨its,r,p.isList⟩
theorem QR {A:Around}{n:Nat} (h:A.units+(n+1)<cLine):A.in1.units+n<cLine:=by
 have e:A.in1.units=A.units+1:=rfl
 omega
theorem Lc {pins:List (Addr × Obj)}{σ:St}{H:Hp}{s:Shared} (I:Inv X pins σ H s):∀ {n:Nat}{x y:V},cQ X.K H n x y->∀ (A:Around) {u v:Value},A.units+n<cLine->bf x u->bf y v->SeqAt.EqAt A s u v true
 | _,_,_,.flat f,A,u,v,hu,rx,ry=>by
  have e:=K0 (A:=A) (s:=s) rx ry f f
  rename_i n x
  have q:j8 x x=true:=by cases x <;> first | rfl | (simp [j8];done) | exact absurd f (by simp [jG])
  rw [q] at e
  exact e
 | _,_,_,@cQ.lst _ _ n a b xs ys h1 h2 hl h,A,u,v,hu,rx,ry=>by
  cases rx;cases ry
  by_cases gO:a=b
  ·subst gO;exact SeqAt.EqAt.same _
  ·obtain ⟨its,r1,p1⟩:=qg I h1
   obtain ⟨its2,r2,p2⟩:=qg I h2
   have e1:=r1.length
   have e2:=r2.length
   have q:=SeqAt.RcAt.lists (A:=A) (e:=fun _=>true) p1 p2 (by simp;omega) (by omega) (fun j j1 j2=>by
    have j1':j<its.length:=by simpa using j1
    have j2':j<its2.length:=by simpa using j2
    obtain ⟨w1,q1,s1⟩:=r1.get (i:=j) (x:=xs[j]'(by omega)) (by simp)
    obtain ⟨w2,q2,s2⟩:=r2.get (i:=j) (x:=ys[j]'(by omega)) (by simp)
    have z1:its.toArray[j]=w1:=by
     have:=Zsk.mp q1
     obtain ⟨_,z⟩:=this
     simpa using z
    have z2:its2.toArray[j]=w2:=by
     have:=Zsk.mp q2
     obtain ⟨_,z⟩:=this
     simpa using z
    rw [z1,z2]
    exact Lc I (h j _ _ (by simp) (by simp)) A.in1 (QR hu) s1 s2)
   have:((Zsj its.toArray.size).all fun _=>true)=true:=by simp
   rw [this] at q
   exact SeqAt.EqAt.of_refs gO q
 | _,_,_,@cQ.tup _ _ n a b xs ys h1 h2 hl h,A,u,v,hu,rx,ry=>by
  cases rx;cases ry
  by_cases gO:a=b
  ·subst gO;exact SeqAt.EqAt.same _
  ·obtain ⟨its,r1,p1,_⟩:=I.tuple h1
   obtain ⟨its2,r2,p2,_⟩:=I.tuple h2
   have e1:=r1.length
   have e2:=r2.length
   have q:=SeqAt.RcAt.tuples (A:=A) (e:=fun _=>true) p1 p2 (by omega) (fun j j1 j2=>by
    have j1':j<its.length:=by simpa using j1
    have j2':j<its2.length:=by simpa using j2
    obtain ⟨w1,q1,s1⟩:=r1.get (i:=j) (x:=xs[j]'(by omega)) (by simp)
    obtain ⟨w2,q2,s2⟩:=r2.get (i:=j) (x:=ys[j]'(by omega)) (by simp)
    have z1:its.toArray[j]=w1:=by
     have:=Zsk.mp q1
     obtain ⟨_,z⟩:=this
     simpa using z
    have z2:its2.toArray[j]=w2:=by
     have:=Zsk.mp q2
     obtain ⟨_,z⟩:=this
     simpa using z
    rw [z1,z2]
    exact Lc I (h j _ _ (by simp) (by simp)) A.in1 (QR hu) s1 s2)
   have:(((Zsj (min its.toArray.size its2.toArray.size)).all fun _=>true) && its.toArray.size == its2.toArray.size)=true:=by simp;omega
   rw [this] at q
   exact SeqAt.EqAt.of_refs gO q
end
section
variable {X:Cx}{a b c:Expr}{ta tb tc:TE}{pos:Pos}
noncomputable def qa (xs ys:List V):Bool:=xs.length == ys.length && (Zsj xs.length).all fun i=>j8 (xs.getD i .non) (ys.getD i .non)
theorem Aa {xs ys:List V}{us ws:List Value} (r1:Vals xs us) (r2:Vals ys ws) (f1:xs.all jG=true) (f2:ys.all jG=true) (A:Around) (s:Shared) :
  ∀ j (h1:j<us.toArray.size) (h2:j<ws.toArray.size),SeqAt.EqAt A s us.toArray[j] ws.toArray[j] (j8 (xs.getD j .non) (ys.getD j .non)):=fun j j1 j2=>by
 have e1:=r1.length
 have e2:=r2.length
 have j1':j<us.length:=by simpa using j1
 have j2':j<ws.length:=by simpa using j2
 have x1:j<xs.length:=by omega
 have y1:j<ys.length:=by omega
 obtain ⟨w1,q1,s1⟩:=r1.get (i:=j) (x:=xs[j]) (by simp)
 obtain ⟨w2,q2,s2⟩:=r2.get (i:=j) (x:=ys[j]) (by simp)
 have z1:us.toArray[j]=w1:=by
  obtain ⟨_,z⟩:=Zsk.mp q1
  simpa using z
 have z2:ws.toArray[j]=w2:=by
  obtain ⟨_,z⟩:=Zsk.mp q2
  simpa using z
 rw [z1,z2]
 have g1:xs.getD j .non=xs[j]:=by simp [Zsx,x1]
 have g2:ys.getD j .non=ys[j]:=by simp [Zsx,y1]
 rw [g1,g2]
 exact K0 s1 s2 (ZsQ.mp f1 _ (ZsV _)) (ZsQ.mp f2 _ (ZsV _))
noncomputable def Pp (K:ZrF) (H:Hp) (p q:Addr) (k:Bool):Prop :=
 (k=true/\cQ K H 4 (.ref p) (.ref q)) \/
 (∃ xs ys,bg K H p xs/\bg K H q ys/\xs.all jG=true/\ys.all jG=true/\k=qa xs ys) \/
 (k=false/\∃ xs ys,bg K H p xs/\bg K H q ys/\xs.length≠ys.length) \/
 (∃ xs ys,dD K H p xs/\dD K H q ys/\xs.all jG=true/\ys.all jG=true/\k=qa xs ys)
theorem UY {pins:List (Addr × Obj)}{σ:St}{H:Hp}{s:Shared}{p q:Addr}{k:Bool} (I:Inv X pins σ H s) (hu:X.A.units+8<cLine) (h:Pp X.K H p q k) :
  SeqAt.RcAt X.A s (.ref p) (.ref q) k/\SeqAt.RcNeAt X.A s (.ref p) (.ref q) (!k):=by
 have deep:∀ {xs ys:List V}{n:Nat},n<=4->(bg X.K H p xs/\bg X.K H q ys\/dD X.K H p xs/\dD X.K H q ys)->xs.length=ys.length->(∀ (i:Nat) x y,xs[i]? = some x->ys[i]? = some y->cQ X.K H n x y) ->
   SeqAt.RcAt X.A s (.ref p) (.ref q) true/\SeqAt.RcNeAt X.A s (.ref p) (.ref q) (!true):=fun {xs ys n} hn hq hl hd=>by
  have items:∀ {us ws:List Value},Vals xs us->Vals ys ws->∀ j (h1:j<us.toArray.size) (h2:j<ws.toArray.size),SeqAt.EqAt X.A.in1 s us.toArray[j] ws.toArray[j] true:=fun {us ws} r1 r2 j j1 j2=>by
   have e1:=r1.length
   have e2:=r2.length
   have j1':j<us.length:=by simpa using j1
   have j2':j<ws.length:=by simpa using j2
   obtain ⟨w1,q1,s1⟩:=r1.get (i:=j) (x:=xs[j]'(by omega)) (by simp)
   obtain ⟨w2,q2,s2⟩:=r2.get (i:=j) (x:=ys[j]'(by omega)) (by simp)
   have z1:us.toArray[j]=w1:=by
    obtain ⟨_,z⟩:=Zsk.mp q1
    simpa using z
   have z2:ws.toArray[j]=w2:=by
    obtain ⟨_,z⟩:=Zsk.mp q2
    simpa using z
   rw [z1,z2]
   exact Lc I (hd j _ _ (by simp) (by simp)) X.A.in1 (by have e:X.A.in1.units=X.A.units+1:=rfl;omega) s1 s2
  rcases hq with ⟨h1,h2⟩ | ⟨h1,h2⟩
  ·obtain ⟨its,r1,p1⟩:=qg I h1
   obtain ⟨its2,r2,p2⟩:=qg I h2
   have e1:=r1.length
   have e2:=r2.length
   have z:((Zsj its.toArray.size).all fun _=>true)=true:=by simp
   have a1:=SeqAt.RcAt.lists (A:=X.A) (e:=fun _=>true) p1 p2 (by simp;omega) (by omega) (items r1 r2)
   have a2:=SeqAt.RcNeAt.lists (A:=X.A) (e:=fun _=>true) p1 p2 (by simp;omega) (by omega) (items r1 r2)
   rw [z] at a1 a2
   exact ⟨a1,a2⟩
  ·obtain ⟨its,r1,p1,_⟩:=I.tuple h1
   obtain ⟨its2,r2,p2,_⟩:=I.tuple h2
   have e1:=r1.length
   have e2:=r2.length
   have z:(((Zsj (min its.toArray.size its2.toArray.size)).all fun _=>true) && its.toArray.size == its2.toArray.size)=true:=by simp;omega
   have a1:=SeqAt.RcAt.tuples (A:=X.A) (e:=fun _=>true) p1 p2 (by omega) (items r1 r2)
   have a2:=SeqAt.RcNeAt.tuples (A:=X.A) (e:=fun _=>true) p1 p2 (by omega) (items r1 r2)
   rw [z] at a1 a2
   exact ⟨a1,a2⟩
 have sm:∀ {xs ys:List V},bg X.K H p xs->bg X.K H q ys->xs.length≠ys.length->SeqAt.RcAt X.A s (.ref p) (.ref q) false/\SeqAt.RcNeAt X.A s (.ref p) (.ref q) (!false):=fun {xs ys} h1 h2 hl=>by
  obtain ⟨its,r1,p1⟩:=qg I h1
  obtain ⟨its2,r2,p2⟩:=qg I h2
  have e1:=r1.length
  have e2:=r2.length
  have z:(its.toArray.size != its2.toArray.size)=true:=by simp;omega
  exact ⟨SeqAt.RcAt.lists_lengths p1 p2 z (by omega),SeqAt.RcNeAt.lists_lengths p1 p2 z (by omega)⟩
 rcases h with ⟨rfl,h⟩ | ⟨xs,ys,h1,h2,f1,f2,rfl⟩ | ⟨rfl,xs,ys,h1,h2,hl⟩ | ⟨xs,ys,h1,h2,f1,f2,rfl⟩
 ·cases h with
  | flat f=>simp [jG] at f
  | lst h1 h2 hl hd=>exact deep (by decide) (.inl ⟨h1,h2⟩) hl hd
  | tup h1 h2 hl hd=>exact deep (by decide) (.inr ⟨h1,h2⟩) hl hd
 ·by_cases hl:xs.length=ys.length
  ·obtain ⟨its,r1,p1⟩:=qg I h1
   obtain ⟨its2,r2,p2⟩:=qg I h2
   have e1:=r1.length
   have e2:=r2.length
   have z:qa xs ys=(Zsj its.toArray.size).all fun i=>j8 (xs.getD i .non) (ys.getD i .non):=by
    unfold qa
    rw [Zsr,<- e1,hl]
    simp
   rw [z]
   exact ⟨SeqAt.RcAt.lists p1 p2 (by simp;omega) (by omega) (Aa r1 r2 f1 f2 _ _),SeqAt.RcNeAt.lists p1 p2 (by simp;omega) (by omega) (Aa r1 r2 f1 f2 _ _)⟩
  ·have z:qa xs ys=false:=by unfold qa;simp [hl]
   rw [z]
   exact sm h1 h2 hl
 ·exact sm h1 h2 hl
 ·obtain ⟨its,r1,p1,_⟩:=I.tuple h1
  obtain ⟨its2,r2,p2,_⟩:=I.tuple h2
  have e1:=r1.length
  have e2:=r2.length
  by_cases hl:xs.length=ys.length
  ·have z:qa xs ys=((Zsj (min its.toArray.size its2.toArray.size)).all (fun i=>j8 (xs.getD i .non) (ys.getD i .non)) && its.toArray.size == its2.toArray.size):=by
    unfold qa
    rw [Zsr,Zsr,<- e1,<- e2,hl]
    simp
   rw [z]
   exact ⟨SeqAt.RcAt.tuples p1 p2 (by omega) (Aa r1 r2 f1 f2 _ _),SeqAt.RcNeAt.tuples p1 p2 (by omega) (Aa r1 r2 f1 f2 _ _)⟩
  ·have z:qa xs ys=((Zsj (min its.toArray.size its2.toArray.size)).all (fun i=>j8 (xs.getD i .non) (ys.getD i .non)) && its.toArray.size == its2.toArray.size):=by
    have z1:qa xs ys=false:=by unfold qa;simp [hl]
    have z2:(its.toArray.size == its2.toArray.size)=false:=by simp;omega
    rw [z1,z2,Bool.and_false]
   rw [z]
   exact ⟨SeqAt.RcAt.tuples p1 p2 (by omega) (Aa r1 r2 f1 f2 _ _),SeqAt.RcNeAt.tuples p1 p2 (by omega) (Aa r1 r2 f1 f2 _ _)⟩
noncomputable def jS (K:ZrF):R2:=fun x y H Q=>match x,y with
 | .int i,.int j=>Q (.bl (decide (i=j))) H
 | .bl i,.bl j=>Q (.bl (decide (i=j))) H
 | .str i,.str j=>Q (.bl (decide (i=j))) H
 | .non,.non=>Q (.bl true) H
 | .non,.int _=>Q (.bl false) H
 | .int _,.non=>Q (.bl false) H
 | .non,.str _=>Q (.bl false) H
 | .str _,.non=>Q (.bl false) H
 | .non,.bl _=>Q (.bl false) H
 | .bl _,.non=>Q (.bl false) H
 | .ref p,.ref q=>∃ k,Pp K H p q k/\Q (.bl k) H
 | _,_=>False
noncomputable def vM (K:ZrF):R2:=fun x y H Q=>match x,y with
 | .int i,.int j=>Q (.bl (!decide (i=j))) H
 | .bl i,.bl j=>Q (.bl (!decide (i=j))) H
 | .str i,.str j=>Q (.bl (!decide (i=j))) H
 | .non,.non=>Q (.bl false) H
 | .non,.int _=>Q (.bl true) H
 | .int _,.non=>Q (.bl true) H
 | .non,.str _=>Q (.bl true) H
 | .str _,.non=>Q (.bl true) H
 | .non,.bl _=>Q (.bl true) H
 | .bl _,.non=>Q (.bl true) H
 | .ref p,.ref q=>∃ k,Pp K H p q k/\Q (.bl (!k)) H
 | _,_=>False
theorem VF {i j:Int}:decide (V.int i=V.int j)=decide (i=j):=by rw [decide_eq_decide];exact ⟨V.int.inj,congrArg _⟩
theorem Se {i j:Bool}:decide (V.bl i=V.bl j)=decide (i=j):=by rw [decide_eq_decide];exact ⟨V.bl.inj,congrArg _⟩
theorem RU {i j:Str}:decide (V.str i=V.str j)=decide (i=j):=by rw [decide_eq_decide];exact ⟨V.str.inj,congrArg _⟩
theorem kr (hu:X.A.units+8<cLine):ck X (compareOp .Eq) (jS X.K):=by
  intro pins s σ H x y v u Q I rx ry h
  have go:V4 x y H Q->wpAny (model X.prog X.w) X.A (compareOp .Eq v u) (EP X pins σ Q) X.xe s:=fun q=>Ek pins s σ H _ _ v u Q I rx ry q
  cases x <;> cases y <;> first
    | exact False.elim h
    | exact go ⟨rfl,h⟩
    | exact go ⟨rfl,by rw [VF];exact h⟩
    | exact go ⟨rfl,by rw [Se];exact h⟩
    | exact go ⟨rfl,by rw [RU];exact h⟩
    | (obtain ⟨k,e,q⟩:=h
       cases rx;cases ry
       exact (UY I hu e).1 _ _ _ _ ⟨.bl k,H,I,rfl,q⟩)
theorem pU (hu:X.A.units+8<cLine):ck X (compareOp .NotEq) (vM X.K):=by
  intro pins s σ H x y v u Q I rx ry h
  have go:RL x y H Q->wpAny (model X.prog X.w) X.A (compareOp .NotEq v u) (EP X pins σ Q) X.xe s:=fun q=>Ea pins s σ H _ _ v u Q I rx ry q
  cases x <;> cases y <;> first
    | exact False.elim h
    | exact go ⟨rfl,h⟩
    | exact go ⟨rfl,by rw [VF];exact h⟩
    | exact go ⟨rfl,by rw [Se];exact h⟩
    | exact go ⟨rfl,by rw [RU];exact h⟩
    | (obtain ⟨k,e,q⟩:=h
       cases rx;cases ry
       exact (UY I hu e).2 _ _ _ _ ⟨.bl (!k),H,I,rfl,q⟩)
noncomputable def xU:R2:=fun x y H Q=>match x,y with
 | .bl i,.bl j=>Q (.bl (decide (i=j))) H
 | x,.non=>Q (.bl (decide (x=.non))) H
 | .non,.bl _=>Q (.bl false) H
 | .int _,.bl _=>Q (.bl false) H
 | .str _,.bl _=>Q (.bl false) H
 | .ref _,.bl _=>Q (.bl false) H
 | _,_=>False
noncomputable def Cq:R2:=fun x y H Q=>match x,y with
 | .bl i,.bl j=>Q (.bl (!decide (i=j))) H
 | x,.non=>Q (.bl (!decide (x=.non))) H
 | _,_=>False
theorem oX:ck X (compareOp .Is) xU:=by
 intro pins s σ H x y v u Q I rx ry h
 have pl:∀ {k:Bool},PySem.plainIs v u=true->(v == u)=k->Q (.bl k) H->wpAny (model X.prog X.w) X.A (compareOp .Is v u) (EP X pins σ Q) X.xe s:=fun {k} hp e q=>wpAny_is_plain hp ⟨.bl k,H,I,by rw [e];rfl,q⟩
 cases y with
 | non =>
  have q:Q (.bl (decide (x=.non))) H:=by cases x <;> exact h
  exact yP pins s σ H _ _ v u Q I rx ry ⟨rfl,q⟩
 | bl j =>
  cases ry
  cases x with
  | bl i =>
   cases rx
   exact pl rfl (by cases i <;> cases j <;> rfl) h
  | non=>cases rx;exact pl rfl rfl h
  | int i=>obtain ⟨t,rfl⟩:=rx;exact pl rfl rfl h
  | str i=>obtain ⟨t,rfl⟩:=rx;exact pl rfl rfl h
  | ref i=>cases rx;exact pl rfl rfl h
  | _=>exact False.elim h
 | _=>cases x <;> exact False.elim h
theorem MD:ck X (compareOp .IsNot) Cq:=by
 intro pins s σ H x y v u Q I rx ry h
 cases y with
 | non =>
  have q:Q (.bl (!decide (x=.non))) H:=by cases x <;> exact h
  exact Yl pins s σ H _ _ v u Q I rx ry ⟨rfl,q⟩
 | bl j =>
  cases ry
  cases x with
  | bl i =>
   cases rx
   exact wpAny_isNot_plain rfl ⟨.bl (!decide (i=j)),H,I,(by cases i <;> cases j <;> rfl),h⟩
  | _=>exact False.elim h
 | _=>cases x <;> exact False.elim h
noncomputable def sL (i j:Str):Bool:=!(Builtin.Str.occurrences j i 0 j.length 1).isEmpty
noncomputable def Pt (K:ZrF) (neg:Bool):R2:=fun x y H Q=>match y with
 | .ref p=>∃ xs,(bg K H p xs\/dD K H p xs)/\jG x=true/\xs.all jG=true/\Q (.bl (if neg then !As x xs else As x xs)) H
 | .str j=>match x with | .str i=>Q (.bl (if neg then !sL i j else sL i j)) H | _=>False
 | _=>False
theorem NV:ck X (compareOp .In) (Pt X.K false):=by
 intro pins s σ H x y v u Q I rx ry h
 cases y with
 | ref p =>
  obtain ⟨xs,h1,h2,h3,q⟩:=h
  exact Znn pins s σ H _ _ v u Q I rx ry ⟨p,xs,rfl,h1,h2,h3,q⟩
 | str j =>
  cases x with
  | str i=>exact Z6 pins s σ H _ _ v u Q I rx ry ⟨i,j,rfl,rfl,h⟩
  | _=>exact False.elim h
 | _=>exact False.elim h
noncomputable def sD (x:V) (k:Bool->Prop):Prop:=match x with | .bl b=>k b | _=>False
theorem YK {x:V}{k:Bool->Prop} (h:sD x k):∃ b,x=.bl b/\k b:=by
 cases x <;> first | exact False.elim h | exact ⟨_,rfl,h⟩
noncomputable def bW (t:TE):TT:=fun σ H Q=>t σ H fun x H'=>sD x fun k=>Q k H'
noncomputable def iU (K:ZrF) (t:TE):TT:=fun σ H Q=>t σ H fun x H'=>match x with
 | .non=>Q false H'
 | .bl b=>Q b H'
 | .int i=>Q (decide (i≠0)) H'
 | .str y=>y.length<=sizeLine/\Q (decide (y.length≠0)) H'
 | .ref p=>∃ k,pz K (.ref p) H' k/\Q k H'
 | .byt p=>∃ k,pz K (.byt p) H' k/\Q k H'
 | _=>False
theorem kE {t:TE} (ha:PE X a t) (he:∀ whole,isTrue a X.env whole=(do let v <- whole;standAt a.pos;holding [v] (truthy v)):=by intro _;rfl):PT X a (iU X.K t):=by
 have h:=ZoR ha he
 have e:iU X.K t=(fun σ H Q=>t σ H fun x H'=>∃ k,pz X.K x H' k/\Q k H'):=by
  funext σ H Q
  unfold iU
  congr 1
  funext x H'
  apply propext
  cases x with
  | non=>exact ⟨fun q=>⟨false,rfl,q⟩,fun ⟨k,h1,h2⟩=>by have h1:k=false:=h1;subst h1;exact h2⟩
  | bl b=>exact ⟨fun q=>⟨b,rfl,q⟩,fun ⟨k,h1,h2⟩=>by have h1:k=b:=h1;subst h1;exact h2⟩
  | int i =>
   have z:decide (i≠0)=(i != 0):=by by_cases e:i=0 <;> simp [e]
   exact ⟨fun q=>⟨decide (i≠0),z,q⟩,fun ⟨k,h1,h2⟩=>by have h1:k=(i != 0):=h1;rw [<- z] at h1;subst h1;exact h2⟩
  | str y =>
   have z:decide (y.length≠0)=((y.length:Int) != 0):=by
    by_cases e:y.length=0
    ·simp [e]
    ·have:(y.length:Int)≠0:=by omega
     simp [e,this]
   exact ⟨fun q=>⟨decide (y.length≠0),⟨q.1,z⟩,q.2⟩,fun ⟨k,h1,h2⟩=>by
    have h1:y.length<=sizeLine/\k=((y.length:Int) != 0):=h1
    obtain ⟨h0,h1⟩:=h1
    rw [<- z] at h1;subst h1;exact ⟨h0,h2⟩⟩
  | ref p=>exact Iff.rfl
  | byt y=>exact Iff.rfl
  | flt y=>exact ⟨fun q=>q.elim,fun ⟨k,h1,h2⟩=>h1.elim⟩
  | ty y=>exact ⟨fun q=>q.elim,fun ⟨k,h1,h2⟩=>h1.elim⟩
 rw [e]
 exact h
theorem Az {x:V}{k:Bool->Prop}:sD x k = ∃ b,x=.bl b/\k b:=propext ⟨YK,fun ⟨b,e,q⟩=>by subst e;exact q⟩
theorem YD (t:TE):bW t=O8 t:=by
 funext σ H Q
 unfold bW O8
 congr 1
 funext x H'
 exact Az
theorem cW {op:CmpOp}{r:R2} (ho:ck X (compareOp op) r) (ha:PE X a ta) (hb:PE X b tb) (hm:behindInMarks op b=false):PT X (.Compare a [op] [b] pos) (bW (ax r ta tb)):=by
 rw [YD]
 exact ZqP ho ha hb hm
noncomputable def zV (r r':R2) (ta tb tc:TE):TE:=fun σ H Q=>ta σ H fun x H1=>tb σ H1 fun y H2=>r x y H2 fun z H3=>sD z fun k =>
 (if k=true then tc σ H3 fun w' H4=>r' y w' H4 Q else Q (.bl false) H3)
theorem Zoo (r r':R2) (ta tb tc:TE):zV r r' ta tb tc=OH r r' ta tb tc:=by
 funext σ H Q
 unfold zV OH
 congr 1
 funext x H1
 congr 1
 funext y H2
 congr 1
 funext z H3
 exact Az
theorem TV {op zj:CmpOp}{r r':R2} (ho:ck X (compareOp op) r) (lr:ck X (compareOp zj) r') (ha:PE X a ta) (hb:PE X b tb) (hc:PE X c tc)
  (hm:lastMarks [op,zj] [b,c]=false:=by with_unfolding_all rfl):PE X (.Compare a [op,zj] [b,c] pos) (zV r r' ta tb tc):=by
 rw [Zoo]
 exact X6 ho lr ha hb hc hm
noncomputable def uZ (ta tb:TE):TE:=fun σ H Q=>ta σ H fun x H1=>sD x fun c=>if c=true then tb σ H1 Q else Q (.bl false) H1
noncomputable def pZ (ta tb:TE):TE:=fun σ H Q=>ta σ H fun x H1=>sD x fun c=>if c=true then Q (.bl true) H1 else tb σ H1 Q
noncomputable def FN (ta:TE):TE:=fun σ H Q=>ta σ H fun x H1=>sD x fun c=>Q (.bl (!c)) H1
theorem Z5 (ta tb:TE):uZ ta tb=Na ta tb:=by
 funext σ H Q
 unfold uZ Na
 congr 1
 funext x H'
 exact Az
theorem Zrs (ta tb:TE):pZ ta tb=uK ta tb:=by
 funext σ H Q
 unfold pZ uK
 congr 1
 funext x H'
 exact Az
theorem ZpB (ta:TE):FN ta=LX ta:=by
 funext σ H Q
 unfold FN LX
 congr 1
 funext x H'
 exact Az
variable {rest:List Expr}
theorem JN (ha:PE X a ta) (hb:PE X (.BoolOp .And (b :: rest) pos) tb):PE X (.BoolOp .And (a :: b :: rest) pos) (uZ ta tb):=by
 rw [Z5]
 exact xW ha hb
theorem Ln (ha:PE X a ta) (hb:PE X (.BoolOp .Or (b :: rest) pos) tb):PE X (.BoolOp .Or (a :: b :: rest) pos) (pZ ta tb):=by
 rw [Zrs]
 exact Ed ha hb
theorem Eb (ha:PE X a ta):PE X (.UnaryOp .Not a pos) (FN ta):=by
 rw [ZpB]
 exact ur ha
noncomputable def eL (K:ZrF):R2:=fun x y H Q=>match x,y with
 | .ref p,.int i=>∃ xs v,(bg K H p xs\/dD K H p xs)/\jm xs i=some v/\Q v H
 | .str z,.int i=>z.length<=sizeLine/\∃ c,jm z.cps.toList i=some c/\Q (.str ⟨#[c]⟩) H
 | _,_=>False
theorem fC:mS X (eL X.K):=xr.imp fun x y H Q h=>by
  cases x <;> cases y <;> first
    | exact False.elim h
    | (obtain ⟨xs,v,h1 | h1,h2,h3⟩:=h
       · exact .inl ⟨_,xs,_,v,rfl,rfl,h1,h2,h3⟩
       · exact .inr (.inl ⟨_,xs,_,v,rfl,rfl,h1,h2,h3⟩))
    | (obtain ⟨h1,c,h2,h3⟩:=h
       exact .inr (.inr ⟨_,_,c,rfl,rfl,h1,h2,h3⟩))
noncomputable def yR (K:ZrF):V->Option Int->Option Int->Hp->VK->Prop:=fun x lo hi H Q=>match x with
 | .ref p=>∃ xs,bg K H p xs/\∀ q,H q=none->Q (.ref q) (upd H q (.lst (qU xs lo hi)))
 | _=>False
theorem wW:qX X (yR X.K):=Zqt.imp fun x lo hi H Q h=>by
 cases x <;> first | exact False.elim h | (obtain ⟨xs,h1,h2⟩:=h;exact ⟨_,xs,rfl,h1,h2⟩)
noncomputable def lj (K:ZrF):List V->Hp->VK->Prop:=fun vs H Q=>match vs with
 | [.str z]=>z.length<=sizeLine/\Q (.int z.length) H
 | [.ref p]=>(∃ ys,(bg K H p ys\/dD K H p ys)/\Q (.int ys.length) H)\/∃ kvs,H p=some (.dK kvs)/\Q (.int kvs.length) H
 | _=>False
theorem lU:jE X (.builtin "len") (lj X.K):=by
 intro pins s σ H xs us Q I r h
 match xs,h with
 | [.str z],h=>exact Zj3 pins s σ H _ us Q I r ⟨z,rfl,h.1,h.2⟩
 | [.ref p],h =>
  rcases h with ⟨ys,h1,h2⟩ | ⟨kvs,h1,h2⟩
  ·exact Zh pins s σ H _ us Q I r ⟨p,ys,rfl,h1,h2⟩
  ·exact Xu pins s σ H _ us Q I r ⟨p,kvs,rfl,h1,h2⟩
noncomputable def tf (K:ZrF):List V->Hp->VK->Prop:=fun vs H Q=>match vs with
 | [.ref p]=>∃ ys,(bg K H p ys\/dD K H p ys)/\∀ l,H l=none->Q (.ref l) (upd H l (.lst ys))
 | _=>False
theorem Fg:jE X (.type "list") (tf X.K):=by
 intro pins s σ H xs us Q I r h
 match xs,h with
 | [.ref p],h =>
  obtain ⟨ys,h1,h2⟩:=h
  exact WK pins s σ H _ us Q I r ⟨p,ys,rfl,h1,h2⟩
noncomputable def zF (K:ZrF):List V->Hp->VK->Prop:=fun vs H Q=>match vs with
 | [.ref p]=>∃ ys,((bg K H p ys/\∀ l,H l=none->Q (.ref l) (upd H l (.tup ys)))\/(dD K H p ys/\Q (.ref p) H))
 | _=>False
theorem MV:jE X (.type "tuple") (zF X.K):=by
 intro pins s σ H xs us Q I r h
 match xs,h with
 | [.ref p],h =>
  obtain ⟨ys,h1⟩:=h
  exact Zi6 pins s σ H _ us Q I r ⟨p,ys,rfl,h1⟩
noncomputable def nX:List V->Hp->VK->Prop:=fun vs H Q=>match vs with
 | [.int i,.int j]=>Q (.int (if j<i then j else i)) H
 | _=>False
theorem HJ (hc:X.calm=true):jE X (.builtin "min") nX:=by
 intro pins s σ H xs us Q I r h
 match xs,h with
 | [.int i,.int j],h=>exact Zog hc pins s σ H _ us Q I r ⟨i,j,rfl,h⟩
noncomputable def u0:List V->Hp->VK->Prop:=fun vs H Q=>match vs with
 | [.int i,.int j]=>Q (.int (if j > i then j else i)) H
 | _=>False
theorem BR (hc:X.calm=true):jE X (.builtin "max") u0:=by
 intro pins s σ H xs us Q I r h
 match xs,h with
 | [.int i,.int j],h=>exact Za hc pins s σ H _ us Q I r ⟨i,j,rfl,h⟩
noncomputable def vW (K:ZrF):List V->Hp->VK->Prop:=fun vs H Q=>match vs with
 | [x,.ty T]=>∃ t b,gB K H x t/\Zr0 K t (.type T)=some b/\Q (.bl b) H
 | [x,.ref C]=>∃ t b,gB K H x t/\Zr0 K t (.ref C)=some b/\Q (.bl b) H
 | _=>False
theorem AO:jE X (.builtin "isinstance") (vW X.K):=by
 intro pins s σ H xs us Q I r h
 match xs,h with
 | [x,.ty T],h =>
  obtain ⟨t,k,h1,h2,h3⟩:=h
  obtain ⟨u,w',rfl,r1,r2⟩:=zS r
  cases r2
  exact Tu I r1 h1 h2 fun tk=>⟨.bl k,H,I.tok tk,rfl,h3⟩
 | [x,.ref C],h =>
  obtain ⟨t,k,h1,h2,h3⟩:=h
  obtain ⟨u,w',rfl,r1,r2⟩:=zS r
  cases r2
  exact Tu I r1 h1 h2 fun tk=>⟨.bl k,H,I.tok tk,rfl,h3⟩
noncomputable def Dm (onames:List (Str × NameKind)) (scope:Scope):Bool:=scope.names.all fun y=>decide (y.2≠.cell) && (decide (y.2≠.local) || decide (scope.names.lookup y.1=some .local)) && (decide (y.2≠.free) || decide (onames.lookup y.1=some .cell) || decide (onames.lookup y.1=some .free))
theorem az.of {scope:Scope} (onames:List (Str × NameKind)) (h:Dm onames scope=true) (k:scope.kind=.function:=by rfl) (e:X.env.scope.names=onames:=by rfl):az X scope:=by
 have q:=ZsQ.mp h
 refine ⟨k,fun y hy=>?_,fun y hy hl=>?_,fun y hy hf=>?_⟩
 ·have z:=q y hy
  simp only [Zun,decide_eq_true_eq] at z
  exact z.1.1
 ·have z:=q y hy
  simp only [Zun,Zus,decide_eq_true_eq] at z
  exact z.1.2.resolve_left fun w=>w hl
 ·have z:=q y hy
  simp only [Zun,Zus,decide_eq_true_eq] at z
  show X.env.scope.names.lookup y.1=_\/X.env.scope.names.lookup y.1=_
  rw [e]
  rcases z.2 with (w | w) | w
  ·exact absurd hf w
  ·exact .inl w
  ·exact .inr w
noncomputable def sU (XN:List Str) (scope:Scope) (N:List Str) (k:Nat) (sel:List Nat):Bool:=decide (N.length=k+sel.length) && (Zsj sel.length).all fun i=>match sel[i]?,N[k+i]? with
 | some j,some x=>decide (XN[j]? = some x) && decide (scope.names.lookup x=some .free)
 | _,_=>false
theorem aF.of {scope:Scope}{N:List Str}{k:Nat}{sel:List Nat} (XN:List Str) (h:sU XN scope N k sel=true) (e:X.N=XN:=by rfl):aF X scope N k sel:=by
 unfold sU at h
 simp only [Zun,decide_eq_true_eq] at h
 refine ⟨h.1,fun i j x h1 h2=>?_⟩
 have hi:i<sel.length:=(Zsk.mp h1).1
 have q:=ZsQ.mp h.2 i (ZsL.mpr hi)
 rw [h1,h2] at q
 simp only [Zun,decide_eq_true_eq] at q
 rw [e]
 exact q
end
theorem i4 {A:Around}{k:Nat} (hr:bG k A):A.units+8<cLine:=by have:=hr.units;omega
section
variable {X:Cx}{a b:Expr}{te:TE}
noncomputable def By (t:TE):TO:=fun σ H Q=>t σ H fun x H1=>match x with | .int i=>Q (some i) H1 | _=>False
theorem ZpA (t:TE):By t=MS t:=by
 funext σ H Q
 unfold By MS
 congr 1
 funext x H'
 apply propext
 cases x <;> first
  | exact ⟨fun q=>⟨_,rfl,q⟩,fun ⟨i,e,q⟩=>by cases e;exact q⟩
  | exact ⟨fun q=>False.elim q,fun ⟨i,e,q⟩=>by cases e⟩
theorem uS (h:PE X a te):PO X (some a) (By te):=by
 rw [ZpA]
 exact ZqR h
noncomputable def xu:V->Hp->VK->Prop:=fun x H Q=>match x with | .int i=>Q (.int (-i)) H | _=>False
theorem AU:Ei X (unaryOp .USub) xu:=fun pins s σ H x v Q I rx h=>by
 cases x <;> first | exact False.elim h | exact wI pins s σ H _ v Q I rx ⟨_,rfl,h⟩
theorem rA {op:CmpOp}{t:TE}{pos:Pos} (h:PC X op a b t) (h1:behindInMarks op b=false:=by first | exact Jp _ (by decide) (by decide) | rfl | with_unfolding_all rfl):PT X (.Compare a [op] [b] pos) (bW t):=by
 have e:bW t=tB t:=by
  funext σ H Q
  unfold bW tB
  congr 1
  funext x H'
  exact Az
 rw [e]
 exact uV h h1
end
section
variable {K:ZrF}{σ:St}{sel:List Nat}{rest:St}{H:Hp}{p:Addr}{tt:TT}{te:TE}{Q:VK}
noncomputable abbrev zU (J:It) (σ:St) (k:Nat) (sel:List Nat) (g:TG) (tt:TT) (te:TE) (Q:VK) (H1:Hp) (p:Addr):Prop :=
 ∃ W:Nat->Nat->St->Hp->Prop,(∃ m,W 0 m (cst σ k sel) (upd H1 p (.lst [])))/\∀ i m σ2 H2,W i m σ2 H2 ->
  (J.stop i H2/\Q (.ref p) H2)\/(J.go i H2/\∀ x H3,J.lT i H2 x H3->g x σ2 H3 fun σ4 H4=>tt σ4 H4 fun b H5 =>
   if b=true then te σ4 H5 fun v H6=>∃ ys,H6 p=some (.lst ys)/\ys.length<sizeLine/\∃ m',m'<m/\W (i+1) m' σ4 (upd H6 p (.lst (ys ++ [v]))) else ∃ m',m'<m/\W (i+1) m' σ4 H5)
theorem zR {J:It}{n:Nat}{item:Nat->V} (Pv:Nat->Hp->Prop) (hr:sel.map (fun j=>(σ[j]?).join)=rest) (h0:Pv 0 (upd H p (.lst [])))
  (src:∀ i H2,i<n->Pv i H2->J.go i H2/\∀ x H3,J.lT i H2 x H3->H3=H2/\x=item i) (fin:∀ H2,Pv n H2->J.stop n H2)
  (step:∀ i H2 (R:Hp->Prop),i<n->Pv i H2->(∀ H',Pv (i+1) H'->R H')->tt (some (item i) :: rest) H2 fun b H5 =>
   if b=true then te (some (item i) :: rest) H5 fun v H6=>∃ ys,H6 p=some (.lst ys)/\ys.length<sizeLine/\R (upd H6 p (.lst (ys ++ [v]))) else R H5)
  (hQ:∀ H2,Pv n H2->Q (.ref p) H2):zU J σ 1 sel (aC 0) tt te Q H p:=by
 refine ⟨fun i m σ2 H2=>i<=n/\m=n - i+1/\(∃ v,σ2=v :: rest)/\Pv i H2,⟨n+1,ZtN _,rfl,⟨none,?_⟩,h0⟩,?_⟩
 ·unfold cst;rw [hr];rfl
 ·rintro i m σ2 H2 ⟨hi,rfl,⟨v,rfl⟩,hP⟩
  by_cases bw:i<n
  ·right
   obtain ⟨hg,hy⟩:=src i H2 bw hP
   refine ⟨hg,fun x H3 hx=>?_⟩
   obtain ⟨rfl,rfl⟩:=hy x H3 hx
   exact step i H3 (fun H'=>∃ m',m'<n - i+1/\i+1<=n/\m'=n - (i+1)+1/\(∃ v,(some (item i) :: rest:St)=v :: rest)/\Pv (i+1) H') bw hP fun H' h'=>⟨n - (i+1)+1,by omega,bw,rfl,⟨_,rfl⟩,h'⟩
  ·left
   have e:i=n:=by omega
   subst e
   exact ⟨fin H2 hP,hQ H2 hP⟩
theorem Aq {a:Addr}{xs:List V}{Pv:Nat->Hp->Prop} (hl:∀ i H2,i<=xs.length->Pv i H2->bg K H2 a xs):∀ i H2,i<xs.length->Pv i H2->(kD K a).go i H2/\∀ x H3,(kD K a).lT i H2 x H3->H3=H2/\x=xs.getD i .non:=fun i H2 hi hP=>by
 have q:=hl i H2 (ZtR hi) hP
 have e:xs[i]? = some (xs.getD i .non):=by simp [Zsx,hi]
 refine ⟨⟨xs,_,q,e⟩,fun x H3 ⟨h1,h2⟩=>⟨h1,?_⟩⟩
 have:=h2 xs q
 rw [e] at this
 exact (Option.some.inj this).symm
theorem Qd {a:Addr}{xs:List V}{Pv:Nat->Hp->Prop} (hl:∀ i H2,i<=xs.length->Pv i H2->dD K H2 a xs):∀ i H2,i<xs.length->Pv i H2->(pS K a).go i H2/\∀ x H3,(pS K a).lT i H2 x H3->H3=H2/\x=xs.getD i .non:=fun i H2 hi hP=>by
 have q:=hl i H2 (ZtR hi) hP
 have e:xs[i]? = some (xs.getD i .non):=by simp [Zsx,hi]
 refine ⟨⟨xs,_,q,e⟩,fun x H3 ⟨h1,h2⟩=>⟨h1,?_⟩⟩
 have:=h2 xs q
 rw [e] at this
 exact (Option.some.inj this).symm
theorem Yu {lo:Int}{n:Nat}{Pv:Nat->Hp->Prop}:∀ i H2,i<n->Pv i H2->(lH lo n).go i H2/\∀ x H3,(lH lo n).lT i H2 x H3->H3=H2/\x=.int (lo+i):=fun i H2 hi hP=>⟨hi,fun x H3 h=>h⟩
theorem iy {H:Hp}{p:Addr}{o:HO} (hp:H p=none):aQ H (upd H p o):=fun b u e=>by rw [aE (cn e hp)];exact e
theorem RD {xs:List V}{f:V->V}{i:Nat} (hi:i<xs.length):(xs.take i).map f ++ [f (xs.getD i .non)]=(xs.take (i+1)).map f:=by
 rw [ZsK,Zss]
 congr 1
 simp [Zsx,hi]
theorem Zod {a:Addr}{xs:List V} (f:V->V) (hl:bg K H a xs) (hp:H p=none) (hr:sel.map (fun j=>(σ[j]?).join)=rest) (hz:xs.length<=sizeLine)
  (he:∀ x H' (Q':VK),x∈xs->aQ H H'->Q' (f x) H'->te (some x :: rest) H' Q') (hQ:Q (.ref p) (upd H p (.lst (xs.map f)))):zU (kD K a) σ 1 sel (aC 0) gr te Q H p:=by
 refine zR (n:=xs.length) (item:=fun i=>xs.getD i .non) (fun i H2=>H2=upd H p (.lst ((xs.take i).map f))) hr (by simp) (Aq ?_) ?_ ?_ ?_
 ·rintro i H2 hi rfl
  exact (iy hp).seq hl
 ·rintro H2 rfl
  exact ⟨xs,(iy hp).seq hl,ZtJ _⟩
 ·rintro i H2 R hi rfl hR
  unfold gr
  dsimp only
  rw [if_pos rfl]
  refine he _ _ _ (by rw [show xs.getD i .non=xs[i] from by simp [Zsx,hi]];exact ZsV _) (iy hp) ⟨_,bR,?_,hR _ ?_⟩
  ·rw [Zsh,Zs6];omega
  ·rw [HR,RD hi]
 ·rintro H2 rfl
  rw [ZsI]
  exact hQ
theorem Zk1 {a:Addr}{xs:List V} (q:V->Bool) (f:V->V) (hl:bg K H a xs) (hp:H p=none) (hr:sel.map (fun j=>(σ[j]?).join)=rest) (hz:xs.length<=sizeLine)
  (ht:∀ x H' (Q':Bool->Hp->Prop),x∈xs->aQ H H'->Q' (q x) H'->tt (some x :: rest) H' Q')
  (he:∀ x H' (Q':VK),x∈xs->q x=true->aQ H H'->Q' (f x) H'->te (some x :: rest) H' Q') (hQ:Q (.ref p) (upd H p (.lst ((xs.filter q).map f)))):zU (kD K a) σ 1 sel (aC 0) tt te Q H p:=by
 refine zR (n:=xs.length) (item:=fun i=>xs.getD i .non) (fun i H2=>H2=upd H p (.lst (((xs.take i).filter q).map f))) hr (by simp) (Aq ?_) ?_ ?_ ?_
 ·rintro i H2 hi rfl
  exact (iy hp).seq hl
 ·rintro H2 rfl
  exact ⟨xs,(iy hp).seq hl,ZtJ _⟩
 ·rintro i H2 R hi rfl hR
  have ex:xs.getD i .non=xs[i]:=by simp [Zsx,hi]
  have hm:xs.getD i .non∈xs:=by rw [ex];exact ZsV _
  have et:xs.take (i+1)=xs.take i ++ [xs.getD i .non]:=by rw [ZsK];simp [Zsx,hi]
  refine ht _ _ _ hm (iy hp) ?_
  cases hq:q (xs.getD i .non) with
  | true =>
   rw [if_pos rfl]
   refine he _ _ _ hm hq (iy hp) ⟨_,bR,?_,hR _ ?_⟩
   ·rw [Zsh]
    have:=Zs2 q (xs.take i)
    rw [Zs6] at this
    omega
   ·rw [HR,et,Zs0,Zss,ZsO,if_pos hq]
    rfl
  | false =>
   rw [if_neg (by simp)]
   refine hR _ ?_
   rw [et,Zs0,Zss,ZsO,if_neg (by rw [hq];simp),Ztm,ZsY,ZsT]
 ·rintro H2 rfl
  rw [ZsI]
  exact hQ
end
noncomputable def nD (x:V) (k:Addr->Prop):Prop:=match x with | .ref p=>k p | _=>False
theorem Im {x:V}{k:Addr->Prop}:(∃ p,x=.ref p/\k p)=nD x k:=by
 apply propext
 cases x <;> first
  | exact ⟨fun ⟨p,e,q⟩=>by cases e;exact q,fun q=>⟨_,rfl,q⟩⟩
  | exact ⟨fun ⟨p,e,q⟩=>(by cases e),fun q=>False.elim q⟩
noncomputable def Hc (vs:List V) (k:Int->Prop):Prop:=match vs with | [.int j]=>k j | _=>False
theorem Qc {vs:List V}{k:Int->Prop}:(∃ j,vs=[.int j]/\k j)=Hc vs k:=by
 apply propext
 constructor
 ·rintro ⟨j,rfl,q⟩;exact q
 ·intro h
  unfold Hc at h
  split at h
  ·exact ⟨_,rfl,h⟩
  ·exact h.elim
noncomputable def Hi (vs:List V) (k:Int->Int->Prop):Prop:=match vs with | [.int i,.int j]=>k i j | _=>False
theorem ZpD {vs:List V}{k:Int->Int->Prop}:(∃ i j,vs=[.int i,.int j]/\k i j)=Hi vs k:=by
 apply propext
 constructor
 ·rintro ⟨i,j,rfl,q⟩;exact q
 ·intro h
  unfold Hi at h
  split at h
  ·exact ⟨_,_,rfl,h⟩
  ·exact h.elim
noncomputable def oi (J:It) (g:TG) (tb:TS) (D:Ends) (σ:St) (H:Hp):Prop:=∃ W:Nat->Nat->St->Hp->Prop,(∃ m,W 0 m σ H)/\∀ i m σ H,W i m σ H ->
 (J.stop i H/\D.nx σ H)\/(J.go i H/\∃ N:St->Hp->Prop,(∀ σ' H',N σ' H'->∃ m',m'<m/\W (i+1) m' σ' H')/\∀ x H',J.lT i H x H'->g x σ H' fun σ2 H2=>tb { D with nx:=N,ct:=N,bk:=D.nx } σ2 H2)
noncomputable def oH (J:It) (σ:St) (k:Nat) (sel:List Nat) (g:TG) (tt:TT) (te:TE) (Q:VK) (H1:Hp):Prop:=∀ p,H1 p=none->zU J σ k sel g tt te Q H1 p
section
variable {K:ZrF}{te:TE}{ta:TA}{g:TG}{tb:TS}{D:Ends}{σ:St}{H:Hp}{p:Addr}{xs:List V}{k:Nat}{sel:List Nat}{tt:TT}{el:TE}{Q:VK}
theorem WX:fP (eU K te) g tb D σ H=te σ H (fun x H1=>nD x fun p=>(∃ xs,bg K H1 p xs)/\oi (kD K p) g tb D σ H1):=by
 unfold fP eU
 congr 1
 funext x H1
 exact Im
theorem ZoH:fP (qB K te) g tb D σ H=te σ H (fun x H1=>nD x fun p=>(∃ xs,dD K H1 p xs)/\oi (pS K p) g tb D σ H1):=by
 unfold fP qB
 congr 1
 funext x H1
 exact Im
theorem ZmO:fP (om ta) g tb D σ H=ta σ H (fun vs H1=>Hc vs fun j=>-(2 ^ 62)<=j/\j<2 ^ 62/\oi (lH 0 j.toNat) g tb D σ H1):=by
 unfold fP om
 congr 1
 funext x H1
 exact Qc
theorem Xm:fP (sh ta) g tb D σ H=ta σ H (fun vs H1=>Hi vs fun i j=>(-(2 ^ 62)<=i/\i<2 ^ 62 /\ -(2 ^ 62)<=j/\j<2 ^ 62)/\oi (lH i (j - i).toNat) g tb D σ H1):=by
 unfold fP sh
 congr 1
 funext x H1
 exact ZpD
theorem Zl7:eN (eU K te) k sel g tt el σ H Q=te σ H (fun x H1=>nD x fun p=>(∃ xs,bg K H1 p xs)/\oH (kD K p) σ k sel g tt el Q H1):=by
 unfold eN eU
 congr 1
 funext x H1
 exact Im
theorem Xe:eN (qB K te) k sel g tt el σ H Q=te σ H (fun x H1=>nD x fun p=>(∃ xs,dD K H1 p xs)/\oH (pS K p) σ k sel g tt el Q H1):=by
 unfold eN qB
 congr 1
 funext x H1
 exact Im
theorem Zl6:eN (om ta) k sel g tt el σ H Q=ta σ H (fun vs H1=>Hc vs fun j=>-(2 ^ 62)<=j/\j<2 ^ 62/\oH (lH 0 j.toNat) σ k sel g tt el Q H1):=by
 unfold eN om
 congr 1
 funext x H1
 exact Qc
theorem qj (Pv:Nat->St->Hp->Prop) (h0:Pv 0 σ H) (hk:∀ i σ H,i<=xs.length->Pv i σ H->bg K H p xs)
  (hs:∀ i x σ H,xs[i]? = some x->Pv i σ H->g x σ H fun σ2 H2=>tb { D with nx:=Pv (i+1),ct:=Pv (i+1),bk:=D.nx } σ2 H2) (hd:∀ σ H,Pv xs.length σ H->D.nx σ H):oi (kD K p) g tb D σ H:=Zpm Pv h0 hk hs hd
theorem QB (Pv:Nat->St->Hp->Prop) (h0:Pv 0 σ H) (hk:∀ i σ H,i<=xs.length->Pv i σ H->dD K H p xs)
  (hs:∀ i x σ H,xs[i]? = some x->Pv i σ H->g x σ H fun σ2 H2=>tb { D with nx:=Pv (i+1),ct:=Pv (i+1),bk:=D.nx } σ2 H2) (hd:∀ σ H,Pv xs.length σ H->D.nx σ H):oi (pS K p) g tb D σ H:=Zrh Pv h0 hk hs hd
theorem tS {lo:Int}{n:Nat} (Pv:Nat->St->Hp->Prop) (h0:Pv 0 σ H)
  (hs:∀ (i:Nat) σ H,i<n->Pv i σ H->g (.int (lo+i)) σ H fun σ2 H2=>tb { D with nx:=Pv (i+1),ct:=Pv (i+1),bk:=D.nx } σ2 H2) (hd:∀ σ H,Pv n σ H->D.nx σ H):oi (lH lo n) g tb D σ H:=XQ Pv h0 hs hd
end
theorem rP {α:Type}{xs:List α}{i:Int} (d:α) (h0:0<=i) (h1:i<xs.length):jm xs i=some (xs.getD i.toNat d):=by
 obtain ⟨n,rfl⟩:=Zub h0
 have hn:n<xs.length:=by omega
 have e:xs[n]? = some (xs.getD n d):=by simp [Zsx,hn]
 exact XF e
theorem Yh {α β:Type} (f:α->β) (xs:List α) (n:Nat) (d:α):(xs.map f).getD n (f d)=f (xs.getD n d):=by
 simp [Zsx]
theorem Zrx {α β:Type}{f:α->β}{xs:List α}{i:Int} (d:α) (h0:0<=i) (h1:i<xs.length):jm (xs.map f) i=some (f (xs.getD i.toNat d)):=by
 rw [rP (f d) h0 (by rw [Zsh];exact h1),Yh]
theorem sW {α β:Type}{f:α->β}{xs:List α}{i:Nat}{y:β} (h:(xs.map f)[i]? = some y):∃ x,xs[i]? = some x/\y=f x:=by
 rw [Zsu] at h
 cases e:xs[i]? with
 | none=>rw [e] at h;cases h
 | some x=>rw [e] at h;exact ⟨x,rfl,(Option.some.inj h).symm⟩
theorem rD {X:Cx}{x:Str}{v:V}{pos:Pos} (hg:Gl X x) (hm:∃ u,X.mg x=some u/\bf v u) (hd:(x == ("__debug__" : Str))=false:=by decide):PE X (.Name x pos) (tC v):=by
 obtain ⟨u,h1,h2⟩:=hm
 exact XR hg h1 h2 hd
noncomputable def z6:Expr->Option V
 | .Constant (.int i) _ _=>some (.int i)
 | .Constant (.bool b) _ _=>some (.bl b)
 | .Constant .none _ _=>some .non
 | .Constant (.str x) _ _=>some (.str x)
 | _=>none
noncomputable def Hs:List Expr->Option (List V)
 | []=>some []
 | e :: r=>match z6 e,Hs r with | some v,some vs=>some (v :: vs) | _,_=>none
noncomputable def Mc (vs:List V):TA:=fun _ H Q=>Q vs H
theorem Zng {X:Cx}{e:Expr}{v:V} (h:z6 e=some v):PE X e (tC v):=by
 unfold z6 at h
 split at h <;> first
  | (cases h;exact aH)
  | (cases h;exact jM)
  | (cases h;exact ml)
  | (cases h;exact qO)
  | cases h
theorem Zw {e:Expr}{es:List Expr}{env:Env}{v:V} (h:z6 e=some v):starEach (e :: es) env=(false,eval e env) :: starEach es env:=by
 unfold z6 at h
 split at h <;> first | rfl | cases h
theorem US {X:Cx}:∀ {es:List Expr}{vs:List V},Hs es=some vs->PA X es (Mc vs)
 | [],vs,h=>by
  have e:vs=[]:=(Option.some.inj h).symm
  subst e
  exact fun pos pins s σ H Q I q=>aw pos pins s σ H Q I q
 | e :: r,vs,h=>by
  unfold Hs at h
  cases h1:z6 e with
  | none=>rw [h1] at h;cases h
  | some v =>
   cases h2:Hs r with
   | none=>rw [h1,h2] at h;cases h
   | some ws =>
    rw [h1,h2] at h
    have e':v :: ws=vs:=Option.some.inj h
    subst e'
    exact fun pos pins s σ H Q I q=>ai (Zng h1) (US h2) (Zw h1) pos pins s σ H Q I q
section
variable {X:Cx}{tg:Expr}
noncomputable def JP:V->Option Int->Option Int->Hp->VK->Prop:=fun x lo hi H Q=>match x with
 | .str z=>z.length<=sizeLine/\Q (.str (Txt.slice z lo hi)) H
 | _=>False
theorem EB:qX X JP:=by
 intro pins s σ H x v vl vu lo hi sl Q I rx hs pl pu h
 cases x with
 | str z =>
  obtain ⟨t,rfl⟩:=rx
  obtain ⟨hz,q⟩:=h
  refine ⟨"str",_,F.slot_str_getitem.lookup,typeIs_str _ _ _,?_⟩
  have fin:∀ t' k,EP X pins σ Q (.str (Txt.slice z lo hi) t') { s with toks:=k }:=fun t' k=>⟨.str (Txt.slice z lo hi),H,I.tok k,⟨t',rfl⟩,q⟩
  cases pl with
  | none=>cases pu with
   | none=>exact wpAny_getItem_str_slice (l:=none) (u:=none) (st:=none) hs rfl (post_val_or_str ⟨ZtL (Txt.slice_le z _ _) hz,fin⟩)
   | int j uj=>exact wpAny_getItem_str_slice (l:=none) (u:=some (j,uj)) (st:=none) hs rfl (post_val_or_str ⟨ZtL (Txt.slice_le z _ _) hz,fin⟩)
  | int i ui=>cases pu with
   | none=>exact wpAny_getItem_str_slice (l:=some (i,ui)) (u:=none) (st:=none) hs rfl (post_val_or_str ⟨ZtL (Txt.slice_le z _ _) hz,fin⟩)
   | int j uj=>exact wpAny_getItem_str_slice (l:=some (i,ui)) (u:=some (j,uj)) (st:=none) hs rfl (post_val_or_str ⟨ZtL (Txt.slice_le z _ _) hz,fin⟩)
 | _=>exact False.elim h
variable {te:TE}{g:TG}{tb:TS}{D:Ends}{σ:St}{H:Hp}{k:Nat}{sel:List Nat}{tt:TT}{el:TE}{Q:VK}
noncomputable def nY (K:ZrF):List V->Hp->VK->Prop:=fun vs H Q=>match vs with
 | [.ref p]=>∃ bs:List Bool,bg K H p (bs.map V.bl)/\Q (.bl (bs.all id)) H
 | _=>False
theorem Iy (hc:X.calm=true):jE X (.builtin "all") (nY X.K):=by
 intro pins s σ H xs us Q I r h
 match xs,h with
 | [.ref p],h =>
  obtain ⟨bs,h1,q⟩:=h
  obtain ⟨u,rfl,ru⟩:=qD r
  cases ru
  obtain ⟨its,rv,pl,hz⟩:=I.list h1
  have hlen:=rv.length
  rw [Zsh] at hlen
  have bw:p<s.heap.objs.size:=by obtain ⟨_,e,_⟩:=pl.isList;exact Heap.lt_size e
  have hh:X.A.in1.handled=none:=I.ok.hd hc
  refine call_all_walk (wpAny_pyIter_list pl.isList ⟨s.heap.objs.size,_,_,its.toArray.size,_,_,fun i=>bs.getD i false,rfl,Walks.list hh s.heap.objs.size p (ZtK bw) its.toArray,⟨⟨_,Heap.get?_push_size _ rfl,rfl,rfl⟩,pl.isList.push _⟩,?_,?_⟩)
  ·intro i v Q' E' s' hv hq
   have I0:its[i]? = some v:=by simpa using hv
   have hi:i<its.length:=(Zsk.mp I0).1
   obtain ⟨u,hu,ru⟩:=rv.get (i:=i) (x:=.bl (bs.getD i false)) (by rw [Zsu];simp [Zsx,show i<bs.length by omega])
   rw [I0] at hu
   cases hu
   cases ru
   exact wpAny_truthy_bool hq
  ·intro h' tk kk
   refine ⟨.bl (bs.all id),H,?_,?_,q⟩
   ·exact I.kept fun b o e=>kk b o (by simp;exact ZtK (Heap.lt_size e)) (Heap.get?_push_of_some _ e)
   ·have e:((Zsj its.toArray.size).all fun i=>bs.getD i false)=bs.all id:=by
     rw [Zsr,<- hlen]
     rw [Zuo]
     simp only [ZsQ,ZsL,id_eq]
     constructor
     ·intro z b hb
      obtain ⟨i,hi,rfl⟩:=List.mem_iff_getElem.mp hb
      have:=z i hi
      simpa [Zsx,hi] using this
     ·intro z i hi
      have:=z bs[i] (ZsV _)
      simpa [Zsx,hi] using this
    rw [e];rfl
noncomputable def mU:R2:=fun x y H Q=>match x,y with
 | .int i,.int j=>rJ i j/\Q (.int (i * j)) H
 | .str z,.int n=>MulOk z n/\Q (.str (Txt.mul z n)) H
 | _,_=>False
theorem ox:ck X (binaryOp .Mult) mU:=by
  intro pins s σ H x y v u Q I rx ry h
  cases x <;> cases y <;> first
    | exact False.elim h
    | exact wR pins s σ H _ _ v u Q I rx ry ⟨_,_,rfl,rfl,h.1,h.2⟩
    | (obtain ⟨t,rfl⟩:=rx
       obtain ⟨t',rfl⟩:=ry
       exact SB.mul h.1 fun t'' k=>⟨.str _,H,I.tok k,⟨t'',rfl⟩,h.2⟩)
end
structure fM (H:Hp) (p:Addr) (o:HO) (H':Hp):Prop where
 aD:H p=none
 eq:H'=upd H p o
section
variable {H H':Hp}{p:Addr}{o:HO}
theorem fM.same (n:fM H p o H'):aQ H H':=by rw [n.eq];exact iy n.aD
theorem fM.at_ (n:fM H p o H'):H' p=some o:=by rw [n.eq];exact bR
theorem fM.ne (n:fM H p o H') {b:Addr} (h:b≠p):H' b=H b:=by rw [n.eq];exact aE h
theorem fM.sq {K:ZrF}{xs:List V} (n:fM H p (.lst xs) H'):bg K H' p xs:=.of n.at_
theorem vK {F:Addr->Hp->Prop}{o:HO}:(∀ p,H p=none->F p (upd H p o)) = ∀ p H',fM H p o H'->F p H' :=
 propext ⟨fun h p H' n=>by rw [n.eq];exact h p n.aD,fun h p hp=>h p _ ⟨hp,rfl⟩⟩
end
section
variable {K:ZrF}{t:TA}{σ:St}{H:Hp}{Q:VK}{x:V}{lo hi:Option Int}{vs:List V}{kvs:List (Key × V)}
theorem wq:jo t σ H Q=t σ H fun xs H1=>xs.length<=sizeLine/\∀ p H',fM H1 p (.lst xs) H'->Q (.ref p) H':=by
 unfold jo;congr 1;funext xs H1;rw [vK (F:=fun p H'=>Q (.ref p) H')]
theorem NQ:kq t σ H Q=t σ H fun xs H1=>xs.length<=sizeLine/\∀ p H',fM H1 p (.tup xs) H'->Q (.ref p) H':=by
 unfold kq;congr 1;funext xs H1;rw [vK (F:=fun p H'=>Q (.ref p) H')]
theorem ZoJ:rC σ H Q = ∀ p H',fM H p (.dK []) H'->Q (.ref p) H':=by
 unfold rC;rw [vK (F:=fun p H'=>Q (.ref p) H')]
theorem ub {p:Addr}:yR K (.ref p) lo hi H Q = ∃ xs,bg K H p xs/\∀ q H',fM H q (.lst (qU xs lo hi)) H'->Q (.ref q) H':=by
 unfold yR
 dsimp only
 congr 1;funext xs;rw [vK (F:=fun p H'=>Q (.ref p) H')]
theorem WE {p:Addr}:tf K [.ref p] H Q = ∃ ys,(bg K H p ys\/dD K H p ys)/\∀ l H',fM H l (.lst ys) H'->Q (.ref l) H':=by
 unfold tf
 dsimp only
 congr 1;funext xs;rw [vK (F:=fun p H'=>Q (.ref p) H')]
theorem Zpz {p:Addr}:zF K [.ref p] H Q = ∃ ys,((bg K H p ys/\∀ l H',fM H l (.tup ys) H'->Q (.ref l) H')\/(dD K H p ys/\Q (.ref p) H)):=by
 unfold zF
 dsimp only
 congr 1;funext xs;rw [vK (F:=fun p H'=>Q (.ref p) H')]
end
section
variable {K:ZrF}{σ:St}{sel:List Nat}{rest:St}{H:Hp}{tt:TT}{te:TE}{Q:VK}
theorem qN {a:Addr}{xs:List V} (f:V->V) (hl:bg K H a xs) (hr:sel.map (fun j=>(σ[j]?).join)=rest) (hz:xs.length<=sizeLine)
  (he:∀ x H' (Q':VK),x∈xs->aQ H H'->Q' (f x) H'->te (some x :: rest) H' Q') (hQ:∀ p H',fM H p (.lst (xs.map f)) H'->Q (.ref p) H'):oH (kD K a) σ 1 sel (aC 0) gr te Q H :=
 fun p hp=>Zod f hl hp hr hz he (hQ p _ ⟨hp,rfl⟩)
theorem Hd {a:Addr}{xs:List V} (q:V->Bool) (f:V->V) (hl:bg K H a xs) (hr:sel.map (fun j=>(σ[j]?).join)=rest) (hz:xs.length<=sizeLine)
  (ht:∀ x H' (Q':Bool->Hp->Prop),x∈xs->aQ H H'->Q' (q x) H'->tt (some x :: rest) H' Q')
  (he:∀ x H' (Q':VK),x∈xs->q x=true->aQ H H'->Q' (f x) H'->te (some x :: rest) H' Q') (hQ:∀ p H',fM H p (.lst ((xs.filter q).map f)) H'->Q (.ref p) H'):oH (kD K a) σ 1 sel (aC 0) tt te Q H :=
 fun p hp=>Zk1 q f hl hp hr hz ht he (hQ p _ ⟨hp,rfl⟩)
end
noncomputable def yh (K:ZrF):V->Option Int->Option Int->Hp->VK->Prop:=fun x lo hi H Q=>match x with
 | .ref p=>∃ xs,bg K H p xs/\∀ q H',fM H q (.lst (qU xs lo hi)) H'->Q (.ref q) H'
 | .str z=>z.length<=sizeLine/\Q (.str (Txt.slice z lo hi)) H
 | _=>False
theorem XC {X:Cx}:qX X (yh X.K):=by
 intro pins s σ H x v vl vu lo hi sl Q I rx hs pl pu h
 cases x with
 | ref p=>exact wW pins s σ H (.ref p) v vl vu lo hi sl Q I rx hs pl pu (by rw [ub];exact h)
 | str z=>exact EB pins s σ H (.str z) v vl vu lo hi sl Q I rx hs pl pu h
 | _=>exact False.elim h
end L2
set_option maxHeartbeats 4000000
namespace DZ
open PySem
section
variable {prog:Program}{w:World}{A:Around}{E:Value->Shared->Prop}{s:Shared}
end
section
variable {M:Model}{A:Around}{E:Value->Shared->Prop}{s:Shared}
theorem alive {a:Addr}{o:Obj}{Q:Option Obj->Shared->Prop} (h:s.heap.get? a=some o) (q:Q (some o) s):wpAny M A (loadIfAlive a) Q E s:=fun Γ p _=>by
 unfold loadIfAlive
 rw [Sem.wp_loadIfAlive,h]
 exact q
end
structure nW (z TI TO i1 i2 t l:Addr) (xs ys:Array Value) (i:Nat) (h:Heap):Prop where
 zo:∃ f0 f1,h.get? z=some { cls:=.type "zip",dict:=none,data:=.fields #[f0,.bool f1,.bool false,.ref TI,.ref TO],slots:=#[] } /\
  (f0=.none\/∃ (T:Addr) (o:Obj),f0=rawInt T/\h.get? T=some o/\T≠z/\T≠TO/\T≠i1/\T≠i2)
 ti:IsPair h TI (.ref i1) (.ref i2)
 to:∃ a b,IsPair h TO a b
 a1:h.IsTupleIter i1 t i
 a2:h.IsListIter i2 l i
 l1:h.IsTuple t xs
 l2:h.IsList l ys
section
variable {prog:Program}{w:World}{A:Around}{E:Value->Shared->Prop}{s:Shared}
end
end DZ
set_option maxHeartbeats 4000000
namespace DZ
open PySem
theorem Y9:entryFor table "zip.__getattribute__" = some Builtin.«object.__getattribute__» :=
 entryFor_alias (id':="object.__getattribute__") (by kernel_rfl) (by first | rfl | decide +kernel) (by decide +kernel) (by kernel_rfl)
theorem ZkN:typeLookup (.type "zip") "keys" = pure none:=by rw [typeLookup_type,builtinLookup_eq_fast];kernel_rfl
section
variable {prog:Program}{w:World}{A:Around}{E:Value->Shared->Prop}{h:Heap}{g:Array GenState}{d:Drawn}{t:Nat}{os:OsState}{z:Addr}{vs:Array Value}
theorem Pd {tk:Tok}{Q:Fin->Shared->Prop} (hh:A.handled=none) (hz:h.get? z=some { cls:=.type "zip",dict:=none,data:=.fields vs,slots:=#[] })
  (hE:∀ h' e t',(∀ c o,h.get? c=some o->h'.get? c=some o)->(∃ o,h'.get? e=some o/\o.cls=.type "AttributeError")->E (.ref e) ⟨h',g,d,t',os⟩) :
  wpAny (model prog w) A (Builtin.«object.__getattribute__» ⟨[.ref z,.str "keys" tk],[]⟩) Q E ⟨h,g,d,t,os⟩:=by
 have hT:(⟨h,g,d,t,os⟩:Shared).TypeIs (.ref z) "zip":=⟨_,hz,rfl⟩
 have f4:=ZkN
 repeat (any_goals (first | assumption | wp_step))
 refine wpAny_raiseAttrError hh (fun h' tk' e x=>?_) (attrMsg_fits (by decide +kernel) (by decide +kernel))
 obtain ⟨t',u',he⟩:=x.there
 exact hE h' e tk' (fun c o q=>x.keeps c o q) ⟨_,he,rfl⟩
theorem JF {tk:Tok}{R:Result->Shared->Prop} (hh:A.handled=none) (hz:h.get? z=some { cls:=.type "zip",dict:=none,data:=.fields vs,slots:=#[] })
  (hE:∀ h' e t',(∀ c o,h.get? c=some o->h'.get? c=some o)->(∃ o,h'.get? e=some o/\o.cls=.type "AttributeError")->R (.error (.ref e)) ⟨h',g,d,t',os⟩) :
  codeAny (model prog w) A (.call (.builtin "zip.__getattribute__") ⟨[.ref z,.str "keys" tk],[]⟩) R ⟨h,g,d,t,os⟩ :=
 codeAny_call_builtin F.slot_zip_getattribute.plain Y9 (F.slot_zip_getattribute.check _ _ _ _ _ _ _ _ (show (⟨h,g,d,t,os⟩:Shared).TypeIs (.ref z) "zip" from ⟨_,hz,rfl⟩) (F.args_zip_getattribute_2 _ _) (Pd hh hz hE))
theorem PD {tk:Tok}{Q:Value->Shared->Prop} (hh:A.handled=none) (hz:h.get? z=some { cls:=.type "zip",dict:=none,data:=.fields vs,slots:=#[] })
  (hE:∀ h' e t',(∀ c o,h.get? c=some o->h'.get? c=some o)->(∃ o,h'.get? e=some o/\o.cls=.type "AttributeError")->E (.ref e) ⟨h',g,d,t',os⟩) :
  wpAny (model prog w) A (getAttrBy (.ref z) (.str "keys" tk) false) Q E ⟨h,g,d,t,os⟩:=by
 have hT:(⟨h,g,d,t,os⟩:Shared).TypeIs (.ref z) "zip":=⟨_,hz,rfl⟩
 have f2:=F.slot_zip_getattribute.lookup
 have f3:=F.slot_zip_getattribute.bind (.ref z)
 have f1:=sub_AttributeError
 repeat (any_goals (first | assumption | wp_step))
 refine JF hh hz fun h' e t' k he=>?_
 obtain ⟨o,ho,hc⟩:=he
 have hTe:(⟨h',g,d,t',os⟩:Shared).TypeIs (.ref e) "AttributeError":=⟨o,ho,hc⟩
 have fin:=hE h' e t' k ⟨o,ho,hc⟩
 have f5:typeLookup (.type "zip") "__getattr__" = pure none:=by rw [typeLookup_type,builtinLookup_eq_fast];kernel_rfl
 show wpAny _ _ (getattributeRaised _ _ _ _ _ _ _) _ _ _
 unfold getattributeRaised
 repeat (any_goals (first | assumption | wp_step))
theorem HF {Q:Option Value->Shared->Prop} (hh:A.handled=none) (hz:h.get? z=some { cls:=.type "zip",dict:=none,data:=.fields vs,slots:=#[] })
  (hq:∀ h' t',(∀ c o,h.get? c=some o->h'.get? c=some o)->Q none ⟨h',g,d,t',os⟩) :
  wpAny (model prog w) A (getAttr? (.ref z) "keys") Q E ⟨h,g,d,t,os⟩:=by
 unfold getAttr? getAttrBy?
 have f1:=sub_AttributeError
 refine wpAny_bind (wpAny_mkText ?_)
 refine wpAny_bind (wpAny_attempt (PD hh hz fun h' e t' k he=>?_))
 obtain ⟨o,ho,hc⟩:=he
 refine wpAny_bind (wpAny_isInstance (T:="AttributeError") (b:=true) ⟨o,ho,hc⟩ f1 ?_)
 exact wpAny_pure (hq _ _ k)
end
theorem Jo:mroOf (.type "dict")=pure [.type "dict",.type "object"]:=by rw [mroOf_type];kernel_rfl
theorem Wv:typeLookup (.type "dict") "__new__" = pure (some (.builtin "dict.__new__")):=by rw [typeLookup_type,builtinLookup_eq_fast];kernel_rfl
theorem N0:TypeCalled "dict" "dict.__new__" "dict.__init__" :=
 ⟨by decide +kernel,by decide +kernel,⟨_,_,Jo⟩,madeBy_type Jo Wv (by decide +kernel),by decide +kernel,by rw [isSubtype_type];kernel_rfl,F.slot_dict_init⟩
theorem Py (a:Value):checkTypeCall "dict" ⟨[a],[]⟩=pure ():=by kernel_rfl
theorem ZhE (a:Value):checkBuiltinCall "dict.__new__" ⟨[.type "dict",a],[]⟩=pure ():=by kernel_rfl
theorem Xc:entryFor table "dict.__new__" = some Builtin.«dict.__new__»:=entryFor_of_tree (by kernel_rfl)
theorem Gh:entryFor table "dict.update.loop" = some Builtin.«dict.update.loop»:=entryFor_of_tree (by kernel_rfl)
theorem Ve:plainId "dict.__new__" = true:=by decide +kernel
theorem qZ:plainId "dict.update.loop" = true:=by decide +kernel
theorem Ib:isSubtype (.type "dict") (.type "dict")=pure true:=by rw [isSubtype_type];kernel_rfl
section
variable {prog:Program}{w:World}{A:Around}{E:Value->Shared->Prop}{s:Shared}
theorem J8 (a:Value) {Q:Value->Shared->Prop} (h:Q (.ref s.heap.objs.size) { s with heap:=s.heap.push { cls:=.type "dict",data:=.dict #[] } }) :
  codeAny (model prog w) A (.call (.builtin "dict.__new__") ⟨[.type "dict",a],[]⟩) (wants Q E) s:=by
 refine codeAny_of_tree ?_
 show wpAny _ A.in1 (do checkBuiltinCall "dict.__new__" ⟨[.type "dict",a],[]⟩;again (.builtin "dict.__new__" ⟨[.type "dict",a],[]⟩)) _ _ s
 refine wpAny_bind (wpAny_of_eq (ZhE a) (wpAny_pure ⟨plainId_quiet Ve _,codeAny_builtin Xc ?_⟩))
 rw [Around.under_plainId Ve _]
 have ym:=Ib
 have hm:=Jo
 obtain ⟨hp,g,d,tk,os⟩:=s
 wp_walk
 exact h
end
end DZ
set_option maxHeartbeats 4000000
namespace DZ
open PySem
section
variable {prog:Program}{w:World}{A:Around}{E:Value->Shared->Prop}{s:Shared}
theorem VS {z:Addr}{vs:Array Value}{Q:Value->Shared->Prop} (hz:s.heap.get? z=some { cls:=.type "zip",dict:=none,data:=.fields vs,slots:=#[] }) (h:Q (.ref z) s):wpAny (model prog w) A (pyIter (.ref z)) Q E s:=by
 have hT:s.TypeIs (.ref z) "zip":=⟨_,hz,rfl⟩
 refine wpAny_pyIter_slot hT F.slot_zip_iter (wpAny_call_entry F.slot_zip_iter hT F.entry_zip_iter ?_ (F.args_zip_iter_1 _))
 show wpAny _ _ (ret (.ref z)) _ _ s
 exact wpAny_pure ⟨_,rfl,"zip",_,hT,F.slot_zip_next.lookup,h⟩
theorem J4 {κ:Type} [DecidableEq κ] (kvs:List (κ × Value)) (k:κ) (v:Value):(stored kvs k v).length<=kvs.length+1:=by
 unfold stored
 split
 ·rw [Zsh];exact Zt0 _
 ·rw [Zsm];exact ZtJ _
variable {κ:Type} [DecidableEq κ] {knd:KeyKind prog w κ}
end
end DZ
set_option maxHeartbeats 4000000
namespace L2
open PySem PySem.Spec PyProof.Rows
section
variable {X:Cx}{pins:List (Addr × Obj)}{σ:St}{H:Hp}{s:Shared}{h':Heap}
theorem Inv.dz {t':Nat}{ch:List Addr}{d:Addr}{ob:HO} (I:Inv X pins σ H s) (lD:∀ b∈ch,lg X pins H b) (hd:s.heap.objs.size<=d) (k:∀ b o,b ∉ ch->s.heap.get? b=some o->h'.get? b=some o)
  (new:eR X.prog X.w (upd H d ob) h' d ob):Inv X pins σ (upd H d ob) { s with heap:=h',toks:=t' }:=by
 have hn:H d=none:=I.aB.fresh hd
 have old:∀ {b o},s.heap.get? b=some o->b≠d:=fun e=>ZtK (ZtM (Heap.lt_size e) hd)
 have sH:∀ b u,H b=some u->b ∉ ch:=fun b u e z=>by rw [(lD b z).1] at e;cases e
 refine I.step (g':=s.gens) (d':=s.drawn) (ch:=ch) (fun b hb=>?_) (fun b o _ _ hc e _=>k b o hc e) (fun b o _ _ hc e _=>⟨o.slots,k b o hc e⟩) (fun b o _ e n=>by rw [aE (old e)];exact n)
  (fun b o hc e=>⟨o,k b o hc e⟩) (fun b xs e=>by rw [aE (cn e hn)];exact e) (fun b o u e=>by rw [aE (cn e hn)];exact e) (fun b ps e=>⟨#[],by rw [aE (cn e hn),e];simp⟩) (fun m hm=>?_) (fun b u e=>?_) I.bare
 ·obtain ⟨f0,f1,f2,f3,f4,f5⟩:=lD b hb
  exact ⟨f3,f1,f4,f5⟩
 ·obtain ⟨o,es,ep,ho,r⟩:=hm
  exact ⟨o,es,ep,k _ o (fun z=>(lD _ z).2.1 rfl) ho,r⟩
 ·by_cases hb:b=d
  ·subst hb
   rw [bR] at e
   cases e
   exact new
  ·rw [aE hb] at e
   refine (I.aB b u e).i5 (fun c v hc q=>k c v ?_ q) (fun c q=>by rw [aE (cn q hn)];exact q) fun c xs q=>by rw [aE (cn q hn)];exact q
   rcases hc with z | z
   ·rw [z];exact sH b u e
   ·exact sH c _ z
end
end L2
namespace NM
noncomputable def Yw (c:Nat):Prop:=97<=c/\c<=122
structure Nm (w:List Nat):Prop where
 pos:1<=w.length
 le:w.length<=8
 ok:∀ c∈w,Yw c
noncomputable def nx (p:List Nat) (c k:Nat):List Nat:=p ++ (c+1) :: Zsp k 97
inductive Nx:List Nat->List Nat->Prop where
 | at (p:List Nat) (c k:Nat):c≠122->Nx (p ++ c :: Zsp k 122) (nx p c k)
 | all (n:Nat):Nx (Zsp n 122) (Zsp (n % 8+1) 97)
inductive Lp:Nat->List Nat->List Nat->Prop where
 | zero (w:List Nat):Lp 0 w w
 | succ {k:Nat}{u v w:List Nat}:Nx u v->Lp k v w->Lp (k+1) u w
end NM
namespace ME
section
variable {κ:Type} [DecidableEq κ] {α β:Type}
noncomputable def m2 (f:α->β) (e:List (κ × α)):List (κ × β):=e.map fun p=>(p.1,f p.2)
noncomputable abbrev Gt (κ:Type):=κ × κ × List κ
noncomputable def WG (A:κ->Nat->Prop) (iA:List κ):List (Gt κ)->Prop
 | []=>True
 | g :: r=>(∀ p∈g.2.2,p∈iA)/\A g.2.1 g.2.2.length/\g.2.2.length<=6/\WG A (iA ++ [g.1]) r
theorem WG.at {A:κ->Nat->Prop}:∀ {gs:List (Gt κ)}{iA:List κ}{i:Nat}{g:Gt κ},WG A iA gs->gs[i]? = some g ->
  (∀ p∈g.2.2,p∈iA ++ (gs.take i).map (·.1))/\A g.2.1 g.2.2.length/\g.2.2.length<=6
 | [],_,_,_,_,h=>by simp at h
 | x :: gs,iA,0,g,⟨a,b,c,d⟩,h=>by
  simp at h;subst h
  exact ⟨by simpa using a,b,c⟩
 | x :: gs,iA,i+1,g,⟨a,b,c,d⟩,h=>by
  have:=WG.at (i:=i) (g:=g) d (by simpa using h)
  simpa using this
end
end ME
namespace MC
noncomputable def bD:Nat->List Nat × Nat × Nat
 | 0=>([],1,1)
 | n+1=>((bD n).1.map (fun c=>c ||| (c * 2 ^ (bD n).2.2)) ++ [(bD n).2.1 * 2 ^ (bD n).2.2],(bD n).2.1 ||| ((bD n).2.1 * 2 ^ (bD n).2.2),(bD n).2.2 * 2)
theorem Nc (c w j:Nat):(c * 2 ^ w).testBit j=(decide (w<=j) && c.testBit (j - w)):=by
 rw [<- Nat.shiftLeft_eq,Nat.testBit_shiftLeft]
theorem D8:∀ n,(bD n).2.2=2 ^ n
 | 0=>rfl
 | n+1=>by show (bD n).2.2 * 2=_;rw [D8 n,ZtS]
theorem C9 {c w j:Nat} (h:c<2 ^ w) (hj:w<=j):c.testBit j=false:=Zt5 (ZtM h (ZtX (by decide) hj))
theorem HE:∀ n,(bD n).2.1=2 ^ (2 ^ n) - 1
 | 0=>rfl
 | n+1=>by
  show (bD n).2.1 ||| ((bD n).2.1 * 2 ^ (bD n).2.2)=_
  rw [HE n,D8 n]
  apply Nat.eq_of_testBit_eq
  intro j
  rw [Zt1,Nc,ZtY,ZtY,ZtY,ZtS]
  by_cases h1:j<2 ^ n
  ·simp [h1];omega
  ·by_cases h2:j<2 ^ n * 2
   ·simp [h1,h2];omega
   ·simp [h1,h2];omega
theorem IE:∀ n,(bD n).1.length=n
 | 0=>rfl
 | n+1=>by show (_ ++ [_]).length=_;simp [IE n]
theorem IU:∀ n,∀ c∈(bD n).1,c<2 ^ (2 ^ n)
 | 0,c,h=>by simp [bD] at h
 | n+1,c,h=>by
  have h':c∈(bD n).1.map (fun c=>c ||| (c * 2 ^ (bD n).2.2)) ++ [(bD n).2.1 * 2 ^ (bD n).2.2]:=h
  rw [D8,HE] at h'
  have e2:2 ^ (2 ^ (n+1))=2 ^ (2 ^ n) * 2 ^ (2 ^ n):=by rw [<- Nat.pow_add,ZtS];congr 1;omega
  have hp:0<2 ^ (2 ^ n):=ZtZ (by decide)
  have up:∀ d,d<2 ^ (2 ^ n)->d * 2 ^ (2 ^ n)<2 ^ (2 ^ (n+1)):=fun d hd=>by rw [e2];exact Nat.mul_lt_mul_of_pos_right hd hp
  rcases Zsq.mp h' with q | q
  ·obtain ⟨d,hd,rfl⟩:=Zsi.mp q
   have:=IU n d hd
   refine Nat.or_lt_two_pow (ZtM this (ZtX (by decide) (ZtX (by decide) (Zt0 _)))) (up d this)
  ·rw [Zsl.mp q]
   exact up _ (by omega)
theorem Zq2 {n i j:Nat} (h1:2 ^ n<=j) (h2:j<2 ^ (n+1)) (hi:i<n):(j - 2 ^ n).testBit i=j.testBit i:=by
 have e:j=2 ^ n+(j - 2 ^ n):=by omega
 have h3:j - 2 ^ n<2 ^ n:=by rw [ZtS] at h2;omega
 have:=Nat.testBit_two_pow_add_gt (i:=n) (j:=i) hi (j - 2 ^ n)
 rw [<- e] at this
 exact this.symm
theorem Z3 {n j:Nat} (h2:j<2 ^ (n+1)):j.testBit n=decide (2 ^ n<=j):=by
 by_cases h:2 ^ n<=j
 ·rw [decide_eq_true h]
  have e:j=2 ^ n+(j - 2 ^ n):=by omega
  have h3:j - 2 ^ n<2 ^ n:=by rw [ZtS] at h2;omega
  have:=Nat.testBit_two_pow_add_eq (j - 2 ^ n) n
  rw [<- e] at this
  rw [this,Zt5 h3];rfl
 ·rw [decide_eq_false h]
  exact Zt5 (by omega)
theorem Jv:∀ (n i j:Nat),i<n->j<2 ^ n->((bD n).1.getD i 0).testBit j=j.testBit i
 | 0,i,j,h,_=>absurd h (by omega)
 | n+1,i,j,hi,hj=>by
  have hg:(bD (n+1)).1=(bD n).1.map (fun c=>c ||| (c * 2 ^ (2 ^ n))) ++ [(2 ^ (2 ^ n) - 1) * 2 ^ (2 ^ n)]:=by
   show (bD n).1.map (fun c=>c ||| (c * 2 ^ (bD n).2.2)) ++ [(bD n).2.1 * 2 ^ (bD n).2.2]=_
   rw [D8,HE]
  have hl:=IE n
  rw [hg]
  by_cases h:i<n
  ·have e:((bD n).1.map (fun c=>c ||| (c * 2 ^ (2 ^ n))) ++ [(2 ^ (2 ^ n) - 1) * 2 ^ (2 ^ n)]).getD i 0=((bD n).1.getD i 0) ||| (((bD n).1.getD i 0) * 2 ^ (2 ^ n)):=by
    simp [Zsx,List.getElem?_append,hl,h]
   have hc:(bD n).1.getD i 0<2 ^ (2 ^ n):=by
    have hm:(bD n).1.getD i 0∈(bD n).1:=by
     have:i<(bD n).1.length:=by omega
     simp [Zsx,this]
    exact IU n _ hm
   rw [e,Zt1,Nc]
   by_cases hj2:j<2 ^ n
   ·rw [Jv n i j h hj2,decide_eq_false (by omega)];simp
   ·rw [C9 hc (by omega),decide_eq_true (by omega),Jv n i (j - 2 ^ n) h (by rw [ZtS] at hj;omega),Zq2 (by omega) hj h];simp
  ·have p5:i=n:=by omega
   subst p5
   have e:((bD i).1.map (fun c=>c ||| (c * 2 ^ (2 ^ i))) ++ [(2 ^ (2 ^ i) - 1) * 2 ^ (2 ^ i)]).getD i 0=(2 ^ (2 ^ i) - 1) * 2 ^ (2 ^ i):=by
    simp [Zsx,List.getElem?_append,hl]
   rw [e,Nc,ZtY,Z3 hj]
   have:j - 2 ^ i<2 ^ i:=by
    rw [ZtS] at hj
    have:0<2 ^ i:=ZtZ (by decide)
    omega
   simp [this]
theorem Mr:∀ (n a b:Nat),a<n->(a ^^^ b)+(a &&& b)=a ||| b
 | 0,_,_,h=>absurd h (by omega)
 | n+1,a,b,h=>by
  by_cases ha:a=0
  ·subst ha;simp
  have ih:=Mr n (a / 2) (b / 2) (by omega)
  rw [<- Nat.xor_div_two,<- Nat.and_div_two,<- Nat.or_div_two] at ih
  have e1:=Zt6 (a ^^^ b) 2
  have e2:=Zt6 (a &&& b) 2
  have e3:=Zt6 (a ||| b) 2
  have t:∀ x:Nat,x % 2=(x.testBit 0).toNat:=fun x=>by
   rw [Nat.testBit_zero]
   rcases Zt7 x with q | q <;> simp [q]
  have m1:=t (a ^^^ b)
  have m2:=t (a &&& b)
  have m3:=t (a ||| b)
  rw [Zt8] at m1
  rw [Zt2] at m2
  rw [Zt1] at m3
  have:(a ^^^ b) % 2+(a &&& b) % 2=(a ||| b) % 2:=by
   rw [m1,m2,m3]
   cases a.testBit 0 <;> cases b.testBit 0 <;> rfl
  omega
end MC
namespace GM
open PySem
end GM
set_option maxHeartbeats 4000000
namespace L2
open PySem PySem.Spec PyProof.Rows
noncomputable def oJ (t u:TS):TS:=aI t u
theorem mid {t u:TS}{D:Ends}{σ:St}{H:Hp} (M:St->Hp->Prop) (h1:∀ N:St->Hp->Prop,(∀ σ' H',M σ' H'->N σ' H')->t { D with nx:=N } σ H) (h2:∀ σ' H',M σ' H'->u D σ' H'):oJ t u D σ H:=h1 _ h2
theorem U6 {X:Cx}{st:Stmt}{rest:List Stmt}{t u:TS} (h:PS X st t) (hr:j7 X rest u):j7 X (st :: rest) (oJ t u):=aK h hr
theorem o6 {X:Cx}{id:String}{r:V->List V->Hp->VK->Prop} (h:zx X id r):Di X id r:=h
theorem G6 {J:It}{σ:St}{k:Nat}{sel:List Nat}{g:TG}{tt:TT}{te:TE}{Q:VK}{H:Hp}{p:Addr}{n:Nat}{item:Nat->V} (Sv:St->Prop) (Pv:Nat->Hp->Prop)
  (hS:Sv (cst σ k sel)) (h0:Pv 0 (upd H p (.lst [])))
  (src:∀ i H2,i<n->Pv i H2->J.go i H2/\∀ x H3,J.lT i H2 x H3->H3=H2/\x=item i) (fin:∀ H2,Pv n H2->J.stop n H2)
  (step:∀ i σ2 H2 (R:St->Hp->Prop),i<n->Sv σ2->Pv i H2->(∀ σ' H',Sv σ'->Pv (i+1) H'->R σ' H')->g (item i) σ2 H2 fun σ4 H4=>tt σ4 H4 fun b H5 =>
   if b=true then te σ4 H5 fun v H6=>∃ ys,H6 p=some (.lst ys)/\ys.length<sizeLine/\R σ4 (upd H6 p (.lst (ys ++ [v]))) else R σ4 H5)
  (hQ:∀ H2,Pv n H2->Q (.ref p) H2):zU J σ k sel g tt te Q H p:=by
 refine ⟨fun i m σ2 H2=>i<=n/\m=n - i+1/\Sv σ2/\Pv i H2,⟨n+1,ZtN _,rfl,hS,h0⟩,?_⟩
 rintro i m σ2 H2 ⟨hi,rfl,hs,hP⟩
 by_cases bw:i<n
 ·right
  obtain ⟨hg,hy⟩:=src i H2 bw hP
  refine ⟨hg,fun x H3 hx=>?_⟩
  obtain ⟨rfl,rfl⟩:=hy x H3 hx
  exact step i σ2 H3 (fun σ' H'=>∃ m',m'<n - i+1/\i+1<=n/\m'=n - (i+1)+1/\Sv σ'/\Pv (i+1) H') bw hs hP fun σ' H' s' h'=>⟨n - (i+1)+1,by omega,bw,rfl,s',h'⟩
 ·left
  have e:i=n:=by omega
  subst e
  exact ⟨fin H2 hP,hQ H2 hP⟩
theorem UK {K:ZrF}{σ:St}{sel:List Nat}{rest:St}{H:Hp}{te:TE}{Q:VK}{a:Addr}{xs:List V} (f:V->V) (hl:dD K H a xs) (hr:sel.map (fun j=>(σ[j]?).join)=rest) (hz:xs.length<=sizeLine)
  (he:∀ x H' (Q':VK),x∈xs->aQ H H'->Q' (f x) H'->te (some x :: rest) H' Q') (hQ:∀ p H',fM H p (.lst (xs.map f)) H'->Q (.ref p) H'):oH (pS K a) σ 1 sel (aC 0) gr te Q H:=by
 intro p hp
 have sT:∀ {o:HO},dD K (upd H p o) a xs:=fun {o}=>by
  rcases hl with (h | ⟨u,h⟩) | h
  ·exact .inl (.inl (iy hp _ _ h))
  ·exact .inl (.inr ⟨u,iy hp _ _ h⟩)
  ·exact .inr h
 refine zR (n:=xs.length) (item:=fun i=>xs.getD i .non) (fun i H2=>H2=upd H p (.lst ((xs.take i).map f))) hr (by simp) (Qd ?_) ?_ ?_ ?_
 ·rintro i H2 hi rfl
  exact sT
 ·rintro H2 rfl
  exact ⟨xs,sT,ZtJ _⟩
 ·rintro i H2 R hi rfl hR
  unfold gr
  dsimp only
  rw [if_pos rfl]
  refine he _ _ _ (by rw [show xs.getD i .non=xs[i] from by simp [Zsx,hi]];exact ZsV _) (iy hp) ⟨_,bR,?_,hR _ ?_⟩
  ·rw [Zsh,Zs6];omega
  ·rw [HR,RD hi]
 ·rintro H2 rfl
  rw [ZsI]
  exact hQ p _ ⟨hp,rfl⟩
noncomputable def Pm (H H':Hp):Prop:=∀ b o,H b=some o->(∀ xs,o≠.lst xs)->H' b=some o
section
variable {K:ZrF}{H H' H0 H1:Hp}{l a:Addr}{xs ys:List V}{o:HO}
theorem aQ.n (s:aQ H H'):Pm H H':=fun b o e _=>s b o e
theorem Pm.clear (h:H l=some (.lst xs)):Pm H (upd H l (.lst ys)):=fun b o e n=>by rw [aE (eA e h (n xs))];exact e
theorem aQ.put (s:aQ H0 H) (h:H0 l=none):aQ H0 (upd H l o):=fun b u e=>by rw [aE (cn e h)];exact s b u e
theorem aQ.tup (e:aQ H H') (h:dD K H a xs):dD K H' a xs:=by
 rcases h with (h | ⟨o,h⟩) | h
 ·exact .inl (.inl (e _ _ h))
 ·exact .inl (.inr ⟨o,e _ _ h⟩)
 ·exact .inr h
noncomputable def xJ (N:Addr->Prop) (H H':Hp):Prop:=∀ b o,N b->H b=some o->H' b=some o
theorem aQ.keep {N:Addr->Prop} (s:aQ H H'):xJ N H H':=fun b o _ e=>s b o e
theorem xJ.tup {N:Addr->Prop} (e:xJ N H H') (n:N a) (h:dD K H a xs):dD K H' a xs:=by
 rcases h with (h | ⟨o,h⟩) | h
 ·exact .inl (.inl (e _ _ n h))
 ·exact .inl (.inr ⟨o,e _ _ n h⟩)
 ·exact .inr h
end
theorem Q6 (c:Nat):∀ (k:Nat) (acc:Array Nat),((Zsp k (#[c]:Array Nat)).foldl (· ++ ·) acc).toList=acc.toList ++ Zsp k c
 | 0,acc=>by simp
 | k+1,acc=>by
  rw [ZsZ,ZsU,Q6 c k,ZsZ]
  simp
section
variable {K:ZrF}{H:Hp}{p:Addr}{i:Int}{F:V->Prop}
theorem ixI {cs:List Int} (hS:bg K H p (cs.map V.int)) (h0:0<=i) (h1:i<cs.length) (h:F (.int (cs.getD i.toNat 0))):∃ xs v,(bg K H p xs\/dD K H p xs)/\jm xs i=some v/\F v:=⟨_,_,.inl hS,Zrx 0 h0 h1,h⟩
end
noncomputable def wG (i j:Int):Prop:=0<=j/\(Builtin.Int.intBits i:Int)+j<=2 ^ 27
theorem Mh {X:Cx}:ck X (binaryOp .LShift) (cI wG fun i j=>.int (i * 2 ^ j.toNat)):=(uv (C:=wG) (g:=fun i j=>i * 2 ^ j.toNat) fun _ _ _ _ _ _ _ hc q=>lshift_int hc.1 hc.2 q).imp fun _ _ _ _ h=>zz h
theorem P4 {c k w:Nat} (h:c<2 ^ k) (hk:k+w<=2 ^ 27):wG c w:=by
 have:=intBits_le (a:=(c:Int)) (k:=k) (by simpa using h)
 exact ⟨by omega,by omega⟩
theorem HS (c w:Nat):((c:Int) * 2 ^ ((w:Int)).toNat:Int)=((c * 2 ^ w:Nat):Int):=by simp
theorem PQ (a b:Nat):Builtin.bitAnd (a:Int) (b:Int)=((a &&& b:Nat):Int):=by rw [bitAnd_pp (by omega) (by omega)];simp
theorem KN (a b:Nat):Builtin.bitOr (a:Int) (b:Int)=((a ||| b:Nat):Int):=by
 rw [bitOr_and,PQ]
 have:=MC.Mr (a+1) a b (ZtW _)
 have h2:(a ||| b)+(a &&& b)=a+b:=by
  have e:∀ (n a b:Nat),a<n->(a ||| b)+(a &&& b)=a+b:=by
   intro n
   induction n with
   | zero=>intro a b h;omega
   | succ n ih =>
    intro a b h
    by_cases ha:a=0
    ·subst ha;simp
    have i1:=ih (a / 2) (b / 2) (by omega)
    rw [<- Nat.and_div_two,<- Nat.or_div_two] at i1
    have t:∀ x:Nat,x % 2=(x.testBit 0).toNat:=fun x=>by
     rw [Nat.testBit_zero]
     rcases Zt7 x with q | q <;> simp [q]
    have m2:=t (a &&& b)
    have m3:=t (a ||| b)
    rw [Zt2] at m2
    rw [Zt1] at m3
    have ma:=t a
    have mb:=t b
    have:(a ||| b) % 2+(a &&& b) % 2=a % 2+b % 2:=by
     rw [m2,m3,ma,mb]
     cases a.testBit 0 <;> cases b.testBit 0 <;> rfl
    omega
  exact e (a+1) a b (ZtW _)
 omega
theorem K3 (a b:Nat):Builtin.bitXor (a:Int) (b:Int)=((a ^^^ b:Nat):Int):=by
 unfold Builtin.bitXor
 rw [KN,PQ]
 have:=MC.Mr (a+1) a b (ZtW _)
 omega
end L2
set_option maxHeartbeats 4000000
namespace GM
open PySem L2
noncomputable def nz (n:Nat):Int:=(n:Int)
end GM
set_option maxHeartbeats 4000000
namespace L2
open PySem PySem.Spec PyProof.Rows
noncomputable def xy:TS:=fun _ _ _=>False
theorem Ga {X:Cx}{st:Stmt}:PS X st xy:=fun _ _ _ _ _ _ h=>h.elim
theorem B8 {X:Cx}:ck X (binaryOp .Pow) (cI sF fun i j=>.int (i ^ j.toNat)):=xZ.imp fun _ _ _ _ h=>zz h
theorem XX {σ:St}{H:Hp}{Q:VK}:Ja σ H Q = ∀ p H',fM H p (.dT []) H'->Q (.ref p) H':=by
 unfold Ja;rw [vK (F:=fun p H'=>Q (.ref p) H')]
section
open Builtin Builtin.Str
end
theorem aQ.nil {H H':Hp}{p:Addr} (s:aQ H H') (h:H' p=none):H p=none:=by
 cases e:H p with
 | none=>rfl
 | some o=>rw [s _ _ e] at h;cases h
structure nS (H:Hp) (p:Addr) (o:HO) (H':Hp):Prop where
 aD:H p=none
 at_:H' p=some o
 same:aQ H H'
theorem fM.Nt {H H':Hp}{p:Addr}{o:HO} (n:fM H p o H'):nS H p o H':=⟨n.aD,n.at_,n.same⟩
theorem nS.pre {H H0 H':Hp}{p:Addr}{o:HO} (s:aQ H0 H) (n:nS H p o H'):nS H0 p o H':=⟨s.nil n.aD,n.at_,s.trans n.same⟩
theorem nS.sq {K:ZrF}{H H':Hp}{p:Addr}{xs:List V} (n:nS H p (.lst xs) H'):bg K H' p xs:=.of n.at_
theorem mul_one (c:Nat) (n:Int):(Txt.mul ⟨#[c]⟩ n).cps.toList=Zsp n.toNat c:=by
 unfold Txt.mul
 by_cases h1:n<1
 ·rw [if_pos h1]
  have:n.toNat=0:=by omega
  rw [this]
  rfl
 ·rw [if_neg h1]
  by_cases h2:(n == 1 || Str.length ⟨#[c]⟩ == 0)=true
  ·rw [if_pos h2]
   have h3:n=1:=by
    rw [Zus] at h2
    rcases h2 with q | q
    ·exact beq_iff_eq.mp q
    ·exact absurd (beq_iff_eq.mp q) (by show ¬ (1:Nat)=0;decide)
   subst h3
   rfl
  ·rw [if_neg h2]
   show ((Zsp n.toNat (#[c]:Array Nat)).foldl (· ++ ·) #[]).toList=_
   rw [Q6]
   simp
end L2
namespace MF
noncomputable abbrev Pr:=Int × Int
noncomputable def tn (t:Int):Int:=if t % 2=0 then t+1 else t - 1
noncomputable def lo (s t:Int):Int:=if t<s then t else s
noncomputable def hi (s t:Int):Int:=if t > s then t else s
noncomputable def iB:Int->List Pr->Pr->Option Int
 | _,[],_=>none
 | n,q :: r,p=>if q=p then some n else iB (n+1) r p
noncomputable def qK (s t:Int):Option Int :=
 if lo s t=0 then some 0 else if lo s t=1\/lo s t=hi s t then some (hi s t) else if lo s t=tn (hi s t) then some 0 else none
noncomputable def kn (m:Int) (ps:List Pr) (p:Pr):Int:=(iB (m+1) ps p).getD (m+1+ps.length)
noncomputable def kp (m:Int) (ps:List Pr) (p:Pr):List Pr:=if (iB (m+1) ps p).isSome then ps else ps ++ [p]
noncomputable def bt (m:Int) (ps:List Pr) (s t:Int):Int:=match qK s t with | some v=>v | none=>2 * kn m ps (lo s t,hi s t)
noncomputable def bp (m:Int) (ps:List Pr) (s t:Int):List Pr:=match qK s t with | some _=>ps | none=>kp m ps (lo s t,hi s t)
theorem V1:∀ {n:Int}{ps:List Pr}{p:Pr}{i:Int},iB n ps p=some i->n<=i/\i<n+ps.length/\ps[(i - n).toNat]? = some p
 | n,[],p,i,h=>by simp [iB] at h
 | n,q :: r,p,i,h=>by
  unfold iB at h
  by_cases e:q=p
  ·rw [if_pos e] at h
   have:=Option.some.inj h
   subst this
   refine ⟨by omega,by simp only [ZsB];omega,?_⟩
   rw [show (n - n).toNat=0 by omega,Ztk,e]
  ·rw [if_neg e] at h
   obtain ⟨h1,h2,h3⟩:=V1 h
   refine ⟨by omega,by simp only [ZsB];omega,?_⟩
   rw [show (i - n).toNat=(i - (n+1)).toNat+1 by omega,Zs9]
   exact h3
theorem U2:∀ {n:Int}{ps:List Pr}{p:Pr},iB n ps p=none->p ∉ ps
 | n,[],p,h=>by simp
 | n,q :: r,p,h=>by
  unfold iB at h
  by_cases e:q=p
  ·rw [if_pos e] at h;cases h
  ·rw [if_neg e] at h
   intro hm
   rcases Zst.mp hm with e' | e'
   ·exact e e'.symm
   ·exact U2 h e'
theorem R0:∀ {n:Int}{ps:List Pr}{p:Pr},iB n ps p=none->iB n (ps ++ [p]) p=some (n+ps.length)
 | n,[],p,h=>by simp [iB]
 | n,q :: r,p,h=>by
  have e:¬ q=p:=fun e=>by unfold iB at h;rw [if_pos e] at h;cases h
  unfold iB at h
  rw [if_neg e] at h
  show iB n (q :: (r ++ [p])) p=_
  unfold iB
  rw [if_neg e,R0 h]
  congr 1
  simp only [ZsB]
  omega
theorem xR (m:Int) (ps:List Pr) (p:Pr):ps.length<=(kp m ps p).length/\(kp m ps p).length<=ps.length+1:=by
 unfold kp;split <;> simp
theorem VJ (m:Int) (ps:List Pr) (s t:Int):ps.length<=(bp m ps s t).length/\(bp m ps s t).length<=ps.length+1:=by
 unfold bp;split
 ·omega
 ·exact xR ..
theorem Zo9 (m:Int) (ps:List Pr) (p:Pr):m+1<=kn m ps p/\kn m ps p<m+1+(kp m ps p).length:=by
 unfold kn kp
 cases h:iB (m+1) ps p with
 | none=>simp;omega
 | some i =>
  have:=V1 h
  simp;omega
noncomputable def Ok (m:Int) (ps:List Pr):Prop:=∀ (i:Nat) (p:Pr),ps[i]? = some p->2<=p.1/\p.1<p.2/\p.1 / 2≠p.2 / 2/\p.2<2 * (m+1+i)
theorem ZmV {s t:Int} (hs:0<=s) (ht:0<=t) (h:qK s t=none):2<=lo s t/\lo s t<hi s t/\lo s t / 2≠hi s t / 2:=by
 unfold qK at h
 have hlh:lo s t<=hi s t/\0<=lo s t:=by unfold lo hi;split <;> split <;> omega
 by_cases h1:lo s t=0
 ·rw [if_pos h1] at h;cases h
 rw [if_neg h1] at h
 by_cases h2:lo s t=1\/lo s t=hi s t
 ·rw [if_pos h2] at h;cases h
 rw [if_neg h2] at h
 by_cases h3:lo s t=tn (hi s t)
 ·rw [if_pos h3] at h;cases h
 refine ⟨by omega,by omega,fun e=>h3 ?_⟩
 unfold tn
 split <;> omega
theorem WH {s t T v:Int} (hs:0<=s) (ht:0<=t) (oN:s<T) (oA:t<T) (h:qK s t=some v):0<=v/\v<T:=by
 unfold qK at h
 have hlh:lo s t<=hi s t/\0<=lo s t/\hi s t<T:=by unfold lo hi;split <;> split <;> omega
 by_cases h1:lo s t=0
 ·rw [if_pos h1] at h;cases h;omega
 rw [if_neg h1] at h
 by_cases h2:lo s t=1\/lo s t=hi s t
 ·rw [if_pos h2] at h;cases h;omega
 rw [if_neg h2] at h
 by_cases h3:lo s t=tn (hi s t)
 ·rw [if_pos h3] at h;cases h;omega
 rw [if_neg h3] at h;cases h
theorem A5 {s t T:Int} (h1:s<T) (h2:t<T):hi s t<T:=by unfold hi;split <;> omega
theorem Ok.bp {m:Int}{ps:List Pr} (h:Ok m ps) {s t:Int} (hs:0<=s) (ht:0<=t) (oN:s<2 * (m+1+ps.length)) (oA:t<2 * (m+1+ps.length)):Ok m (bp m ps s t):=by
 unfold MF.bp
 cases e:qK s t with
 | some v=>exact h
 | none =>
  show Ok m (kp m ps (lo s t,hi s t))
  unfold kp
  split
  ·exact h
  ·intro i p hp
   rcases ZtO i ps.length with hi' | hi'
   ·rw [ZsA hi'] at hp
    exact h i p hp
   ·rw [ZsC hi'] at hp
    have h0:i - ps.length=0:=by
     rcases Nat.eq_zero_or_pos (i - ps.length) with z | z
     ·exact z
     ·rw [ZsR (by simp;omega)] at hp;cases hp
    rw [h0] at hp
    have:=Option.some.inj hp
    subst this
    have h3:=ZmV hs ht e
    have h4:=A5 oN oA
    refine ⟨h3.1,h3.2.1,h3.2.2,?_⟩
    show MF.hi s t<_
    have:i=ps.length:=by omega
    subst this
    exact h4
theorem ZpH {m:Int} (hm:0<=m) {ps:List Pr}{s t:Int} (hs:0<=s) (ht:0<=t) (oN:s<2 * (m+1+ps.length)) (oA:t<2 * (m+1+ps.length)):0<=bt m ps s t/\bt m ps s t<2 * (m+1+(MF.bp m ps s t).length):=by
 unfold bt MF.bp
 cases e:qK s t with
 | some v=>exact WH hs ht oN oA e
 | none =>
  have:=Zo9 m ps (lo s t,hi s t)
  show 0<=2 * kn m ps (lo s t,hi s t)/\2 * kn m ps (lo s t,hi s t)<2 * (m+1+((kp m ps (lo s t,hi s t)).length:Int))
  omega
end MF
namespace MF
noncomputable abbrev RS:=Int × List Pr
noncomputable def kF (m:Int) (ps:List Pr) (t:Int):Prop:=0<=t/\t<2 * (m+1+ps.length)
structure St (m:Int) (ps:List Pr) (n:Nat) (r:RS):Prop where
 ok:Ok m ps->Ok m r.2
 inn:kF m r.2 r.1
 lo:ps.length<=r.2.length
 hi:r.2.length<=ps.length+n
 pre:∃ e,r.2=ps ++ e
 nd:ps.Nodup->r.2.Nodup
theorem kF.tn {m t:Int}{ps:List Pr} (h:kF m ps t):kF m ps (tn t):=by
 have h1:=h.1
 have h2:=h.2
 unfold kF MF.tn
 split <;> omega
theorem xX (m:Int) (ps:List Pr) (s t:Int):∃ e,bp m ps s t=ps ++ e:=by
 unfold bp
 split
 ·exact ⟨[],by simp⟩
 ·unfold kp
  split
  ·exact ⟨[],by simp⟩
  ·exact ⟨_,rfl⟩
theorem A3 {m s t:Int}{ps:List Pr} (h:ps.Nodup):(bp m ps s t).Nodup:=by
 unfold bp
 split
 ·exact h
 ·unfold kp
  cases e:iB (m+1) ps (lo s t,hi s t) with
  | some i=>exact h
  | none =>
   have:=U2 e
   show (ps ++ [_]).Nodup
   rw [Ztl]
   refine ⟨h,by simp,fun a ha b hb=>?_⟩
   rw [Zsl] at hb
   subst hb
   exact fun z=>this (z ▸ ha)
noncomputable def bo (m s t:Int) (ps:List Pr):RS:=(bt m ps s t,bp m ps s t)
theorem Ey {m s t:Int}{ps:List Pr} (hm:0<=m) (hs:kF m ps s) (ht:kF m ps t):St m ps 1 (bo m s t ps) :=
 ⟨fun h=>h.bp hs.1 ht.1 hs.2 ht.2,ZpH hm hs.1 ht.1 hs.2 ht.2,(VJ m ps s t).1,(VJ m ps s t).2,xX m ps s t,fun h=>A3 h⟩
end MF
namespace MF
noncomputable def Sub (F x:Nat):Prop:=∀ j,x.testBit j=true->F.testBit j=true
theorem Sub.and {F x y:Nat} (h:Sub F x):Sub F (x &&& y):=fun j hj=>h j (by rw [Zt2,Zun] at hj;exact hj.1)
theorem Sub.neg {F x:Nat} (h:Sub F x):Sub F (F ^^^ x):=fun j hj=>by
 rw [Zt8] at hj
 cases hf:F.testBit j with
 | true=>rfl
 | false =>
  rw [hf] at hj
  have:=h j (by simpa using hj)
  rw [hf] at this
  exact this
noncomputable def qk (F:Nat) (cs:List Nat) (t:Int):Nat:=if t % 2=1 then F ^^^ cs.getD (t / 2).toNat 0 else cs.getD (t / 2).toNat 0
noncomputable def p7 (F:Nat):List Nat->List Pr->List Nat
 | cs,[]=>cs
 | cs,p :: r=>p7 F (cs ++ [qk F cs p.1 &&& qk F cs p.2]) r
theorem TB (F:Nat):∀ (ps qs:List Pr) (cs:List Nat),p7 F cs (ps ++ qs)=p7 F (p7 F cs ps) qs
 | [],qs,cs=>rfl
 | p :: r,qs,cs=>TB F r qs _
theorem U1 (F:Nat):∀ (ps:List Pr) (cs:List Nat),(p7 F cs ps).length=cs.length+ps.length
 | [],cs=>rfl
 | p :: r,cs=>by
  show (p7 F (cs ++ [_]) r).length=_
  rw [U1 F r]
  simp only [Zsm,ZsB,ZsH]
  omega
theorem T5 (F:Nat):∀ (ps:List Pr) (cs:List Nat),∃ e,p7 F cs ps=cs ++ e
 | [],cs=>⟨[],by simp [p7]⟩
 | p :: r,cs=>by
  obtain ⟨e,h⟩:=T5 F r (cs ++ [qk F cs p.1 &&& qk F cs p.2])
  exact ⟨[qk F cs p.1 &&& qk F cs p.2] ++ e,by show p7 F (cs ++ [_]) r=_;rw [h,Ztv]⟩
theorem ZN {F:Nat}{cs e:List Nat}{t:Int} (h0:0<=t) (h:t<2 * cs.length):qk F (cs ++ e) t=qk F cs t:=by
 have hl:(t / 2).toNat<cs.length:=by omega
 unfold qk
 have:(cs ++ e).getD (t / 2).toNat 0=cs.getD (t / 2).toNat 0:=by
  simp [Zsx,ZsA hl]
 rw [this]
noncomputable def wm (F:Nat) (cs:List Nat):Prop:=∀ c∈cs,Sub F c
structure Base (F:Nat) (m:Int) (b:List Nat):Prop where
 len:(b.length:Int)=m+1
 zero:b.getD 0 0=0
 sub:wm F b
section
variable {F:Nat}{m:Int}{b:List Nat}
noncomputable abbrev L (F:Nat) (b:List Nat) (ps:List Pr) (t:Int):Nat:=qk F (p7 F b ps) t
theorem CY (B:Base F m b) {ps e:List Pr}{t:Int} (h:kF m ps t):L F b (ps ++ e) t=L F b ps t:=by
 unfold L
 rw [TB]
 obtain ⟨x,hx⟩:=T5 F e (p7 F b ps)
 rw [hx]
 refine ZN h.1 ?_
 have h2:=h.2
 have h3:=U1 F ps b
 have h4:=B.len
 omega
theorem St.lit (B:Base F m b) {ps:List Pr}{n:Nat}{r:RS} (h:St m ps n r) {x:Int} (hx:kF m ps x):L F b r.2 x=L F b ps x:=by
 obtain ⟨e,he⟩:=h.pre
 rw [he]
 exact CY B hx
end
end MF
set_option maxHeartbeats 4000000
namespace L2
open PySem PySem.Spec PyProof.Rows
noncomputable def kL (p:MF.Pr):List Key:=[.inl p.1,.inl p.2]
theorem Zq9 {p q:MF.Pr} (h:kL p=kL q):p=q:=by
 unfold kL at h
 injection h with h1 h2
 injection h2 with h3 _
 exact Prod.ext (Sum.inl.inj h1) (Sum.inl.inj h3)
noncomputable def kK:Int->List MF.Pr->List (List Key × V)
 | _,[]=>[]
 | n,p :: r=>(kL p,.int n) :: kK (n+1) r
theorem Ip:∀ (n:Int) (ps:List MF.Pr) (p:MF.Pr),bC (kK n ps) (kL p)=(MF.iB n ps p).map V.int
 | _,[],_=>rfl
 | n,q :: r,p=>by
  show bC ((kL q,V.int n) :: kK (n+1) r) (kL p)=_
  unfold MF.iB
  by_cases e:q=p
  ·rw [if_pos e,lJ (p:=(kL q,V.int n)) (congrArg kL e)];rfl
  ·rw [if_neg e,lW (p:=(kL q,V.int n)) (fun z=>e (Zq9 z)),Ip (n+1) r p]
theorem Ui:∀ (n:Int) (ps:List MF.Pr) (p:MF.Pr),kK n (ps ++ [p])=kK n ps ++ [(kL p,.int (n+ps.length))]
 | n,[],p=>by simp [kK]
 | n,q :: r,p=>by
  show (kL q,V.int n) :: kK (n+1) (r ++ [p])=(kL q,V.int n) :: (kK (n+1) r ++ _)
  rw [Ui (n+1) r p]
  congr 5
  simp only [ZsB]
  omega
theorem So:∀ (n:Int) (ps:List MF.Pr),(kK n ps).length=ps.length
 | _,[]=>rfl
 | n,q :: r=>by show (kK (n+1) r).length+1=r.length+1;rw [So (n+1) r]
theorem Zm {n:Int}{ps:List MF.Pr}{p:MF.Pr} (h:MF.iB n ps p=none):cJ (kK n ps) (kL p) (.int (n+ps.length))=kK n (ps ++ [p]):=by
 unfold cJ
 rw [Gy,Ip,h,Ui]
 rfl
noncomputable abbrev En:=Addr × MF.Pr
noncomputable abbrev aA (es:List En):List MF.Pr:=es.map (·.2)
structure da (H:Hp) (pl kl:Addr) (m:Int) (es:List En):Prop where
 lst:H pl=some (.lst (es.map fun e=>V.ref e.1))
 pv:H kl=some (.dT (kK (m+1) (aA es)))
 tup:∀ e∈es,H e.1=some (.tup [.int e.2.1,.int e.2.2])
noncomputable def kM (pl kl:Addr) (H H':Hp):Prop:=∀ b o,b≠pl->b≠kl->H b=some o->H' b=some o
section
variable {H H' H1:Hp}{pl kl p2 k2 f dx C:Addr}{m:Int}{es:List En}{o:HO}
theorem kM.refl:kM pl kl H H:=fun _ _ _ _ e=>e
theorem kM.trans (u:kM pl kl H H') (v:kM pl kl H' H1):kM pl kl H H1:=fun b o n1 n2 e=>v b o n1 n2 (u b o n1 n2 e)
theorem aQ.un (s:aQ H H'):kM pl kl H H':=fun b o _ _ e=>s b o e
theorem Oo:kM pl kl H (upd H pl o):=fun b u n1 _ e=>by rw [aE n1];exact e
theorem NA:kM pl kl H (upd H kl o):=fun b u _ n2 e=>by rw [aE n2];exact e
theorem da.same (h:da H pl kl m es) (s:aQ H H'):da H' pl kl m es:=⟨s _ _ h.lst,s _ _ h.pv,fun e he=>s _ _ (h.tup e he)⟩
structure aS (C:Addr) (H:Hp) (f:Addr) (m:Int) (es:List En) (dx pl kl:Addr):Prop where
 ins:H f=some (.ins C dx [("many",.int m),("pairs",.ref pl),("knots",.ref kl)])
 gM:da H pl kl m es
theorem aS.same (h:aS C H f m es dx pl kl) (s:aQ H H'):aS C H' f m es dx pl kl:=⟨s _ _ h.ins,h.gM.same s⟩
theorem da.U8 (h:da H pl kl m es):pl≠kl:=eA h.lst h.pv (fun z=>nomatch z)
theorem da.put (h:da H pl kl m es) {tp:Addr}{p:MF.Pr} (ht:H tp=some (.tup [.int p.1,.int p.2])) (hf:MF.iB (m+1) (aA es) p=none) :
  da (upd (upd H kl (.dT (kK (m+1) (aA es ++ [p])))) pl (.lst ((es.map fun e=>V.ref e.1) ++ [.ref tp]))) pl kl m (es ++ [(tp,p)]):=by
 have nt:∀ {b:Addr}{xs:List V},H b=some (.tup xs)->upd (upd H kl (.dT (kK (m+1) (aA es ++ [p])))) pl (.lst ((es.map fun e=>V.ref e.1) ++ [.ref tp])) b=some (.tup xs):=fun {b xs} e=>by
  rw [aE (eA e h.lst (fun z=>nomatch z)),aE (eA e h.pv (fun z=>nomatch z))];exact e
 refine ⟨?_,?_,fun e he=>?_⟩
 ·rw [bR,Zss];rfl
 ·rw [aE h.U8.symm,bR,aA,aA,Zss];rfl
 ·rcases Zsq.mp he with he | he
  ·exact nt (h.tup e he)
  ·rw [Zsl] at he
   subst he
   exact nt ht
end
theorem F5 (xs:List V):qU xs (some 1) none=xs.drop 1:=by
 unfold qU
 have e1:HT.kA xs.length 0 (some 1)=min 1 xs.length:=by
  have:=HT.ZH xs.length 0 1
  rw [show ((1:Nat):Int)=1 from rfl] at this
  rw [this]
 have e2:HT.kA xs.length xs.length none=xs.length:=rfl
 rw [e1,e2]
 cases xs with
 | nil=>rfl
 | cons a r =>
  have:min 1 (a :: r).length=1:=by simp only [ZsB];omega
  rw [this,Ztn (by simp)]
theorem Td {t:Int} (h:0<=t):Builtin.bitXor t 1=MF.tn t:=by
 obtain ⟨a,rfl⟩:=Zub h
 have e:=K3 a 1
 rw [show ((1:Nat):Int)=1 from rfl] at e
 rw [e]
 have h1:(a ^^^ 1) / 2=a / 2:=by rw [Nat.xor_div_two];simp
 have h2:(a ^^^ 1) % 2=(a+1) % 2:=by
  have:=Nat.xor_mod_two_pow (a:=a) (b:=1) (n:=1)
  rw [show 2 ^ 1=2 from rfl] at this
  rw [this]
  rcases Zt7 a with q | q
  ·rw [q,show 0 ^^^ 1 % 2=1 from rfl];omega
  ·rw [q,show 1 ^^^ 1 % 2=0 from rfl];omega
 unfold MF.tn
 split <;> omega
theorem ZnV (es:List En) (n:Nat) (h:n<es.length):(es.map fun e=>V.ref e.1).getD n .non=V.ref (es[n]).1:=by simp [Zsx,h]
end L2
set_option maxHeartbeats 4000000
namespace DL
open PySem DZ
theorem WC:entryFor table "list.__getattribute__" = some Builtin.«object.__getattribute__» :=
 entryFor_alias (id':="object.__getattribute__") (by kernel_rfl) (by first | rfl | decide +kernel) (by decide +kernel) (by kernel_rfl)
theorem ZjO:typeLookup (.type "list") "keys" = pure none:=by rw [typeLookup_type,builtinLookup_eq_fast];kernel_rfl
section
variable {prog:Program}{w:World}{A:Around}{E:Value->Shared->Prop}{h:Heap}{g:Array GenState}{d:Drawn}{t:Nat}{os:OsState}{z:Addr}{vs:Array Value}{n:Nat}
theorem Pd {tk:Tok}{Q:Fin->Shared->Prop} (hh:A.handled=none) (hz:h.get? z=some { cls:=.type "list",dict:=none,data:=.seq vs n,slots:=#[] })
  (hE:∀ h' e t',(∀ c o,h.get? c=some o->h'.get? c=some o)->(∃ o,h'.get? e=some o/\o.cls=.type "AttributeError")->E (.ref e) ⟨h',g,d,t',os⟩) :
  wpAny (model prog w) A (Builtin.«object.__getattribute__» ⟨[.ref z,.str "keys" tk],[]⟩) Q E ⟨h,g,d,t,os⟩:=by
 have hT:(⟨h,g,d,t,os⟩:Shared).TypeIs (.ref z) "list":=⟨_,hz,rfl⟩
 have f4:=ZjO
 repeat (any_goals (first | assumption | wp_step))
 refine wpAny_raiseAttrError hh (fun h' tk' e x=>?_) (attrMsg_fits (by decide +kernel) (by decide +kernel))
 obtain ⟨t',u',he⟩:=x.there
 exact hE h' e tk' (fun c o q=>x.keeps c o q) ⟨_,he,rfl⟩
theorem JF {tk:Tok}{R:Result->Shared->Prop} (hh:A.handled=none) (hz:h.get? z=some { cls:=.type "list",dict:=none,data:=.seq vs n,slots:=#[] })
  (hE:∀ h' e t',(∀ c o,h.get? c=some o->h'.get? c=some o)->(∃ o,h'.get? e=some o/\o.cls=.type "AttributeError")->R (.error (.ref e)) ⟨h',g,d,t',os⟩) :
  codeAny (model prog w) A (.call (.builtin "list.__getattribute__") ⟨[.ref z,.str "keys" tk],[]⟩) R ⟨h,g,d,t,os⟩ :=
 codeAny_call_builtin F.slot_list_getattribute.plain WC (F.slot_list_getattribute.check _ _ _ _ _ _ _ _ (show (⟨h,g,d,t,os⟩:Shared).TypeIs (.ref z) "list" from ⟨_,hz,rfl⟩) (F.args_list_getattribute_2 _ _) (Pd hh hz hE))
theorem PD {tk:Tok}{Q:Value->Shared->Prop} (hh:A.handled=none) (hz:h.get? z=some { cls:=.type "list",dict:=none,data:=.seq vs n,slots:=#[] })
  (hE:∀ h' e t',(∀ c o,h.get? c=some o->h'.get? c=some o)->(∃ o,h'.get? e=some o/\o.cls=.type "AttributeError")->E (.ref e) ⟨h',g,d,t',os⟩) :
  wpAny (model prog w) A (getAttrBy (.ref z) (.str "keys" tk) false) Q E ⟨h,g,d,t,os⟩:=by
 have hT:(⟨h,g,d,t,os⟩:Shared).TypeIs (.ref z) "list":=⟨_,hz,rfl⟩
 have f2:=F.slot_list_getattribute.lookup
 have f3:=F.slot_list_getattribute.bind (.ref z)
 have f1:=sub_AttributeError
 repeat (any_goals (first | assumption | wp_step))
 refine JF hh hz fun h' e t' k he=>?_
 obtain ⟨o,ho,hc⟩:=he
 have hTe:(⟨h',g,d,t',os⟩:Shared).TypeIs (.ref e) "AttributeError":=⟨o,ho,hc⟩
 have fin:=hE h' e t' k ⟨o,ho,hc⟩
 have f5:typeLookup (.type "list") "__getattr__" = pure none:=by rw [typeLookup_type,builtinLookup_eq_fast];kernel_rfl
 show wpAny _ _ (getattributeRaised _ _ _ _ _ _ _) _ _ _
 unfold getattributeRaised
 repeat (any_goals (first | assumption | wp_step))
theorem HF {Q:Option Value->Shared->Prop} (hh:A.handled=none) (hz:h.get? z=some { cls:=.type "list",dict:=none,data:=.seq vs n,slots:=#[] })
  (hq:∀ h' t',(∀ c o,h.get? c=some o->h'.get? c=some o)->Q none ⟨h',g,d,t',os⟩) :
  wpAny (model prog w) A (getAttr? (.ref z) "keys") Q E ⟨h,g,d,t,os⟩:=by
 unfold getAttr? getAttrBy?
 have f1:=sub_AttributeError
 refine wpAny_bind (wpAny_mkText ?_)
 refine wpAny_bind (wpAny_attempt (PD hh hz fun h' e t' k he=>?_))
 obtain ⟨o,ho,hc⟩:=he
 refine wpAny_bind (wpAny_isInstance (T:="AttributeError") (b:=true) ⟨o,ho,hc⟩ f1 ?_)
 exact wpAny_pure (hq _ _ k)
end
section
variable {prog:Program}{w:World}{A:Around}{E:Value->Shared->Prop}{s:Shared}{κ:Type} [DecidableEq κ] {knd:KeyKind prog w κ}
noncomputable def UW (knd:KeyKind prog w κ) (d it:Addr) (xs:Array Value) (es:List (κ × Value)) (h:Heap):Prop :=
 ∀ (j:Nat) p,es[j]? = some p->∃ T kx o m,xs[j]? = some (.ref T)/\T≠d/\T≠it/\knd.is p.1 kx=true/\h.get? T=some o/\o.cls=.type "tuple" /\ o.data=.seq #[kx,p.2] m
theorem GY {it l d:Addr}{xs:Array Value}{es:List (κ × Value)}{R:Result->Shared->Prop} (hh:A.handled=none) (n1:it≠d) (n2:l≠d) (n3:l≠it) (hk:es.length=xs.size) (hz:xs.size<=2000) :
  ∀ (m i:Nat) (s:Shared) (kvs:List (κ × Value)),i+m=xs.size->kvs.length<=i->s.heap.IsListIter it l i->s.heap.IsList l xs->UW knd d it xs es s.heap->s.heap.DictOf knd d kvs ->
   (∀ h' t',h'.DictOf knd d ((es.drop i).foldl (fun e p=>stored e p.1 p.2) kvs)->(∀ c o,c≠d->c≠it->s.heap.get? c=some o->h'.get? c=some o)->R (.ok (.ret .none)) { s with heap:=h',toks:=t' }) ->
   codeAny (model prog w) A (.builtin "dict.update.loop" ⟨[.ref d,.ref it,rawInt i,.none],[]⟩) R s
 | 0,i,s,kvs,hm,hl,S,L,P,hd,hR=>by
  refine codeAny_builtin Gh ?_
  rw [Around.under_plainId qZ _]
  unfold Builtin.«dict.update.loop»
  refine wpAny_bind (wpAny_pyNext_list_end hh S L (Zuk (by omega)) fun h' eb=>?_)
  have e1:es.drop i=[]:=ZtD (by omega)
  rw [e1] at hR
  have hd':h'.DictOf knd d kvs:=by
   obtain ⟨o,es,ep,ho,r⟩:=hd
   exact ⟨o,es,ep,eb _ _ n1.symm ho,r⟩
  exact wpAny_bind (wpAny_pure (wpAny_pure (hR h' s.toks hd' fun c o c0 c1 e=>eb c o c1 e)))
 | m+1,i,s,kvs,hm,hl,S,L,P,hd,hR=>by
  refine codeAny_builtin Gh ?_
  rw [Around.under_plainId qZ _]
  unfold Builtin.«dict.update.loop»
  have hi:i<es.length:=by omega
  have hei:es[i]? = some es[i]:=Zsn hi
  obtain ⟨T,kx,o,mm,hx,nd,sR,A2,ho,mV,hda⟩:=P i _ hei
  refine wpAny_bind (wpAny_pyNext_list_item S L (x:=.ref T) hx fun h1 S1 sb1=>?_)
  have k1:∀ c o,c≠it->s.heap.get? c=some o->h1.get? c=some o:=fun c o hc e=>(sb1.2 c hc).trans e
  refine wpAny_bind (wpAny_holding ?_)
  have yq:h1.DictOf knd d kvs:=by
   obtain ⟨o,es,ep,ho,r⟩:=hd
   exact ⟨o,es,ep,k1 _ _ n1.symm ho,r⟩
  refine wpAny_bind (wpAny_tryCatch ?_)
  unfold Builtin.Dict.pairItems
  refine wpAny_bind (wpAny_typeOf (T:="tuple") ⟨o,k1 _ _ sR ho,mV⟩ ?_)
  rw [if_pos (by decide)]
  refine wpAny_bind (wpAny_seqItems (k1 _ _ sR ho) hda (wpAny_pure ?_))
  refine wpAny_holding (wpAny_dictSet_pairs (knd:=knd) (s:={ s with heap:=h1 }) A2 yq (fun h2 d2 sb=>?_) (ZtL hl (ZtL (by omega) (show 2000<=sizeLine by decide))))
  have k2:∀ c o,c≠d->h1.get? c=some o->h2.get? c=some o:=fun c o hc e=>(sb.2 c hc).trans e
  have S2:h2.IsListIter it l (i+1):=S1.at fun o e=>k2 it o n1 e
  have L2:h2.IsList l xs:=L.at fun o e=>k2 l o n2 (k1 l o n3 e)
  have P2:UW knd d it xs es h2:=fun j p hj=>by
   obtain ⟨T',kx',o',m',q1,q2,q3,q4,q5,q6,q7⟩:=P j p hj
   exact ⟨T',kx',o',m',q1,q2,q3,q4,k2 _ _ q2 (k1 _ _ q3 q5),q6,q7⟩
  refine wpAny_pure ⟨plainId_quiet qZ _,?_⟩
  have e1:es.drop i=es[i] :: es.drop (i+1):=Ztx hi
  refine GY hh n1 n2 n3 hk hz m (i+1) _ _ (by omega) ?_ S2 L2 P2 d2 ?_
  ·have:=J4 kvs es[i].1 es[i].2
   omega
  ·intro h' t' d' k'
   rw [e1] at hR
   exact hR h' t' d' fun c o c0 c1 e=>k' c o c0 c1 (k2 c o c0 (k1 c o c1 e))
theorem uU {l:Addr}{xs:Array Value}{n:Nat}{Q:Value->Shared->Prop} (hz:s.heap.get? l=some { cls:=.type "list",dict:=none,data:=.seq xs n,slots:=#[] })
  (h:Q (.ref s.heap.objs.size) { s with heap:=s.heap.push { cls:=.type "list_iterator",data:=.fields #[.ref l,.int 0 0] } }):wpAny (model prog w) A (pyIter (.ref l)) Q E s:=wpAny_pyIter_list (items:=xs) ⟨_,hz,rfl,n,rfl⟩ h
theorem Mb {l:Addr}{xs:Array Value}{n:Nat}{es:List (κ × Value)}{Q:Value->Shared->Prop} (hh:A.handled=none) (hl:s.heap.get? l=some { cls:=.type "list",dict:=none,data:=.seq xs n,slots:=#[] })
  (hk:es.length=xs.size) (hz:xs.size<=2000) (P:∀ (j:Nat) p,es[j]? = some p->∃ T kx o m,xs[j]? = some (.ref T)/\knd.is p.1 kx=true/\s.heap.get? T=some o/\o.cls=.type "tuple" /\ o.data=.seq #[kx,p.2] m)
  (q:∀ h' t',h'.DictOf knd s.heap.objs.size (es.foldl (fun e p=>stored e p.1 p.2) [])->(∀ c o,s.heap.get? c=some o->h'.get? c=some o)->Q (.ref s.heap.objs.size) { s with heap:=h',toks:=t' }) :
  wpAny (model prog w) A (call (.type "dict") [.ref l]) Q E s:=by
 refine callType_codes (Q₁:=fun v s1=>v=.ref s.heap.objs.size/\s1={ s with heap:=s.heap.push { cls:=.type "dict",data:=.dict #[] } }) N0 (Py _) F.entry_dict_init (J8 _ ⟨rfl,rfl⟩) ?_
 rintro obj s1 ⟨rfl,rfl⟩
 refine ⟨⟨_,Heap.get?_push_size _ rfl,rfl⟩,F.args_dict_init_2 _ _,?_⟩
 obtain ⟨hp,g,d0,tk,os⟩:=s
 dsimp only at *
 have hl':=Heap.get?_push_of_some { cls:=.type "dict",data:=.dict #[] } hl
 have Yq:(⟨hp.push { cls:=.type "dict",data:=.dict #[] },g,d0,tk,os⟩:Shared).TypeIs (.ref hp.objs.size) "dict":=⟨_,Heap.get?_push_size _ rfl,rfl⟩
 have hTz:(⟨hp.push { cls:=.type "dict",data:=.dict #[] },g,d0,tk,os⟩:Shared).TypeIs (.ref l) "list":=⟨_,hl',rfl⟩
 have ym:=Ib
 unfold Builtin.«dict.__init__»
 repeat (any_goals (first | assumption | (with_reducible refine HF hh hl' fun h' t' k=>?_) | (with_reducible refine uU (k _ _ hl') ?_) | wp_step))
 have lt:∀ {c:Addr}{o:Obj},hp.get? c=some o->c≠hp.objs.size:=fun e=>ZtK (Heap.lt_size e)
 have up:∀ c o,hp.get? c=some o->h'.get? c=some o:=fun c o e=>k c o (Heap.get?_push_of_some _ e)
 have MO:∀ c o,hp.get? c=some o->(h'.push { cls:=.type "list_iterator",data:=.fields #[.ref l,.int 0 0] }).get? c=some o:=fun c o e=>Heap.get?_push_of_some _ (up c o e)
 have IL:∀ {c:Addr}{o:Obj},hp.get? c=some o->c≠h'.objs.size:=fun e=>ZtK (Heap.lt_size (up _ _ e))
 have nd:h'.objs.size≠hp.objs.size:=(ZtK (Heap.lt_size (k _ _ (Heap.get?_push_size _ rfl)))).symm
 refine ⟨plainId_quiet qZ _,GY (A:=A.in1) (knd:=knd) (es:=es) (show A.in1.handled=none from hh) nd (lt hl) (IL hl) hk hz xs.size 0 _ [] (by omega) (by simp) ⟨_,Heap.get?_push_size _ rfl,rfl,rfl⟩ ⟨_,MO _ _ hl,rfl,n,rfl⟩ (fun j p hj=>?_) ?_ ?_⟩
 ·obtain ⟨T,kx,o,m,q1,q2,q3,q4,q5⟩:=P j p hj
  exact ⟨T,kx,o,m,q1,lt q3,IL q3,q2,MO _ _ q3,q4,q5⟩
 ·obtain ⟨o,es,ep,ho,r⟩:=Heap.DictOf.new (knd:=knd) hp
  exact ⟨o,es,ep,Heap.get?_push_of_some _ (k _ _ ho),r⟩
 ·intro h2 t2 d2 k2
  refine ⟨rfl,q h2 t2 ?_ fun c o e=>k2 c o (lt e) (IL e) (MO c o e)⟩
  simpa using d2
end
end DL
namespace L2
open PySem PySem.Spec PyProof.Rows
noncomputable def sY (_:ZrF):List V->Hp->VK->Prop:=fun vs H Q=>match vs with
 | [.ref a]=>∃ (ys:List V) (ps:List (Key × V)),H a=some (.lst ys)/\ys.length=ps.length/\ps.length<=2000/\(∀ (j:Nat) p,ps[j]? = some p->∃ T,ys[j]? = some (.ref T)/\H T=some (.tup [kV p.1,p.2]))/\∀ p H',fM H p (.dK (eO [] ps)) H'->Q (.ref p) H'
 | _=>False
theorem Ss {F:Nat->Key × V->Key × Value->Prop}:∀ (ps:List (Key × V)) (m:Nat),(∀ (j:Nat) p,ps[j]? = some p->∃ u,bf p.2 u/\F (m+j) p (p.1,u)) ->
  ∃ es:List (Key × Value),es.length=ps.length/\(∀ (j:Nat) e,es[j]? = some e->∃ p,ps[j]? = some p/\F (m+j) p e)/\∀ (kvs:List (Key × V)) (ws:List (Key × Value)),KV kvs ws->KV (ps.foldl (fun acc kv=>cJ acc kv.1 kv.2) kvs) (es.foldl (fun e p=>stored e p.1 p.2) ws)
 | [],m,_=>⟨[],rfl,fun j e h=>by simp at h,fun kvs ws r=>r⟩
 | p :: r,m,h=>by
  obtain ⟨u,ru,fu⟩:=h 0 p rfl
  obtain ⟨es,hl,he,hk⟩:=Ss r (m+1) fun j p' hj=>by
   obtain ⟨u',h1,h2⟩:=h (j+1) p' (by simpa using hj)
   exact ⟨u',h1,by rw [show m+1+j=m+(j+1) by omega];exact h2⟩
  refine ⟨(p.1,u) :: es,by simp [hl],fun j e hj=>?_,fun kvs ws rr=>hk _ _ (rr.put p.1 ru)⟩
  cases j with
  | zero =>
   have:(p.1,u)=e:=by simpa using hj
   subst this
   exact ⟨p,rfl,fu⟩
  | succ j =>
   obtain ⟨p',h1,h2⟩:=he j e (by simpa using hj)
   exact ⟨p',by simpa using h1,by rw [show m+(j+1)=m+1+j by omega];exact h2⟩
theorem Ar {X:Cx} (hc:X.calm=true):jE X (.type "dict") (sY X.K):=by
 intro pins s σ H xs us Q I r h
 match xs,h with
 | [.ref a],h =>
  obtain ⟨ys,ps,hL,hl,hz,hp,q⟩:=h
  obtain ⟨u1,rfl,e1⟩:=qD r
  cases e1
  obtain ⟨z,its,n,rv,hlen,hget⟩:=I.kP hL
  have item:∀ (j:Nat) p,ps[j]? = some p->∃ u,bf p.2 u/\∃ T kx o m,its[j]? = some (.ref T)/\(ij X.prog X.w).is p.1 kx=true/\s.heap.get? T=some o/\o.cls=.type "tuple" /\ o.data=.seq #[kx,u] m:=fun j p hj=>by
   obtain ⟨T,hT,hH⟩:=hp j p hj
   obtain ⟨uT,h1,h2⟩:=rv.get hT
   cases h2
   obtain ⟨itt,rt,⟨o,ho,mV,m,hda⟩,_⟩:=I.tuple (dD.of hH)
   obtain ⟨w1,w2,rfl,r1,r2⟩:=Vals.two rt
   exact ⟨w2,r2,T,w1,o,m,h1,rV r1,ho,mV,hda⟩
  obtain ⟨es,hel,hes,hkv⟩:=Ss (F:=fun j p e=>∃ T kx o m,its[j]? = some (.ref T)/\(ij X.prog X.w).is e.1 kx=true/\s.heap.get? T=some o/\o.cls=.type "tuple" /\ o.data=.seq #[kx,e.2] m) ps 0 fun j p hj=>by
   obtain ⟨u,h1,T,kx,o,m,h2⟩:=item j p hj
   exact ⟨u,h1,T,kx,o,m,by rw [Nat.zero_add];exact h2⟩
  refine DL.Mb (knd:=ij X.prog X.w) (es:=es) (I.ok.hd hc) hget (by rw [Zsr];omega) (by rw [Zsr];omega) (fun j p hj=>?_) fun h2 t2 dd k2=>?_
  ·obtain ⟨p',_,T,kx,o,m,q1,q2,q3,q4,q5⟩:=hes j p hj
   exact ⟨T,kx,o,m,by rw [Nat.zero_add] at q1;simpa using q1,q2,q3,q4,q5⟩
  ·have jJ:H s.heap.objs.size=none:=I.aB.fresh (ZtJ _)
   have rel:KV (eO [] ps) (es.foldl (fun e p=>stored e p.1 p.2) []):=hkv [] [] .nil
   have sO:(eO [] ps).length<=sizeLine:=by
    have h1:=zH ps []
    rw [ZsH] at h1
    rw [sizeLine_eq];omega
   have zI:((s.heap.objs.size:Addr) == sysModules)=false:=beq_eq_false_iff_ne.mpr (Ne.symm (ZtK I.big))
   refine ⟨.ref s.heap.objs.size,upd H s.heap.objs.size (.dK (eO [] ps)),?_,rfl,q _ _ ⟨jJ,rfl⟩⟩
   exact I.dz (ch:=[]) (h':=h2) (t':=t2) (fun b hb=>nomatch hb) (ZtJ _) (fun b o _ e=>k2 b o e) (Es sO zI rel dd)
end L2
set_option maxHeartbeats 4000000
namespace EX
open PySem
structure Lv (S:List Addr) (e:Addr) (old:List Addr) (cls:Value) (h h':Heap) (T:Addr):Prop where
 ge:h.objs.size<=T
 exc:∃ oe vs,h'.get? e=some oe/\oe.cls=cls/\oe.data=.fields vs/\vs[1]? = some (.ref T)/\oe.dict=none
 tb:∃ oT ts,h'.get? T=some oT/\oT.data=.fields ts/\ts[3]? = some .none
 keep:∀ b o,b ∉ S->b≠e->b ∉ old->h.get? b=some o->h'.get? b=some o
 slot:∀ b o,b∈S->h.get? b=some o->∃ sl,h'.get? b=some { o with slots:=sl }
theorem Zo3 (f:Array Value->Array Value) (o:Obj):(Obj.mapFields f o).dict=o.dict:=by
 unfold Obj.mapFields
 split <;> rfl
section
variable {M:Model}{A:Around}{E:Value->Shared->Prop}{s:Shared}
theorem Tc {base:Heap}{env:Env}{outer:List Env}{L e:Addr}{oe:Obj}{vs:Array Value}{yC:Value}{nx:Bool}{Q:Unit->Shared->Prop} (qF:A.frames=some (env :: outer)) (hl:s.heap.FunFrames base (env :: outer)) (hf:env.frame=some L)
  (he:s.heap.get? e=some oe) (qb:oe.dict=none) (hd:oe.data=.fields vs) (hsz:1<vs.size)
  (q:∀ h' T,Lv ((env :: outer).filterMap (·.frame)) e [] oe.cls s.heap h' T->Q () { s with heap:=h' }) :
  wpAny M A (do let a <- frameOf env;let pl <- entryPlaceOf L nx;let b <- EntryCells.newEntry yC a .none (rawInt L) .none pl;setField (.ref e) 1 b) (fun _ s'=>wpAny M A (setFlight (.ref e) none) Q E s') E s:=by
 have eS:e ∉ (env :: outer).filterMap (·.frame):=fun hm=>by
  obtain ⟨_,o,ho,hnf⟩:=hl.mem hm
  rw [he] at ho
  cases ho
  exact hnf vs hd
 refine wpAny_bind (wpAny_frameOf_fun qF hl hf fun k1 x1=>wpAny_bind (wpAny_entryPlaceOf fun pl jA=>?_))
 unfold EntryCells.newEntry newFields
 refine wpAny_bind (wpAny_newObj_type ?_ (jA.sizeOk5 _ _ _ _ _))
 have e1:k1.get? e=some oe:=(x1.2.1 e eS).trans he
 generalize hob:({ cls:=.type "traceback",dict:=none,data:=.fields ([yC,.ref L,.none,rawInt L,.none] ++ (if pl.isEmpty then Zsp 6 Value.none else pl)).toArray }:Obj)=ob
 have MG:∃ ts,ob.data=.fields ts/\3<ts.size:=⟨_,by rw [<- hob],by simp only [Zsr,Zsm,ZsB,ZsH];omega⟩
 obtain ⟨ts,tN,hts3⟩:=MG
 have yn:ob.isFreed=false:=by rw [<- hob];rfl
 have e2:(k1.push ob).get? e=some oe:=Heap.get?_push_of_some _ e1
 refine wpAny_setField e2 hd hsz ?_
 have R4:k1.objs.size≠e:=ZtP (Heap.lt_size e1)
 have d3:=Obj.data_mapFields hd (·.setIfInBounds 1 (Value.ref k1.objs.size))
 have e3:=Heap.get?_update_self (Obj.mapFields (·.setIfInBounds 1 (Value.ref k1.objs.size))) e2 (Obj.isFreed_of_fields d3)
 have t3:=(Heap.get?_update_other (k1.push ob) (Obj.mapFields (·.setIfInBounds 1 (Value.ref k1.objs.size))) (Ne.symm R4)).trans (Heap.get?_push_size k1 yn)
 unfold setFlight
 refine wpAny_bind (wpAny_field e3 d3 (x:=.ref k1.objs.size) (by simp [hsz]) ?_)
 rw [if_pos (show (Value.ref k1.objs.size != Value.none)=true by simp)]
 refine wpAny_setField t3 tN hts3 (q _ k1.objs.size ?_)
 have up:∀ b o,b≠e->k1.get? b=some o->(((k1.push ob).update e (Obj.mapFields (·.setIfInBounds 1 (Value.ref k1.objs.size)))).update k1.objs.size (Obj.mapFields (·.setIfInBounds 3 ((none:Option Addr).elim Value.none fun f=>rawInt f)))).get? b=some o:=fun b o nb hb=>by
  rw [Heap.get?_update_other _ _ (ZtP (Heap.lt_size hb)),Heap.get?_update_other _ _ (Ne.symm nb)]
  exact Heap.get?_push_of_some _ hb
 refine ⟨by rw [x1.1];exact ZtJ _,⟨_,_,(Heap.get?_update_other _ _ R4).trans e3,Obj.cls_mapFields _ _,d3,by simp [hsz],(Zo3 _ _).trans qb⟩,?_,fun b o hb nb _ hbo=>up b o nb ((x1.2.1 b hb).trans hbo),fun b o hb hbo=>?_⟩
 ·have d4:=Obj.data_mapFields tN (·.setIfInBounds 3 ((none:Option Addr).elim Value.none fun f=>rawInt f))
  exact ⟨_,_,Heap.get?_update_self _ t3 (Obj.isFreed_of_fields d4),d4,by simp [hts3]⟩
 ·obtain ⟨sl,hs⟩:=x1.2.2 b o hbo
  exact ⟨sl,up b _ (fun z=>eS (z ▸ hb)) hs⟩
noncomputable def OC (h:Heap) (e:Addr) (vs:Array Value) (old:List Addr):Prop :=
 (vs[1]? = some .none/\old=[])\/∃ T0 oT ts,old=[T0]/\vs[1]? = some (.ref T0)/\T0≠e/\h.get? T0=some oT/\oT.data=.fields ts/\ts[3]? = some .none
theorem lands {base:Heap}{env:Env}{outer:List Env}{L e:Addr}{oe:Obj}{vs:Array Value}{old:List Addr}{Q:Unit->Shared->Prop} (qF:A.frames=some (env :: outer)) (hl:s.heap.FunFrames base (env :: outer)) (hf:env.frame=some L)
  (he:s.heap.get? e=some oe) (qb:oe.dict=none) (hd:oe.data=.fields vs) (tr:OC s.heap e vs old)
  (q:∀ h' T,Lv ((env :: outer).filterMap (·.frame)) e old oe.cls s.heap h' T->Q () { s with heap:=h' }):wpAny M A (noteFrame (.ref e) env) (fun _ s'=>wpAny M A (setFlight (.ref e) none) Q E s') E s:=by
 unfold noteFrame
 simp only [hf]
 rcases tr with ⟨h1,rfl⟩ | ⟨T0,oT,ts,rfl,h1,nT,hT,hdT,h3⟩
 ·refine wpAny_bind (wpAny_field he hd h1 ?_)
  rw [if_neg (by decide)]
  exact Tc qF hl hf he qb hd (Zuh.mp h1).1 q
 ·refine wpAny_bind (wpAny_field he hd h1 ?_)
  rw [if_pos (show (Value.ref T0 != Value.none)=true by simp)]
  refine wpAny_bind (wpAny_field hT hdT h3 ?_)
  rw [if_neg (show ¬ ((Value.none == rawInt L)=true) by simp [rawInt])]
  refine wpAny_bind (wpAny_setField hT hdT (Zuh.mp h3).1 ?_)
  have ot:∀ b,b≠T0->(s.heap.update T0 (Obj.mapFields (·.setIfInBounds 3 Value.none))).get? b=s.heap.get? b:=fun b hb=>Heap.get?_update_other _ _ (Ne.symm hb)
  have nf:∀ b o,s.heap.get? b=some o->(∀ vs,o.data≠.fields vs)->b≠T0:=fun b o hb hnf z=>by
   rw [z,hT] at hb
   cases hb
   exact hnf ts hdT
  refine Tc qF (hl.of_keeps fun b o hb hnf=>⟨o,(ot b (nf b o hb hnf)).trans hb,rfl⟩) hf ((ot e (Ne.symm nT)).trans he) qb hd (Zuh.mp h1).1 fun h' T x=>q h' T ⟨?_,x.exc,x.tb,fun b o hb nb no hbo=>?_,fun b o hb hbo=>?_⟩
  ·have:=x.ge
   rw [show (s.heap.update T0 (Obj.mapFields (·.setIfInBounds 3 Value.none))).objs.size=s.heap.objs.size from Heap.size_after_update ..] at this
   exact this
  ·exact x.keep b o hb nb (by simp) ((ot b (fun z=>no (by simp [z]))).trans hbo)
  ·obtain ⟨_,o',lr,hnf⟩:=hl.mem hb
   rw [hbo] at lr
   cases lr
   exact x.slot b o hb ((ot b (nf b o hbo hnf)).trans hbo)
theorem vB {base:Heap}{env:Env}{outer:List Env}{L e:Addr}{oe:Obj}{vs:Array Value}{old:List Addr}{Q:Unit->Shared->Prop} (qF:A.frames=some (env :: outer)) (hl:s.heap.FunFrames base (env :: outer)) (hf:env.frame=some L)
  (he:s.heap.get? e=some oe) (qb:oe.dict=none) (hd:oe.data=.fields vs) (tr:OC s.heap e vs old)
  (q:∀ h' T,Lv ((env :: outer).filterMap (·.frame)) e old oe.cls s.heap h' T->Q () { s with heap:=h' }):wpAny M A (leaving env (.ref e)) Q E s:=by
 unfold leaving
 exact wpAny_bind (lands qF hl hf he qb hd tr q)
end
end EX
set_option maxHeartbeats 4000000
namespace L2
open PySem PySem.Spec PyProof.Rows
noncomputable def gZ (P:Program) (w:World):lF:=fun outer H s E er s'=>∃ e T C H',er=.ref e/\s'.os=s.os/\AllBare s'.gens/\Un (jN outer) [] H H' s.heap s'.heap/\fJ P w H' s'.heap/\s.heap.get? e=none/\s.heap.get? T=none/\T≠e/\H' e=none/\H' T=none /\
 (∃ oe vs,s'.heap.get? e=some oe/\oe.cls=.ref C/\oe.data=.fields vs/\vs[1]? = some (.ref T)/\oe.dict=none)/\(∃ oT ts,s'.heap.get? T=some oT/\oT.data=.fields ts/\ts[3]? = some .none)/\E (.ref e) (some C) H'
theorem eR.has {P:Program}{w:World}{H:Hp}{h:Heap}{a:Addr}{o:HO} (x:eR P w H h a o):∃ u,h.get? a=some u:=by
 cases o with
 | lst xs=>obtain ⟨_,_,_,_,e⟩:=x;exact ⟨_,e⟩
 | tup xs=>obtain ⟨_,_,_,_,e,_⟩:=x;exact ⟨_,e⟩
 | dK kvs=>obtain ⟨_,_,_,_,o,_,_,e,_⟩:=x;exact ⟨_,e⟩
 | dT kvs=>obtain ⟨_,_,_,_,o,_,_,e,_⟩:=x;exact ⟨_,e⟩
 | set S n=>obtain ⟨o,_,_,_,e,_⟩:=x;exact ⟨_,e⟩
 | ins C dx fs=>obtain ⟨_,_,_,e,_⟩:=x;exact ⟨_,e⟩
 | own y=>exact x
 | xd fs=>obtain ⟨_,⟨_,_,_,e,_⟩,_⟩:=x;exact ⟨_,e⟩
 | rng lo hi=>obtain ⟨_,_,_,e⟩:=x;exact ⟨_,e⟩
 | frz ob u=>obtain ⟨e,_⟩:=x;exact ⟨_,e⟩
 | tbl ps=>exact ⟨_,(show h.get? a=some _ from x)⟩
 | met f y=>exact ⟨_,(show h.get? a=some _ from x)⟩
 | ext φ=>obtain ⟨_,e,_⟩:=x;exact e
theorem fJ.pD {P:Program}{w:World}{H:Hp}{h:Heap}{a:Addr} (x:fJ P w H h) (e:h.get? a=none):H a=none:=by
 cases q:H a with
 | none=>rfl
 | some u =>
  obtain ⟨o,z⟩:=(x a u q).has
  rw [e] at z;cases z
noncomputable def o7 (X:Cx) (pins:List (Addr × Obj)) (H:Hp) (b:Addr):Prop :=
 H b=none/\b≠X.env.locals/\b ∉ X.fs/\(b∈X.ex\/X.s₀.heap.get? b=none)/\(∀ x c,X.env.cells.lookup x=some c->c≠b)/\∀ p∈X.pn ++ pins,p.1≠b
theorem Inv.wH {X:Cx}{pins:List (Addr × Obj)}{σ:St}{H H':Hp}{s:Shared}{b:Addr} (I:Inv X pins σ H s) (hb:s.heap.get? b=none) (hn:H' b=none):o7 X pins H' b:=by
 have no:∀ {o:Obj},s.heap.get? b=some o->False:=fun z=>by rw [hb] at z;cases z
 refine ⟨hn,fun z=>?_,fun z=>?_,?_,fun x c e z=>?_,fun p hp z=>?_⟩
 ·obtain ⟨m,⟨o,es,ep,ho,_⟩,_⟩:=I.loc
  rw [<- z] at ho;exact no ho
 ·obtain ⟨_,o,ho,_⟩:=I.fF.mem z
  exact no ho
 ·by_cases hx:b∈X.ex
  ·exact .inl hx
  ·refine .inr ?_
   cases q:X.s₀.heap.get? b with
   | none=>rfl
   | some o =>
    obtain ⟨o',h'⟩:=I.base.there b o q hx
    exact (no h').elim
 ·obtain ⟨v,q⟩:=I.cell x c e
  rw [z] at q
  obtain ⟨o,ho,_⟩:=q
  exact no ho
 ·have:=(I.pin p hp).1
  rw [z] at this
  exact no this
structure IF (X:Cx) (pins:List (Addr × Obj)) (H:Hp) (e C:Addr) (s:Shared):Prop where
 fe:o7 X pins H e
 obj:∃ oe vs old,s.heap.get? e=some oe/\oe.cls=.ref C/\oe.data=.fields vs/\EX.OC s.heap e vs old/\oe.dict=none/\∀ b∈old,o7 X pins H b
noncomputable def BA (X:Cx) (E:XK):Prop:=∀ (pins:List (Addr × Obj)) (σ:St) (H:Hp) (s:Shared) (e C:Addr),Inv X pins σ H s->IF X pins H e C s->E (.ref e) (some C) H->X.xe (.ref e) s
theorem yk {X:Cx}{pins:List (Addr × Obj)}{σ:St}{H:Hp}{s s':Shared}{E:XK}{er:Value} (I:Inv X pins σ H s) (h:gZ X.prog X.w X.stack H s E er s'):∃ e C H',er=.ref e/\Inv X pins σ H' s'/\IF X pins H' e C s'/\E (.ref e) (some C) H':=by
 obtain ⟨e,T,C,H',rfl,os,bare,un,aB,ge,gT,ne,he,hT,⟨oe,vs,h1,h2,h3,h4,h8⟩,⟨oT,ts,h5,h6,h7⟩,q⟩:=h
 obtain ⟨hh,g,d,t,os'⟩:=s'
 obtain rfl:os'=s.os:=os
 refine ⟨e,C,H',rfl,I.call (h':=hh) (g':=g) (d':=d) (t':=t) (ch:=[]) un aB bare (fun b z=>absurd z (by simp)),⟨I.wH ge he,oe,vs,[T],h1,h2,h3,.inr ⟨T,oT,ts,rfl,h4,ne,h5,h6,h7⟩,h8,fun b hb=>?_⟩,q⟩
 rw [Zsl.mp hb]
 exact I.wH gT hT
theorem K1 {X:Cx}{E:XK} (h:BA X E):qH (gZ X.prog X.w) X E:=fun pins σ H s er s' I hcx=>by
 obtain ⟨e,C,H',rfl,I',fl,q⟩:=yk I hcx
 exact h pins σ H' s' e C I' fl q
theorem lC {P:Program}{w:World}{X:Cx}:qH (gZ P w) X E0:=fun _ _ _ _ _ _ _ h=>by
 obtain ⟨_,_,_,_,_,_,_,_,_,_,_,_,_,_,_,_,q⟩:=h
 exact q.elim
section
variable {P:Program}{w:World}{K:ZrF}{mg:Str->Option Value}{base:Heap}
theorem pA {N:List Str}{qual:Str}{scope:Scope}{f:Addr}{bU:Value}{A:Around}{outer:List Env}{s:Shared}{H:Hp}{E:XK}:BA (lB (gZ P w) P w K mg base N qual scope f bU A outer s H E) E:=by
 intro pins σ H' s' e C I fl q
 obtain ⟨fe,oe,vs,old,h1,h2,h3,tr,qb,fo⟩:=fl
 show wpAny (model P w) (A.deeper (envOfC qual scope s.heap.objs.size f bU)) (leaving (envOfC qual scope s.heap.objs.size f bU) (.ref e)) (fun _ s''=>gZ P w outer H s E (.ref e) s'') (fun e' s''=>gZ P w outer H s E e' s'') s'
 have fr:(A.deeper (envOfC qual scope s.heap.objs.size f bU)).frames=some (envOfC qual scope s.heap.objs.size f bU :: outer):=I.ok.frames
 have ff:s'.heap.FunFrames base (envOfC qual scope s.heap.objs.size f bU :: outer):=I.stack
 have free:∀ b∈(envOfC qual scope s.heap.objs.size f bU :: outer).filterMap (·.frame),H' b=none:=I.iD
 have big:∀ {b},o7 (lB (gZ P w) P w K mg base N qual scope f bU A outer s H E) pins H' b->s.heap.get? b=none:=fun {b} hb=>by
  rcases hb.2.2.2.1 with z | z
  ·exact absurd z (by show b ∉ ([]:List Addr);simp)
  ·exact z
 have pe:∀ {b o},s.heap.get? b=some o->b≠e/\b ∉ old/\b≠s.heap.objs.size:=fun {b o} hb=>by
  have lt:=Heap.lt_size hb
  refine ⟨fun z=>?_,fun z=>?_,ZtK lt⟩
  ·have:=big fe
   rw [<- z,hb] at this;cases this
  ·have:=big (fo b z)
   rw [hb] at this;cases this
 refine EX.vB (base:=base) fr ff rfl h1 qb h3 tr fun h' T lv=>?_
 have Ym:∀ {b},b∈(envOfC qual scope s.heap.objs.size f bU :: outer).filterMap (·.frame)->b=s.heap.objs.size\/b∈jN outer:=fun {b} hb=>by
  rw [Zte] at hb
  exact Zst.mp hb
 have toS:∀ {b},b∈jN outer->b∈(envOfC qual scope s.heap.objs.size f bU :: outer).filterMap (·.frame):=fun {b} hb=>by
  rw [Zte]
  exact ZsD _ hb
 have B:=I.base
 have XS:s.heap.objs.size<=s'.heap.objs.size:=I.sz
 have kp:∀ b u,H' b≠none->s'.heap.get? b=some u->h'.get? b=some u:=fun b u nb hb=>by
  refine lv.keep b u (fun z=>nb (free b z)) (fun z=>nb (by rw [z];exact fe.1)) (fun z=>nb (fo b z).1) hb
 refine ⟨e,T,C,H',rfl,I.os,I.bare,⟨fun b o e1 n hb hx=>?_,fun b o e1 n hb hx=>?_,fun b o e1 n hx=>B.free b o e1 n hx,fun b o e1 hx=>?_,B.hZ,B.gE,B.gX⟩,fun b u e1=>?_,big fe,Heap.get?_none_of_le (ZtL XS lv.ge),?_,fe.1,I.aB.fresh lv.ge,?_,lv.tb,q⟩
 ·obtain ⟨z1,z2,z3⟩:=pe e1
  refine lv.keep b o (fun z=>?_) z1 z2 (B.keep b o e1 n hb hx)
  rcases Ym z with z | z
  ·exact z3 z
  ·exact hb z
 ·obtain ⟨sl,e2⟩:=B.slot b o e1 n hb hx
  obtain ⟨sl',e3⟩:=lv.slot b _ (toS hb) e2
  exact ⟨sl',e3⟩
 ·obtain ⟨o',e2⟩:=B.there b o e1 hx
  obtain ⟨z1,z2,z3⟩:=pe e1
  by_cases hS:b∈(envOfC qual scope s.heap.objs.size f bU :: outer).filterMap (·.frame)
  ·obtain ⟨sl,e3⟩:=lv.slot b _ hS e2
   exact ⟨_,e3⟩
  ·exact ⟨o',lv.keep b o' hS z1 z2 e2⟩
 ·refine (I.aB b u e1).i5 (fun c v hc hv=>kp c v (fun z=>?_) hv) (fun _ z=>z) fun _ _ z=>z
  rcases hc with y | y
  ·rw [y,e1] at z;cases z
  ·rw [y] at z;cases z
 ·exact ZtP (ZtM (Heap.lt_size h1) lv.ge)
 ·obtain ⟨oe',vs',y1,y2,y3,y4,y5⟩:=lv.exc
  exact ⟨oe',vs',y1,y2.trans h2,y3,y4,y5⟩
theorem kJ.okX {x qual:Str}{st:Stmt}{f:Addr}{fd:FuncData}{N ps:List Str}{k:Nat}{sp:Sp} (F:kJ K x qual st f fd) (S:ak N ps (aW st)) (len:∀ vs H Q E,sp vs H Q E->vs.length=ps.length)
  (kU:∀ (bU:Value) (A:Around) (outer:List Env) (s:Shared) (H:Hp) (vs:List V) (Q:VK) (E:XK),bG k (A.deeper (envOfC qual (aW st) s.heap.objs.size f bU))->sp vs H Q E ->
   ∃ t,j7 (lB (gZ P w) P w K mg base N qual (aW st) f bU A outer s H E) (lE st) t/\t { nx:=fun _ H'=>Q .non H',rt:=Q } (start N vs) H):aG P w K mg base (gZ P w) (k+1) f fd ps sp:=by
 obtain ⟨oc,od,kV,doc,pm,an,bU,ct,mL,rfl,lk,mD⟩:=F.ex
 exact sN lk mD S len fun A outer s H vs Q E hr qx=>kU bU A outer s H vs Q E hr qx
end
section
open PySem.W
theorem vX {K:Frag}{h:Heap}{C:Addr}{zK:List Value}{newId:String} (X:K.In h) (q:excIn K C zK newId=true):∃ bm N nm qn bs hdct sn sub ab col dd k0 k1 k2 k3 k5 mN,
  h.get? C=some (excClassObj nm qn C N bs bm hdct sn sub ab col dd k0 k1 k2 k3 k5 newId)/\h.Ns N mN/\mN "__init__" = none/\OwnTail h zK bm:=by
 have hk:=q
 revert hk
 rw [excIn]
 intro hk
 cases hl:K.lookup C with
 | none=>rw [hl] at hk;cases hk
 | some ob =>
  obtain ⟨c,dd,dt,sl⟩:=ob
  rw [hl] at hk
  split at hk
  next dd' cd sl' he =>
   cases he
   split at hk
   next C' bm k0 k1 k2 k3 n k5 hm hs =>
    simp only [Zun,beq_iff_eq,Bool.not_eq_true'] at hk
    obtain ⟨⟨⟨⟨⟨hc,hn⟩,hdel⟩,ht⟩,aB⟩,hni⟩:=hk
    cases cd
    cases sl
    simp only at hm hdel aB hni hs
    rw [hm,hdel,hs] at hl
    rw [hc,hn] at hl
    exact ⟨_,_,_,_,_,_,_,_,_,_,_,_,_,_,_,_,_,X _ _ hl,.of_isNs (isNs_of_in X aB),nsMap_none_of_in X aB hni,tail_of_in X ht⟩
   next=>cases hk
  next=>cases hk
end
noncomputable def qp (C:Addr) (t:TA) (E:XK):TS:=fun _ σ H=>t σ H fun vs H1=>vs.length<=sizeLine/\∀ e,H1 e=none->E (.ref e) (some C) H1
theorem tP {X:Cx}{E:XK}{C:Addr}{x:Str}{zK:List Value}{B newId um:String}{e:Expr}{es:List Expr}{t:TA}{np cg pos:Pos} (F:ExcBaseFacts B newId um zK) (q:ZrM X.K C zK newId=true) (kQ:zK.contains (.type "BaseException")=true)
  (hg:Gl X x) (hm:X.mg x=some (.ref C)) (hc:X.calm=true) (hx:BA X E) (ha:PA X (e :: es) t) (lS:(x == ("__debug__" : Str))=false:=by decide) (he:starEach (e :: es) X.env=(false,eval e X.env) :: starEach es X.env:=by rfl)
  (jA:(backTo cg (starEach (e :: es) X.env)).any (·.1)=false:=by rfl):PS X (.Raise (some (.Call (.Name x np) (e :: es) [] cg)) none pos) (qp C t E):=by
 intro pins s σ H D I h
 obtain ⟨bm,N,nm,qn,bs,hdct,sn,sub,ab,col,dd,k0,k1,k2,k3,k5,mN,hC,hN,hni,T⟩:=vX I.ok.mod.AJ q
 refine wpAny_Raise_call_subT (nm:=nm) (q:=qn) (N:=N) (bs:=bs) (hdct:=hdct) (sn:=sn) (sub:=sub) (ab:=ab) (col:=col) (dd:=dd) (k0:=k0) (k1:=k1) (k2:=k2) (k3:=k3) (k5:=k5) F (T.hasType kQ) (I.ok.hd hc) jA hni (Hn I hg hm ⟨rfl,?_⟩ lS)
 have a1:=ha cg pins s σ H _ I h
 rw [he] at a1 ⊢
 refine Calls.evalArgs_plain (aV a1 fun us s1 ⟨vs,H1,I1,r,hz,q1⟩=>⟨rfl,?_,I1.bk _ _ hC,hN.keeps I1.bk,T.keeps I1.bk,fun h' e' hme=>?_⟩)
 ·show us.length<=_
  rw [<- r.length];exact hz
 ·have I2:Inv X pins σ H1 { s1 with heap:=h' }:=I1.kept (t':=s1.toks) hme.keeps
  obtain ⟨tt,t1,t2,t3⟩:=hme.there
  exact hx pins σ H1 _ e' C I2 ⟨I1.wH hme.new (I1.aB.pD hme.new),_,_,[],t1,rfl,rfl,.inl ⟨rfl,rfl⟩,rfl,fun b hb=>absurd hb (by simp)⟩ (q1 e' (I1.aB.pD hme.new))
noncomputable def Cx.plus (X:Cx) (l:List Addr):Cx:={ X with ex:=l ++ X.ex }
section
variable {X:Cx}{pins:List (Addr × Obj)}{σ:St}{H:Hp}{s:Shared}{l:List Addr}
theorem Zkl (I:Inv X pins σ H s) {b:Addr} (hb:X.s₀.heap.get? b=none) (o:Obj):X.base.get? b≠some o:=fun z=>by
 have:=(I.ok.bs b o z).1
 rw [hb] at this;cases this
theorem Inv.plus (I:Inv X pins σ H s) (h:∀ b∈l,o7 X pins H b):Inv (X.plus l) pins σ H s:=by
 have K:=I.ok
 refine ⟨⟨K.mod,K.kind,K.glob,K.blt,K.above,K.inj,K.has,K.tJ,K.hd,K.frames,K.ve,fun b hb=>?_,K.bs,K.mE,fun b o e hb=>?_,fun b hb=>?_,K.fF,K.pF⟩,I.os,I.bare,?_,I.loc,I.cell,I.free,I.dr,I.pin,I.aB,I.len⟩
 ·rcases Zsq.mp hb with z | z
  ·exact ⟨(h b z).2.1,(h b z).2.2.2.2.1⟩
  ·exact K.C1 b z
 ·rcases Zsq.mp hb with z | z
  ·rcases (h b z).2.2.2.1 with y | y
   ·exact K.j9 b o e y
   ·exact Zkl I y o e
  ·exact K.j9 b o e z
 ·rcases Zsq.mp hb with z | z
  ·exact (h b z).2.2.1
  ·exact K.kI b z
 ·have no:∀ {b:Addr},b ∉ l ++ X.ex->b ∉ X.ex:=fun hb z=>hb (ZsE _ z)
  exact ⟨fun b o e n hb hx=>I.base.keep b o e n hb (no hx),fun b o e n hb hx=>I.base.slot b o e n hb (no hx),fun b o e n hx=>I.base.free b o e n (no hx),fun b o e hx=>I.base.there b o e (no hx),I.base.hZ,I.base.gE,I.base.gX⟩
theorem Inv.minus (I:Inv (X.plus l) pins σ H s) (K:X.Ok) (h:∀ b∈l,b∈X.ex\/X.s₀.heap.get? b=none):Inv X pins σ H s:=by
 have no:∀ {b:Addr}{o:Obj},X.s₀.heap.get? b=some o->b ∉ X.ex->b ∉ l ++ X.ex:=fun {b o} e hb z=>by
  rcases Zsq.mp z with y | y
  ·rcases h b y with u | u
   ·exact hb u
   ·rw [u] at e;cases e
  ·exact hb y
 exact ⟨K,I.os,I.bare,⟨fun b o e n hb hx=>I.base.keep b o e n hb (no e hx),fun b o e n hb hx=>I.base.slot b o e n hb (no e hx),fun b o e n hx=>I.base.free b o e n (no e hx),fun b o e hx=>I.base.there b o e (no e hx),I.base.hZ,I.base.gE,I.base.gX⟩,
  I.loc,I.cell,I.free,I.dr,I.pin,I.aB,I.len⟩
theorem Inv.turn {h':Heap} (I:Inv X pins σ H s) (h:∀ b∈l,o7 X pins H b)
  (keep:∀ b o,b ∉ jN X.stack->b ∉ l->s.heap.get? b=some o->h'.get? b=some o) (slot:∀ b o,b∈jN X.stack->s.heap.get? b=some o->∃ sl,h'.get? b=some { o with slots:=sl }):Inv X pins σ H { s with heap:=h' }:=by
 have I1:=I.plus h
 have st:∀ b,H b≠none->b ∉ jN X.stack/\b ∉ l:=fun b n=>⟨fun z=>n (I.iD b z),fun z=>n (h b z).1⟩
 have u:Un (jN X.stack) l H H s.heap h':=by
  refine ⟨fun b o e n hb hx=>keep b o hb hx e,fun b o e n hb hx=>slot b o hb e,fun b o e n hx=>n,fun b o e hx=>?_,fun _ _ e=>e,fun _ _ _ e=>e,fun b ps e=>⟨#[],by rw [e];simp⟩⟩
  by_cases hb:b∈jN X.stack
  ·obtain ⟨sl,q⟩:=slot b o hb e
   exact ⟨_,q⟩
  ·exact ⟨o,keep b o hb hx e⟩
 have aB:fJ X.prog X.w H h':=fun b u e1=>by
  refine (I.aB b u e1).i5 (fun c v hc hv=>?_) (fun _ z=>z) fun _ _ z=>z
  have n:H c≠none:=fun z=>by
   rcases hc with y | y
   ·rw [y,e1] at z;cases z
   ·rw [y] at z;cases z
  exact keep c v (st c n).1 (st c n).2 hv
 exact Inv.minus (l:=l) (I1.call (g':=s.gens) (d':=s.drawn) (t':=s.toks) (ch:=l) u aB I.bare fun b hb=>⟨.inl (ZsG _ hb),(h b hb).2.1,(h b hb).2.2.2.2.1,(h b hb).2.2.2.2.2⟩) I.ok fun b hb=>(h b hb).2.2.2.1
structure E6 (X:Cx) (pins:List (Addr × Obj)) (H:Hp) (e C T:Addr) (s:Shared):Prop where
 fe:o7 X pins H e
 fT:o7 X pins H T
 ne:T≠e
 exc:∃ oe vs,s.heap.get? e=some oe/\oe.cls=.ref C/\oe.data=.fields vs/\vs[1]? = some (.ref T)/\oe.dict=none
 tb:∃ oT ts,s.heap.get? T=some oT/\oT.data=.fields ts/\ts[3]? = some .none
theorem again {e C T:Addr}{Q:Unit->Shared->Prop}{A:Around} (I:Inv X pins σ H s) (hd:E6 X pins H e C T s)
  (q:∀ h',Inv X pins σ H { s with heap:=h' }->E6 X pins H e C T { s with heap:=h' }->Q () { s with heap:=h' }) {E:Value->Shared->Prop} :
  wpAny (model X.prog X.w) A (setFlight (.ref e) none) Q E s:=by
 obtain ⟨fe,fT,ne,⟨oe,vs,h1,h2,h3,h4,h5⟩,⟨oT,ts,t1,t2,t3⟩⟩:=hd
 unfold setFlight
 refine wpAny_bind (wpAny_field h1 h3 h4 ?_)
 rw [if_pos (show (Value.ref T != Value.none)=true by simp)]
 refine wpAny_setField t1 t2 (Zuh.mp t3).1 ?_
 have d4:=Obj.data_mapFields t2 (·.setIfInBounds 3 ((none:Option Addr).elim Value.none fun f=>rawInt f))
 have ot:∀ b,b≠T->(s.heap.update T (Obj.mapFields (·.setIfInBounds 3 ((none:Option Addr).elim Value.none fun f=>rawInt f)))).get? b=s.heap.get? b:=fun b hb=>Heap.get?_update_other _ _ (Ne.symm hb)
 have Pl:∀ b,b∈jN X.stack->b≠T:=fun b hb z=>by
  obtain ⟨_,o,ho,nf⟩:=I.stack.mem hb
  rw [z,t1] at ho;cases ho
  exact nf ts t2
 refine q _ (I.turn (l:=[T]) (fun b hb=>?_) (fun b o hb hl ho=>?_) fun b o hb ho=>?_) ⟨fe,fT,ne,⟨oe,vs,(ot e (Ne.symm ne)).trans h1,h2,h3,h4,h5⟩,⟨_,_,Heap.get?_update_self _ t1 (Obj.isFreed_of_fields d4),d4,?_⟩⟩
 ·rw [Zsl.mp hb];exact fT
 ·exact (ot b (fun z=>hl (by simp [z]))).trans ho
 ·exact ⟨o.slots,(ot b (Pl b hb)).trans ho⟩
 ·simp [(Zuh.mp t3).1]
end
noncomputable def mroIn (K:ZrF) (C:Addr):List Value:=match K.lookup C with
 | some ⟨_,_,.cls cd,_⟩=>cd.mro
 | _=>[]
section
open PySem.W
end
noncomputable def Cx.tr (X:Cx) (pins:List (Addr × Obj)) (Ex:St->XK):Cx :=
 { X with pn:=X.pn ++ pins,xe:=fun er s=>∃ σ e C H,er=.ref e/\Inv X pins σ H s/\IF X pins H e C s/\Ex σ (.ref e) (some C) H }
section
variable {X:Cx}{pins:List (Addr × Obj)}{σ:St}{H:Hp}{s:Shared}{e C T:Addr}{D:Ends}{f:Flow}{Ex:St->XK}
theorem Inv.tr (I:Inv X pins σ H s) (Ex:St->XK):Inv (X.tr pins Ex) [] σ H s :=
 ⟨⟨I.ok.mod,I.ok.kind,I.ok.glob,I.ok.blt,I.ok.above,I.ok.inj,I.ok.has,I.ok.tJ,I.ok.hd,I.ok.frames,I.ok.ve,I.ok.C1,I.ok.bs,I.ok.mE,I.ok.j9,I.ok.kI,I.ok.fF,I.ok.pF⟩,I.os,I.bare,I.base,I.loc,I.cell,I.free,I.dr,fun p hp=>I.pin p (by rw [ZsT] at hp;exact hp),I.aB,I.len⟩
noncomputable def JV (X:Cx) (Ex:St->XK):Prop:=∀ (pins:List (Addr × Obj)) (σ:St) (H:Hp) (s:Shared) (e C:Addr),Inv X pins σ H s->IF X pins H e C s->Ex σ (.ref e) (some C) H->X.xe (.ref e) s
theorem BA.toS {E:XK} (h:BA X E):JV X fun _=>E:=fun pins σ H s e C I fl q=>h pins σ H s e C I fl q
end
section
variable {X:Cx}{x:Str}{np pos:Pos}{Dc:Addr}{b₀:Stmt}{body:List Stmt}{rest:List ExceptHandler}{hd:Addr->Addr->TS}{ts:TS}
end
section
variable {X:Cx}{k:Nat}{f C:Addr}{fd:FuncData}{ps:List Str}{sp:Sp}{iH:List V}{ds:List Value}{Ex:St->XK}{x m:Str}{p pos apos:Pos}{e o:Expr}{es:List Expr}{ta:TE}{t:TA}
end
noncomputable def excAt (a C:Addr):Heap->Prop:=fun h=>∃ o vs,h.get? a=some o/\o.cls=.ref C/\o.data=.fields vs/\o.dict=none
noncomputable def xo (a C:Addr):HO:=.ext (excAt a C)
section
variable {X:Cx}{pins:List (Addr × Obj)}{σ:St}{H:Hp}{s:Shared}{e C T:Addr}
theorem Inv.seen {oe:Obj} (I:Inv X pins σ H s) (fe:o7 X pins H e) (ho:s.heap.get? e=some oe) (hc:oe.cls=.ref C) {vs:Array Value} (hf:oe.data=.fields vs) (qb:oe.dict=none):Inv X pins σ (upd H e (xo e C)) s:=by
 have ne:∀ {b u},H b=some u->b≠e:=fun {b u} h z=>by rw [z,fe.1] at h;cases h
 have up:∀ {b u},H b=some u->upd H e (xo e C) b=some u:=fun {b u} h=>(aE (ne h)).trans h
 refine ⟨I.ok,I.os,I.bare,⟨I.base.keep,I.base.slot,fun b o e1 n hx=>?_,I.base.there,fun b xs h=>up (I.base.hZ b xs h),fun b o u h=>up (I.base.gE b o u h),fun b ps h=>?_⟩,I.loc,I.cell,(aE (Ne.symm fe.2.1)).trans I.free,fun x c h=>(aE (fe.2.2.2.2.1 x c h)).trans (I.dr x c h),fun p hp=>?_,fun b u h=>?_,I.len⟩
 ·refine (aE fun z=>?_).trans (I.base.free b o e1 n hx)
  rcases fe.2.2.2.1 with y | y
  ·exact hx (z ▸ y)
  ·rw [z,y] at e1;cases e1
 ·obtain ⟨more,q⟩:=I.base.gX b ps h
  exact ⟨more,up q⟩
 ·obtain ⟨a1,a2,a3⟩:=I.pin p hp
  exact ⟨a1,(aE (fe.2.2.2.2.2 p hp)).trans a2,a3⟩
 ·by_cases hb:b=e
  ·rw [hb,bR] at h
   cases h
   rw [hb]
   exact ⟨⟨oe,vs,ho,hc,hf,qb⟩,⟨oe,ho⟩,fun h1 h2 ⟨o,vs,p1,p2⟩ k=>⟨o,vs,k o p1,p2⟩⟩
  ·rw [aE hb] at h
   exact (I.aB b u h).i5 (fun c v _ q=>q) (fun c q=>up q) fun c xs q=>up q
end
section
open PySem.W PySem.Calls
variable {prog:Program}{w:World}{A:Around}{E:Value->Shared->Prop}{s:Shared}{K:Frag}{a C:Addr}
end
structure sX (k:Nat) (A:Around):Prop where
 dp:A.depth+3 * k+5<recursionLimit
 un:A.units+16 * k+200<cLine
theorem bG.m {k:Nat}{A:Around} (r:bG k A):sX k A:=⟨r.dp,r.un⟩
structure VL (P:Program) (w:World) (K:ZrF) (mg:Str->Option Value) (base:Heap) (CX:lF) (k:Nat) (f:Addr) (fd:FuncData) (ps:List Str) (sp:Sp):Prop where
 len:∀ vs H Q E,sp vs H Q E->vs.length=ps.length
 run:∀ (A:Around) (outer:List Env) (s:Shared) (H:Hp) (args:Args) (us:List Value) (vs:List V) (Q:VK) (E:XK),sX k A->iY P w K mg base A outer s H->BindsTo s fd args (ps.zip us)->Vals vs us->sp vs H Q E ->
  codeAny (model P w) A (.call (.ref f) args) (CR CX outer P w H s Q E) s
section
variable {X:Cx}{CX:lF}{k:Nat}{f C:Addr}{fd:FuncData}{ps:List Str}{sp:Sp}{iH:List V}{ds:List Value}{E:XK}{x m:Str}{p pos apos:Pos}{e o:Expr}{es:List Expr}{ta:TE}{t:TA}
end
theorem BL {P:Program}{w:World}{K:ZrF}{mg:Str->Option Value}{base:Heap}{N:List Str}{qual:Str}{scope:Scope}{f:Addr}{bU:Value}{A:Around}{outer:List Env}{s:Shared}{H:Hp}{E:XK} :
  PassesOwn (model (lB (gZ P w) P w K mg base N qual scope f bU A outer s H E).prog (lB (gZ P w) P w K mg base N qual scope f bU A outer s H E).w) (lB (gZ P w) P w K mg base N qual scope f bU A outer s H E).A (lB (gZ P w) P w K mg base N qual scope f bU A outer s H E).env (lB (gZ P w) P w K mg base N qual scope f bU A outer s H E).xe:=fun _ _ h=>wpAny_leaving_again (SameStack.refl _) h
section
variable {X:Cx}{k:Nat}{f C:Addr}{fd:FuncData}{ps:List Str}{sp:Sp}{iH:List V}{ds:List Value}{Ex:St->XK}{x:Str}{p pos:Pos}{e:Expr}{es:List Expr}{t:TA}
end
structure FT (K:ZrF) (mg:Str->Option Value) (x:Str) (st:Stmt) (ps:List Str) (f:Addr) (d:FuncData):Prop where
 m:mg x=some (.ref f)
 n:kJ K x x st f d
 b:pk K d ps []
structure FM (K:ZrF) (c:Addr) (x q:Str) (st:Stmt) (ps:List Str) (f:Addr) (d:FuncData):Prop where
 n:kJ K x q st f d
 b:pk K d ps []
 e:Meth K c x f
noncomputable def FP (K:ZrF) (x:Str) (st:Stmt) (f:Addr):Prop:=∃ d,ZrG K mainGlobals x=some (some (.ref f))/\kJ K x x st f d
noncomputable def FQ (K:ZrF) (c:Addr) (x q:Str) (st:Stmt) (f:Addr):Prop:=∃ d,kJ K x q st f d/\Meth K c x f
structure CP (K:ZrF) (x:Str) (c:Addr):Prop where
 a:ZrG K mainGlobals x=some (some (.ref c))
 pg:ZrQ K c Str.empty=true
 hd:ZrT K c=true
 po:ZrX K c=true
 sa:ZrH K (.ref c) "__setattr__" = some (some (.builtin "object.__setattr__"))
 mk':ZrZ K c=true
 kc:ZrP K (.ref c)=true
section
variable {P:Program}{w:World}{K:ZrF}{mg:Str->Option Value}{base h:Heap}{x q:Str}{st:Stmt}{ps N:List Str}{f c:Addr}{d:FuncData}{k:Nat}{sp:Sp}
theorem CP.cl (p:CP K x c):mw K c:=⟨p.pg,p.hd,p.po,p.sa⟩
theorem FP.mk' {oc:Value}{od an:Option Addr}{mL:Array (Option Value)}{kV doc pm bU ct:Value} (a:ZrG K mainGlobals x=some (some (.ref f)))
  (l:K.lookup f=some ⟨oc,od,.func (ZrK x x (oj st) (lE st) (aW st) .none kV doc pm an bU ct),mL⟩)
  (c:ZrR K bU x=true) (k:ZrP K (.ref f)=true):FP K x st f:=⟨_,a,UG l c k⟩
theorem FQ.mk' {oc:Value}{od an:Option Addr}{mL:Array (Option Value)}{kV doc pm bU ct:Value} (a:ZrH K (.ref c) x=some (some (.ref f))) (i:ZrU K (.ref f)=true)
  (l:K.lookup f=some ⟨oc,od,.func (ZrK x q (oj st) (lE st) (aW st) .none kV doc pm an bU ct),mL⟩)
  (e:ZrR K bU q=true) (k:ZrP K (.ref f)=true):FQ K c x q st f:=⟨_,UG l e k,⟨a,i,k⟩⟩
theorem FP.ft (p:FP K x st f) (X:K.In h) (G:h.Ns mainGlobals mg)
  (B:∀ (kV doc pm:Value) (an:Option Addr) (bU ct:Value) (us:List Value),us.length=ps.length->bindArgs (ZrK x x (oj st) (lE st) (aW st) .none kV doc pm an bU ct) ⟨us,[]⟩=pure (ps.zip us)):FT K mg x st ps f p.choose :=
 ⟨ZrI X G p.choose_spec.1,p.choose_spec.2,p.choose_spec.2.binds B⟩
theorem FQ.fm (p:FQ K c x q st f)
  (B:∀ (kV doc pm:Value) (an:Option Addr) (bU ct:Value) (us:List Value),us.length=ps.length->bindArgs (ZrK x q (oj st) (lE st) (aW st) .none kV doc pm an bU ct) ⟨us,[]⟩=pure (ps.zip us)):FM K c x q st ps f p.choose :=
 ⟨p.choose_spec.1,p.choose_spec.1.binds B,p.choose_spec.2⟩
theorem CP.LG (p:CP K x c) {y:Str} (r:FQ K c "__init__" y st f):Mk K c f:=⟨p.mk',r.choose_spec.2.at_,r.choose_spec.2.fn,p.kc⟩
theorem kJ.yG {p:Str} (F:kJ K x q st f d) (B:∀ (kV doc pm:Value) (an:Option Addr) (bU ct u:Value),bindArgs (ZrK x q (oj st) (lE st) (aW st) .none kV doc pm an bU ct) ⟨[u],[]⟩=pure [(p,u)]) (s:Shared) (v:Value):BindsTo s d ⟨[v],[]⟩ [(p,v)]:=by
 obtain ⟨oc,od,kV,doc,pm,an,bU,ct,mL,rfl,lk,mD⟩:=F.ex
 exact .of_eq (B kV doc pm an bU ct v)
end
noncomputable abbrev TM (P:Program) (w:World) (K:ZrF) (mg:Str->Option Value) (base:Heap) (k:Nat) (q:Str) (st:Stmt) (N:List Str) (f:Addr) (R:TS):Prop :=
 ∀ {bU:Value}{A:Around}{outer:List Env}{s:Shared}{H:Hp}{E:XK},bG k (A.deeper (envOfC q (aW st) s.heap.objs.size f bU))->j7 (lB dw P w K mg base N q (aW st) f bU A outer s H E).qA (lE st) R
noncomputable abbrev TX (P:Program) (w:World) (K:ZrF) (mg:Str->Option Value) (base:Heap) (k:Nat) (q:Str) (st:Stmt) (N:List Str) (f:Addr) (R:XK->TS):Prop :=
 ∀ {bU:Value}{A:Around}{outer:List Env}{s:Shared}{H:Hp}{E:XK},bG k (A.deeper (envOfC q (aW st) s.heap.objs.size f bU))->j7 (lB (gZ P w) P w K mg base N q (aW st) f bU A outer s H E) (lE st) (R E)
section
variable {P:Program}{w:World}{K:ZrF}{mg:Str->Option Value}{base h:Heap}{x q:Str}{st:Stmt}{ps N:List Str}{f c:Addr}{d:FuncData}{k:Nat}{sp:Sp}
theorem kJ.dO {R:TS} (F:kJ K x q st f d) (S:ak N ps (aW st)) (tm:TM P w K mg base k q st N f R) (len:∀ vs H Q E,sp vs H Q E->vs.length=ps.length)
  (hb:∀ H vs Q E,sp vs H Q E->R { nx:=fun _ H'=>Q .non H',rt:=Q } (start N vs) H):aG P w K mg base dw (k+1) f d ps sp :=
 F.ok S len fun _ _ _ _ H vs Q E hr h=>⟨R,tm hr,hb H vs Q E h⟩
theorem kJ.iO {R:XK->TS} (F:kJ K x q st f d) (S:ak N ps (aW st)) (tm:TX P w K mg base k q st N f R) (len:∀ vs H Q E,sp vs H Q E->vs.length=ps.length)
  (hb:∀ H vs Q E,sp vs H Q E->R E { nx:=fun _ H'=>Q .non H',rt:=Q } (start N vs) H):aG P w K mg base (gZ P w) (k+1) f d ps sp :=
 F.okX S len fun _ _ _ _ H vs Q E hr h=>⟨R E,tm hr,hb H vs Q E h⟩
end
section
variable {X:Cx}{CX:lF}{k:Nat}{f C:Addr}{fd:FuncData}{ps:List Str}{sp:Sp}{x:Str}{st:Stmt}{E:XK}{e o:Expr}{es:List Expr}{t:TA}{p pos apos:Pos}{ta:TE}
theorem hm {j k:Nat}{A:Around} (hr:bG k A) (h:j<=k:=by decide):bG j A:=hr.mono h
theorem cK (T:FT X.K X.mg x st ps f fd) (F:aG X.prog X.w X.K X.mg X.base CX k f fd ps sp) (hr:bG k X.A) (hx:qH CX X E)
  (ha:PA X (e :: es) t) (hg:Gl X x:=by rfl) (lS:(x == ("__debug__" : Str))=false:=by decide) (he:starEach (e :: es) X.env=(false,eval e X.env) :: starEach es X.env:=by rfl) (jA:(backTo pos (starEach es X.env)).any (·.1)=false:=by rfl) :
  PE X (.Call (.Name x p) (e :: es) [] pos) (cB sp [] E t):=JL F hr hg T.m T.n.kp T.b .nil hx ha lS he jA
end
end L2
set_option maxHeartbeats 4000000
namespace DT
open PySem
section
variable {prog:Program}{w:World}{A:Around}{E:Value->Shared->Prop}{s:Shared}{d it:Addr}{od:Obj}{es:Array DictEntry}{ep i:Nat}
end
end DT
namespace L2
open PySem PySem.Spec PyProof.Rows
section
variable {X:Cx}{pins:List (Addr × Obj)}{σ:St}{H:Hp}{s:Shared}{d:Addr}{kvs:List (List Key × V)}{o:Obj}
theorem Inv.dT (I:Inv X pins σ H s) (e:Rd H d (.dT kvs)):kvs.length<=sizeLine/\(d == sysModules)=false/\∃ (xs:List (List Key × Addr × Value)) (od:Obj) (es:Array DictEntry) (ep:Nat),KT H kvs xs/\s.heap.get? d=some od/\od.ExactDict/\od.data=.dict es ep/\es.size=kvs.length /\
  ∀ (i:Nat) p,kvs[i]? = some p->∃ (b:Addr) (h:Int) (v:Value),es[i]? = some ⟨h,.ref b,v⟩/\H b=some (.tup (p.1.map kV)):=by
 obtain ⟨z,y,xs,r,od,es,ep,h1,h2,h3,h4,h5⟩:=(show eR X.prog X.w H s.heap d (.dT kvs) from N5 I.aB e)
 have hl:kvs.length=xs.length:=Paired.length r
 have hs:es.size=kvs.length:=by rw [hl,<- Zug,h4,Zsh]
 refine ⟨z,y,xs,od,es,ep,r,h1,h2,h3,hs,fun i p hp=>?_⟩
 have at_:∀ {l:List (List Key × V)}{m:List (List Key × Addr × Value)}{j:Nat}{q:List Key × V},KT H l m->l[j]? = some q->∃ x,m[j]? = some x/\H x.2.1=some (.tup (q.1.map kV)):=by
  intro l m j q t
  induction t generalizing j with
  | nil=>intro z;simp at z
  | @cons a b as bs hq _ ih =>
   intro z
   cases j with
   | zero =>
    have:a=q:=by simpa using z
    subst this
    exact ⟨b,rfl,hq.2.1⟩
   | succ j=>exact ih (by simpa using z)
 obtain ⟨x,hx,hH⟩:=at_ r hp
 have:es[i]? = some (entryOfKey (tupleKind (ij X.prog X.w)) x):=by rw [<- Zuj,h4,Zsu,hx];rfl
 exact ⟨x.2.1,_,_,this,hH⟩
end
section
variable {X:Cx}{pins:List (Addr × Obj)}{σ:St}{H:Hp}{s:Shared}
theorem lg.fl {b:Addr} (h:lg X pins H b):o7 X pins H b:=⟨h.1,h.2.1,h.2.2.1,h.2.2.2.1.imp id fun z=>by
 cases e:X.s₀.heap.get? b with
 | none=>rfl
 | some o=>exact absurd (Heap.lt_size e) (Nat.not_lt.mpr z),h.2.2.2.2.1,h.2.2.2.2.2⟩
theorem Inv.adopt {e:Addr}{o:HO} (I:Inv X pins σ H s) (fe:o7 X pins H e) (ok:eR X.prog X.w (upd H e o) s.heap e o):Inv X pins σ (upd H e o) s:=by
 have ne:∀ {b u},H b=some u->b≠e:=fun {b u} h z=>by rw [z,fe.1] at h;cases h
 have up:∀ {b u},H b=some u->upd H e o b=some u:=fun {b u} h=>(aE (ne h)).trans h
 refine ⟨I.ok,I.os,I.bare,⟨I.base.keep,I.base.slot,fun b o e1 n hx=>?_,I.base.there,fun b xs h=>up (I.base.hZ b xs h),fun b o u h=>up (I.base.gE b o u h),fun b ps h=>?_⟩,I.loc,I.cell,(aE (Ne.symm fe.2.1)).trans I.free,fun x c h=>(aE (fe.2.2.2.2.1 x c h)).trans (I.dr x c h),fun p hp=>?_,fun b u h=>?_,I.len⟩
 ·refine (aE fun z=>?_).trans (I.base.free b o e1 n hx)
  rcases fe.2.2.2.1 with y | y
  ·exact hx (z ▸ y)
  ·rw [z,y] at e1;cases e1
 ·obtain ⟨more,q⟩:=I.base.gX b ps h
  exact ⟨more,up q⟩
 ·obtain ⟨a1,a2,a3⟩:=I.pin p hp
  exact ⟨a1,(aE (fe.2.2.2.2.2 p hp)).trans a2,a3⟩
 ·by_cases hb:b=e
  ·rw [hb,bR] at h
   cases h
   rw [hb]
   exact ok
  ·rw [aE hb] at h
   exact (I.aB b u h).i5 (fun c v _ q=>q) (fun c q=>up q) fun c xs q=>up q
theorem Inv.mJ {h':Heap}{t':Nat}{l:List Addr} (I:Inv X pins σ H s) (hl:∀ b∈l,lg X pins H b) (k:∀ b o,b ∉ l->s.heap.get? b=some o->h'.get? b=some o):Inv X pins σ H { s with heap:=h',toks:=t' }:=by
 have sR:∀ b u,H b=some u->b ∉ l:=fun b u e z=>by rw [(hl b z).1] at e;cases e
 refine I.step (g':=s.gens) (d':=s.drawn) (ch:=l) (fun b hb=>?_) (fun b o _ _ hc e _=>k b o hc e) (fun b o _ _ hc e _=>⟨o.slots,k b o hc e⟩) (fun _ _ _ _ n=>n)
  (fun b o hc e=>⟨o,k b o hc e⟩) (fun _ _ e=>e) (fun _ _ _ e=>e) (fun b ps e=>⟨#[],by rw [e];simp⟩) (fun m hm=>?_) (fun b u e=>?_) I.bare
 ·obtain ⟨f0,f1,f2,f3,f4,f5⟩:=hl b hb
  exact ⟨f3,f1,f4,f5⟩
 ·obtain ⟨o,es,ep,ho,r⟩:=hm
  exact ⟨o,es,ep,k _ o (fun z=>(hl _ z).2.1 rfl) ho,r⟩
 ·refine (I.aB b u e).i5 (fun c v hc q=>k c v ?_ q) (fun _ q=>q) fun _ _ q=>q
  rcases hc with z | z
  ·rw [z];exact sR b u e
  ·exact sR c _ z
end
noncomputable def G4 (K:ZrF) (l1 l2:Addr):It :=
  ⟨fun i H=>∃ xs ys x y,bg K H l1 xs/\bg K H l2 ys/\xs[i]? = some x/\ys[i]? = some y,
   fun i H v H'=>∃ T x y,v=.ref T/\H T=none/\H'=upd H T (.tup [x,y])/\(∀ xs,bg K H l1 xs->xs[i]? = some x)/\(∀ ys,bg K H l2 ys->ys[i]? = some y),
   fun i H=>∃ xs ys,bg K H l1 xs/\bg K H l2 ys/\(xs.length<=i\/ys.length<=i)⟩
theorem WJ {P:Program}{w:World}{K:ZrF}{elts:List Expr}{k:Nat}{pos:Pos} (l1 l2 z TI TO i1 i2:Addr) (ap:ZipApart z TI TO i1 i2 l1 l2) :
    Turn P w K (.Tuple elts k pos) (G4 K l1 l2) [z,TI,TO,i1,i2] z (fun i h=>IsZip h z TI TO .none/\IsPair h TI (.ref i1) (.ref i2)/\(∃ a b,IsPair h TO a b)/\h.IsListIter i1 l1 i/\h.IsListIter i2 l2 i) where
  mem:=by simp
  obj:=fun i h ⟨a1,a2,⟨x,y,a3⟩,a4,a5⟩ b hb=>by
    simp only [Zst,Zs3,or_false] at hb
    rcases hb with rfl | rfl | rfl | rfl | rfl
    · exact ⟨_,a1,fun v z=>nomatch z⟩
    · exact ⟨_,a2,fun v z=>nomatch z⟩
    · exact ⟨_,a3,fun v z=>nomatch z⟩
    · obtain ⟨o,e,c,d⟩:=a4
      exact ⟨o,e,fun v z=>by rw [d] at z;cases z⟩
    · obtain ⟨o,e,c,d⟩:=a5
      exact ⟨o,e,fun v z=>by rw [d] at z;cases z⟩
  keep:=fun i h h' ⟨a1,a2,⟨x,y,a3⟩,a4,a5⟩ k=>⟨k _ (by simp) _ a1,k _ (by simp) _ a2,⟨x,y,k _ (by simp) _ a3⟩,a4.at fun o e=>k _ (by simp) o e,a5.at fun o e=>k _ (by simp) o e⟩
  item:=by
    intro X hP hw hK hc i pins s σ H E I hf st hg
    subst hP hw hK
    obtain ⟨xs,ys,x,y,hq1,hq2,hx,hy⟩:=hg
    obtain ⟨its1,rv1,p1,hz1⟩:=I.list hq1
    obtain ⟨its2,rv2,p2,tq⟩:=I.list hq2
    obtain ⟨u1,hu1,ru1⟩:=rv1.get hx
    obtain ⟨u2,hu2,ru2⟩:=rv2.get hy
    obtain ⟨sa,sb,sc,sd,se⟩:=st
    have W:=WalksT.zip2 (prog:=X.prog) (w:=X.w) (I.ok.hd hc) z TI TO i1 i2 l1 l2 ap its1.toArray its2.toArray
    have n1:i<its1.length:=(Zsk.mp hu1).1
    have n2:i<its2.length:=(Zsk.mp hu2).1
    have hw:∀ b∈[z,TO,i1,i2],lg X pins H b:=fun b hb=>hf b (W.sub b hb |> fun _=>by simp only [Zst,Zs3,or_false] at hb ⊢;rcases hb with h | h | h | h <;> simp [h])
    refine W.item i s _ _ (by simp;omega) ⟨sa,sb,sc,sd,se,p1.isList,p2.isList⟩ fun T vals h' tk hv hT it mid kp=>?_
    obtain ⟨x',y',e1,e2,rfl⟩:=hv
    have q1 : x' = u1 := by have : its1[i]? = some x' := by simpa using e1
                            rw [hu1] at this;cases this;rfl
    have q2 : y' = u2 := by have : its2[i]? = some y' := by simpa using e2
                            rw [hu2] at this;cases this;rfl
    subst q1 q2
    have aT:=W.apart i T h' mid
    refine ⟨.ref T,rfl,W.go elts k pos i T _ _ _ mid fun h'' st'' kp''=>?_⟩
    have I1:Inv X pins σ H { s with heap:=h'',toks:=tk }:=I.mJ hw fun b o hb e=>kp'' b o hb (kp b o hb e)
    have fT:H T=none:=I.aB.fresh hT
    obtain ⟨oT,gT,cT,dT⟩:=it
    have ok:eR X.prog X.w (upd H T (.tup [x,y])) h'' T (.tup [x,y]):=⟨by show 2<=sizeLine;decide,[x',y'],.cons ru1 (.cons ru2 .nil),show h''.IsTuple T #[x',y'] from ⟨oT,kp'' T oT aT gT,cT,dT⟩⟩
    obtain ⟨b1,b2,b3,b4,b5,_,_⟩:=st''
    refine ⟨.ref T,_,I1.adopt (s:={ s with heap:=h'',toks:=tk }) (I.lV hT fT).fl ok,rfl,⟨T,x,y,rfl,fT,rfl,fun zs hz=>by rw [I.jg hz hq1];exact hx,fun zs hz=>by rw [I.jg hz hq2];exact hy⟩,⟨b1,b2,b3,b4,b5⟩,fun b hb=>?_⟩
    have Zz:b≠T:=fun e=>by
      obtain ⟨ra,rb,sc⟩:=sc
      obtain ⟨o4,s4,_⟩:=sd
      obtain ⟨o5,s5,_⟩:=se
      have:∃ o,s.heap.get? b=some o:=by
        simp only [Zst,Zs3,or_false] at hb
        rcases hb with rfl | rfl | rfl | rfl | rfl
        · exact ⟨_,sa⟩
        · exact ⟨_,sb⟩
        · exact ⟨_,sc⟩
        · exact ⟨_,s4⟩
        · exact ⟨_,s5⟩
      obtain ⟨o,ho⟩:=this
      have:=Heap.lt_size ho
      rw [e] at this
      exact absurd this (Nat.not_lt.mpr hT)
    rw [aE Zz]
    exact (hf b hb).1
  done:=by
    intro X hP hw hK hc i pins s σ H E I hf st hg
    subst hP hw hK
    obtain ⟨xs,ys,hq1,hq2,hlen⟩:=hg
    obtain ⟨its1,rv1,p1,hz1⟩:=I.list hq1
    obtain ⟨its2,rv2,p2,tq⟩:=I.list hq2
    obtain ⟨sa,sb,⟨a,b,sc⟩,sd,se⟩:=st
    have l1:=rv1.length
    have l2:=rv2.length
    have hw:∀ b∈[z,TO,i1,i2],lg X pins H b:=fun b hb=>hf b (by simp only [Zst,Zs3,or_false] at hb ⊢;rcases hb with h | h | h | h <;> simp [h])
    refine wpAny_pyNext_zip_end (I.ok.hd hc) ap sa sb sc sd se p1.isList p2.isList (hlen.imp (fun h=>by simp;omega) fun h=>by simp;omega) fun h' kp=>⟨rfl,I.mJ (t':=s.toks) hw fun b o hb e=>?_⟩
    simp only [Zst,Zs3,or_false,not_or] at hb
    exact kp b o hb.1 hb.2.1 hb.2.2.1 hb.2.2.2 e
  self:=fun _ _ _ _ _ st h=>wpAny_pyIter_zip st.1 h
theorem Y4 (n l1 l2:Nat) (h1:l1<n) (h2:l2<n):ZipApart (n+4) (n+2) (n+3) n (n+1) l1 l2:=by
 constructor <;> first | exact ZtP (by omega) | exact ZtK (by omega)
noncomputable def qY (K:ZrF) (ta:TA):TI:=fun σ H R=>ta σ H fun vs H1=>∃ a b:Addr,vs=[.ref a,.ref b]/\(∃ xs,bg K H1 a xs)/\(∃ ys,bg K H1 b ys)/\R (G4 K a b) H1
theorem xl {X:Cx}{elts:List Expr}{k:Nat}{tp:Pos}{a b:Expr}{ta:TA}{p pos:Pos} (hg:Gl X "zip") (hm:X.mg "zip" = none) (ha:PA X [a,b] ta) (hs:starEach [a,b] X.env=[(false,eval a X.env),(false,eval b X.env)]:=by rfl) (pV:starEach [b] X.env=[(false,eval b X.env)]:=by rfl) :
  PI X (.Tuple elts k tp) (.Call (.Name "zip" p) [a,b] [] pos) (qY X.K ta):=by
 intro pins s σ H R I h
 refine Call_ (qJ I hg hm PyProof.Rows.boot_zip (PyProof.Rows.callWith_type1 (aV (ha pos pins s σ H _ I h) fun us s1 ⟨vs,H1,I1,r1,q1⟩=>?_) (by rw [hs,pV]) (by rw [pV];rfl)))
 obtain ⟨l1,l2,e,⟨xs,h1⟩,⟨ys,h2⟩,q⟩:=q1
 subst e
 obtain ⟨u1,u2,rfl,e1,e2⟩:=zS r1
 cases e1;cases e2
 obtain ⟨its1,rv1,p1,hz1⟩:=I1.list h1
 obtain ⟨its2,rv2,p2,tq⟩:=I1.list h2
 refine call_zip_2 p1.isList p2.isList fun h' a1 a2 a3 a4 a5 hsz kp=>?_
 have n1:l1<s1.heap.objs.size:=by obtain ⟨o,e,_⟩:=p1.isList;exact Heap.lt_size e
 have n2:l2<s1.heap.objs.size:=by obtain ⟨o,e,_⟩:=p2.isList;exact Heap.lt_size e
 refine wpAny_pyIter_zip a1 ?_
 generalize hn:s1.heap.objs.size=n at *
 refine ⟨n+4,[n+4,n+2,n+3,n,n+1],_,_,H1,rfl,I1.kept (t':=s1.toks) kp,WJ l1 l2 (n+4) (n+2) (n+3) n (n+1) ?_,⟨a1,a2,⟨_,_,a3⟩,a4,a5⟩,fun b hb=>?_,q⟩
 ·exact Y4 n l1 l2 n1 n2
 ·have hb':n<=b:=by
   simp only [Zst,Zs3,or_false] at hb
   rcases hb with rfl | rfl | rfl | rfl | rfl
   ·exact Zt3 n 4
   ·exact Zt3 n 2
   ·exact Zt3 n 3
   ·exact ZtJ _
   ·exact Zt3 n 1
  exact I1.lV (by rw [hn];exact hb') (I1.aB.fresh (by rw [hn];exact hb'))
theorem Zc {K:ZrF}{ta:TA}{g:TG}{tb:TS}{D:Ends}{σ:St}{H:Hp}:fP (qY K ta) g tb D σ H=ta σ H (fun vs H1=>∃ a b:Addr,vs=[.ref a,.ref b]/\(∃ xs,bg K H1 a xs)/\(∃ ys,bg K H1 b ys)/\oi (G4 K a b) g tb D σ H1):=rfl
noncomputable def rG (hi:Int) (n:Nat):It:=⟨fun i _=>i<n,fun i H x H'=>H'=H/\x=.int (hi - i),fun i _=>n<=i⟩
theorem X3 {P:Program}{w:World}{K:ZrF}{tg:Expr} (it:Addr) (hi:Int) (n:Nat):Turn P w K tg (rG hi n) [it] it (fun i h=>IsRangeIter h it (hi+(i:Nat) * (-1)) ((n:Int) - (i:Nat)) (-1)) where
 mem:=by simp
 obj:=fun i h st b hb=>by
  have e:b=it:=by simpa using hb
  subst e
  exact ⟨_,st,fun v z=>by
   have z':Data.fields _=Data.cell v:=z
   cases z'⟩
 keep:=fun i h h' st k=>k it (by simp) _ st
 item:=by
  intro X hP hw hK hc i pins s σ H E I hf st hg
  subst hP hw hK
  obtain ⟨f0,f1,f2,f3,f4,f5⟩:=hf it (by simp)
  have W:=Walks.range (prog:=X.prog) (w:=X.w) (I.ok.hd hc) it hi (-1) n
  refine W.item i s _ _ hg st fun v h' tk hv st' kk=>?_
  obtain ⟨t,rfl⟩:=hv
  have I1:Inv X pins σ H { s with heap:=h',toks:=tk }:=I.turned (fun b o hb e=>kk b o (by simpa using hb) e) f0 f1 f3 f4 f5
  refine ⟨_,rfl,HL (s:={ s with heap:=h',toks:=tk }) (n:="range_iterator") st' rfl rfl (by decide) ⟨.int (hi - i),H,I1,⟨t,?_⟩,⟨rfl,rfl⟩,st',fun b hb=>(hf b hb).1⟩⟩
  congr 1
  omega
 done:=by
  intro X hP hw hK hc i pins s σ H E I hf st hg
  subst hP hw hK
  obtain ⟨f0,f1,f2,f3,f4,f5⟩:=hf it (by simp)
  exact wpAny_pyNext_range_end (I.ok.hd hc) st (by have:n<=i:=hg;omega) fun h' eb=>⟨rfl,I.turned (t':=s.toks) (fun b o hb e=>eb b o hb e) f0 f1 f3 f4 f5⟩
 self:=fun _ _ _ _ _ st h=>wpAny_pyIter_rangeiter st h
theorem A9 {a:Int} (h1 : -(2 ^ 63)<=a) (h2:a<2 ^ 63):Builtin.Range.rangeFitsLong a=true:=by
 unfold Builtin.Range.rangeFitsLong
 simp
 omega
theorem Zmb {a b:Int} (h1 : -(2 ^ 62)<=a) (h2:a<2 ^ 62) (h3 : -(2 ^ 62)<=b) (h4:b<2 ^ 62):Builtin.Range.small a b (-1)=true:=by
 unfold Builtin.Range.small
 rw [Zr6,A9 (by omega) (by omega),A9 (by omega) (by omega),A9 (by decide) (by decide),A9 (a:=((a - b).toNat:Int)) (by omega) (by omega),if_neg (by decide),A9 (a:=b+(-1+1)) (by omega) (by omega)]
 simp
section
variable {X:Cx}{tg:Expr}
noncomputable def HA (ta:TA):TI:=fun σ H R=>ta σ H fun vs H1=>∃ i j:Int,vs=[.int i,.int j,.int (-1)]/\(-(2 ^ 62)<=i/\i<2 ^ 62 /\ -(2 ^ 62)<=j/\j<2 ^ 62)/\R (rG i (i - j).toNat) H1
theorem Vt {a b c:Expr}{ta:TA}{p pos:Pos} (hg:Gl X "range") (hm:X.mg "range" = none) (ha:PA X [a,b,c] ta) (hs:starEach [a,b,c] X.env=[(false,eval a X.env),(false,eval b X.env),(false,eval c X.env)]:=by rfl) (pV:starEach [b,c] X.env=[(false,eval b X.env),(false,eval c X.env)]:=by rfl) :
  PI X tg (.Call (.Name "range" p) [a,b,c] [] pos) (HA ta):=by
 intro pins s σ H R I h
 refine Call_ (qJ I hg hm boot_range (PyProof.Rows.callWith_type1 (aV (ha pos pins s σ H _ I h) fun us s1 ⟨vs,H1,I1,r1,q1⟩=>?_) (by rw [hs,pV]) (by rw [pV];rfl)))
 obtain ⟨lo,hi,e,⟨q1,q2,q3,q4⟩,q⟩:=q1
 subst e
 cases r1 with
 | cons r rr =>
 cases rr with
 | cons r' rr =>
 cases rr with
 | cons r'' rr =>
 cases rr
 obtain ⟨t,rfl⟩:=r
 obtain ⟨u,rfl⟩:=r'
 obtain ⟨v,rfl⟩:=r''
 refine call_range_3 (by decide) ?_ (.inl (by unfold Builtin.divisionGoesByPylong;simp;intro z;exact absurd z (by decide)))
 refine wpAny_pyIter_range (IsRange.new ..) (Zmb q1 q2 q3 q4) ?_
 have I2:Inv X pins σ H1 { s1 with heap:=s1.heap.push { cls:=.type "range",data:=.fields #[.int lo t,.int hi u,.int (-1) v] },toks:=s1.toks }:=I1.kept fun b o e=>Heap.get?_push_of_some _ e
 refine ⟨(s1.heap.push { cls:=.type "range",data:=.fields #[.int lo t,.int hi u,.int (-1) v] }).objs.size,[(s1.heap.push { cls:=.type "range",data:=.fields #[.int lo t,.int hi u,.int (-1) v] }).objs.size],_,_,H1,rfl,
  I2.kept (t':=s1.toks) fun b o e=>Heap.get?_push_of_some _ e,X3 _ lo (lo - hi).toNat,?_,fun b hb=>?_,q⟩
 ·show IsRangeIter _ _ (lo+((0:Nat):Int) * (-1)) ((((lo - hi).toNat:Nat):Int) - ((0:Nat):Int)) (-1)
  rw [Zr6,show lo+((0:Nat):Int) * (-1)=lo by omega,show ((((lo - hi).toNat:Nat):Int) - ((0:Nat):Int))=((lo - hi).toNat:Int) by omega]
  exact Heap.get?_push_size _ rfl
 ·have e:b=(s1.heap.push { cls:=.type "range",data:=.fields #[.int lo t,.int hi u,.int (-1) v] }).objs.size:=by simpa using hb
  subst e
  exact I2.lV (ZtJ _) (I2.aB.fresh (ZtJ _))
end
end L2
set_option maxHeartbeats 4000000
namespace RR
open PySem
section
variable {prog:Program}{w:World}{A:Around}{E:Value->Shared->Prop}{s:Shared}
end
end RR
namespace L2
open PySem PySem.Spec PyProof.Rows
section
variable {X:Cx}{tg:Expr}
end
section
variable {K:ZrF}{ta:TA}{g:TG}{tb:TS}{D:Ends}{σ:St}{H:Hp}
theorem Xx:fP (HA ta) g tb D σ H=ta σ H (fun vs H1=>∃ i j:Int,vs=[.int i,.int j,.int (-1)]/\(-(2 ^ 62)<=i/\i<2 ^ 62 /\ -(2 ^ 62)<=j/\j<2 ^ 62)/\oi (rG i (i - j).toNat) g tb D σ H1):=rfl
theorem Tj {hi:Int}{n:Nat} (Pv:Nat->St->Hp->Prop) (h0:Pv 0 σ H) (hs:∀ (i:Nat) σ H,i<n->Pv i σ H->g (.int (hi - i)) σ H fun σ2 H2=>tb { D with nx:=Pv (i+1),ct:=Pv (i+1),bk:=D.nx } σ2 H2) (hd:∀ σ H,Pv n σ H->D.nx σ H):oi (rG hi n) g tb D σ H:=by
 refine ⟨fun i m σ H=>i+m=n/\Pv i σ H,⟨n,by omega,h0⟩,fun i m σ H ⟨hm,hp⟩=>?_⟩
 by_cases hi':i<n
 ·refine .inr ⟨hi',Pv (i+1),fun σ' H' h=>⟨m - 1,by omega,by omega,h⟩,fun x H' ⟨e1,e2⟩=>?_⟩
  subst e1 e2
  exact hs i σ _ hi' hp
 ·have:i=n:=by omega
  subst this
  exact .inl ⟨ZtJ _,hd σ H hp⟩
end
noncomputable def Hx:R2:=fun x y H Q=>match x,y with
 | .ref l,.int k=>∃ xs,H l=some (.lst xs) /\ -(2 ^ 63)<=k/\k<2 ^ 63/\xs.length * k.toNat<=sizeLine/\∀ p H',fM H p (.lst (Zsp k.toNat xs).flatten) H'->Q (.ref p) H'
 | _,_=>False
theorem QU {X:Cx}:ck X (binaryOp .Mult) Hx:=yz.imp fun x y H Q h=>by
  cases x <;> cases y <;> first
    | exact False.elim h
    | (obtain ⟨xs,h1,h2,h3,h4,q⟩:=h
       exact ⟨_,_,xs,rfl,rfl,h1,h2,h3,h4,fun p hp=>q p _ ⟨hp,rfl⟩⟩)
theorem QD (v:V) (n:Nat):(Zsp n [v]).flatten=Zsp n v:=by
 induction n with
 | zero=>rfl
 | succ n ih=>rw [ZsZ,Zth,ih,ZsZ];rfl
end L2
set_option maxHeartbeats 4000000
namespace RV
open PySem
section
variable {prog:Program}{w:World}{A:Around}{E:Value->Shared->Prop}{s:Shared}
end
end RV
namespace L2
open PySem PySem.Spec PyProof.Rows
end L2
set_option maxHeartbeats 4000000
namespace L2
open PySem PySem.Spec PyProof.Rows PySem.W
end L2
set_option maxRecDepth 20000
namespace L2
open PySem PySem.Spec PyProof.Rows
variable {X:Cx}
structure PL (H:Hp) (p:Addr) (es:List En):Prop where
 lst:H p=some (.lst (es.map fun e=>V.ref e.1))
 tup:∀ e∈es,H e.1=some (.tup [.int e.2.1,.int e.2.2])
end L2
set_option maxRecDepth 20000
namespace L2
open PySem PySem.Spec PyProof.Rows
variable {X:Cx}
structure PN (H:Hp) (p:Addr) (n:Nat) (es:List En):Prop where
 lst:H p=some (.lst (Zsp n V.non ++ es.map fun e=>V.ref e.1))
 tup:∀ e∈es,H e.1=some (.tup [.int e.2.1,.int e.2.2])
end L2
set_option maxHeartbeats 4000000
namespace DT
open PySem
end DT
namespace L2
open PySem PySem.Spec PyProof.Rows
theorem NO {α β:Type}{F:α->β->Prop}:∀ {l:List α}{m:List β},Paired F l m->∀ {i:Nat}{q:β},m[i]? = some q->∃ p,l[i]? = some p/\F p q
 | _,_,.nil,i,q,h=>by simp at h
 | _,_,.cons h t,0,q,e=>by
  rw [Ztk] at e
  cases e
  exact ⟨_,rfl,h⟩
 | _,_,.cons h t,i+1,q,e=>by
  rw [Zs9] at e
  obtain ⟨p,a,b⟩:=NO t e
  exact ⟨p,by rw [Zs9];exact a,b⟩
noncomputable def uI (H:Hp) (kvs:List (List Key × V)) (bs:List Addr):Prop:=bs.length=kvs.length/\∀ (i:Nat) (p:List Key × V),kvs[i]? = some p->∃ b,bs[i]? = some b/\H b=some (.tup (p.1.map kV))
noncomputable def LI (_:ZrF):List V->Hp->VK->Prop:=fun vs H Q=>match vs with
 | [.ref p]=>∃ kvs,Rd H p (.dT kvs)/\∀ bs l H',uI H kvs bs->fM H l (.lst (bs.map V.ref)) H'->Q (.ref l) H'
 | _=>False
noncomputable def NP (_:ZrF):List V->Hp->VK->Prop:=fun vs H Q=>match vs with
 | [.ref p]=>∃ kvs,Rd H p (.dK kvs)/\∀ l H',fM H l (.lst (kvs.map fun kv=>kV kv.1)) H'->Q (.ref l) H'
 | _=>False
theorem tu {P:Program}{w:World}{k:Key}{u:Value} (r:(ij P w).is k u=true):bf (kV k) u:=by
 rcases qh r with ⟨i,t,rfl,rfl⟩ | ⟨x,t,rfl,rfl⟩
 ·exact ⟨t,rfl⟩
 ·exact ⟨t,rfl⟩
theorem Zrp {X:Cx} (hc:X.calm=true):jE X (.type "list") (NP X.K):=by
 intro pins s σ H xs us Q I r h
 match xs,h with
 | [.ref p],h =>
  obtain ⟨kvs,e,q⟩:=h
  obtain ⟨u1,rfl,e1⟩:=qD r
  cases e1
  obtain ⟨z,y,vs,rel,dd⟩:=qe I.aB e
  obtain ⟨ep,hat⟩:=dd.dictAt
  have hlen:=rel.length
  refine PySem.W.kdl_call (PySem.W.kdl_dict (knd:=ij X.prog X.w) (kvs:=vs) (ep:=ep) y) (I.ok.hd hc) hat (by omega) fun h' tk acc c kp hl ⟨ha,hb⟩=>?_
  have key:∀ n,n<=kvs.length->Vals ((kvs.take n).map fun kv=>kV kv.1) (acc.toList.take n):=by
   intro n
   induction n with
   | zero=>intro _;rw [Zta,Zta];exact .nil
   | succ n ih =>
    intro hn
    have GQ:n<acc.size:=by omega
    obtain ⟨k,x,hk,hv⟩:=hb n acc[n] (Zui GQ)
    obtain ⟨p',g1,g2⟩:=NO rel hk
    rw [ZsK,ZsK,show acc.toList[n]? = some acc[n] by simp [GQ],g1,Zss]
    exact Paired.snoc (ih (by omega)) (show bf (kV p'.1) acc[n] by rw [g2.1];exact tu hv)
  have b3:=key kvs.length (ZtJ _)
  rw [ZsI,Ztn (by rw [Zug];omega)] at b3
  have hl':h'.get? s.heap.objs.size=some { cls:=.type "list",dict:=none,data:=.seq acc.toList.toArray c,slots:=#[] }:=by rw [Zul];exact hl
  exact ⟨.ref s.heap.objs.size,_,I.laid (t':=tk) kp (ZtJ _) (show eR X.prog X.w _ h' _ (.lst (kvs.map fun kv=>kV kv.1)) from ⟨by rw [Zsh];omega,acc.toList,c,b3,hl'⟩),rfl,q _ _ ⟨I.aB.fresh (ZtJ _),rfl⟩⟩
theorem Zmt {σ:St}{sel:List Nat}{rest:St}{H:Hp}{tt:TT}{te:TE}{Q:VK}{lo:Int}{n:Nat} (q:Nat->Bool) (f:Nat->V) (hr:sel.map (fun j=>(σ[j]?).join)=rest) (hz:n<=sizeLine)
  (ht:∀ (i:Nat) H' (Q':Bool->Hp->Prop),i<n->aQ H H'->Q' (q i) H'->tt (some (.int (lo+i)) :: rest) H' Q')
  (he:∀ (i:Nat) H' (Q':VK),i<n->q i=true->aQ H H'->Q' (f i) H'->te (some (.int (lo+i)) :: rest) H' Q') (hQ:∀ p H',fM H p (.lst (((Zsj n).filter q).map f)) H'->Q (.ref p) H'):oH (lH lo n) σ 1 sel (aC 0) tt te Q H:=by
 intro p hp
 refine zR (n:=n) (item:=fun i=>.int (lo+i)) (fun i H2=>H2=upd H p (.lst (((Zsj i).filter q).map f))) hr (by simp) Yu ?_ ?_ ?_
 ·rintro H2 rfl
  exact ZtJ _
 ·rintro i H2 R hi rfl hR
  refine ht i _ _ hi (iy hp) ?_
  cases hq:q i with
  | true =>
   rw [if_pos rfl]
   refine he i _ _ hi hq (iy hp) ⟨_,bR,?_,hR _ ?_⟩
   ·rw [Zsh]
    have:=Zs2 q (Zsj i)
    rw [ZsF] at this
    omega
   ·rw [HR,Zs4,Zs0,Zss,ZsO,if_pos hq]
    rfl
  | false =>
   rw [if_neg (by simp)]
   refine hR _ ?_
   rw [Zs4,Zs0,Zss,ZsO,if_neg (by rw [hq];simp),Ztm,ZsY,ZsT]
 ·rintro H2 rfl
  exact hQ p _ ⟨hp,rfl⟩
theorem Vk {q:Nat->Bool}{n N i:Nat} (h:((Zsj n).filter q).length=i) (hn:n<N) (hq:q n=true):((Zsj N).filter q)[i]? = some n:=by
 have e:Zsj N=Zsj n ++ (Zsj (N - n)).map (n + ·):=by rw [<- List.range_add,show n+(N - n)=N by omega]
 rw [e,Zs0,ZsC (by omega),h,ZtQ]
 obtain ⟨k,hk⟩:∃ k,N - n=k+1:=⟨N - n - 1,by omega⟩
 rw [hk,List.range_succ_eq_map,Zsw,ZsO,if_pos (by simpa using hq)]
 simp
theorem ZkS {K:ZrF}{p:Addr}{N:Nat}{q:Nat->Bool}{f:Nat->V}{g:TG}{tb:TS}{D:Ends}{σ:St}{H:Hp} (Pv:Nat->St->Hp->Prop) (h0:Pv 0 σ H) (hk:∀ n σ H,n<=N->Pv n σ H->bg K H p (((Zsj N).filter q).map f))
  (hn:∀ n σ H,n<N->q n=false->Pv n σ H->Pv (n+1) σ H)
  (hs:∀ n σ H (M:St->Hp->Prop),n<N->q n=true->Pv n σ H->(∀ σ' H',Pv (n+1) σ' H'->M σ' H')->g (f n) σ H fun σ2 H2=>tb { D with nx:=M,ct:=M,bk:=D.nx } σ2 H2) (hd:∀ σ H,Pv N σ H->D.nx σ H):oi (kD K p) g tb D σ H:=by
 have up:∀ (d n:Nat) (σ:St) (H:Hp) (i:Nat),N - n=d->n<=N->((Zsj n).filter q).length=i->Pv n σ H->(∃ n',n'<N/\q n'=true/\((Zsj n').filter q).length=i/\Pv n' σ H)\/(((Zsj N).filter q).length=i/\Pv N σ H):=by
  intro d
  induction d with
  | zero =>
   intro n σ H i e hl hf hP
   have:n=N:=by omega
   subst this
   exact .inr ⟨hf,hP⟩
  | succ d ih =>
   intro n σ H i e hl hf hP
   cases hq:q n with
   | true=>exact .inl ⟨n,by omega,hq,hf,hP⟩
   | false =>
    refine ih (n+1) σ H i (by omega) (by omega) ?_ (hn n σ H (by omega) hq hP)
    rw [Zs4,Zs0,ZsO,if_neg (by rw [hq];simp),Ztm,ZsT]
    exact hf
 refine qj (xs:=((Zsj N).filter q).map f) (fun i σ H=>∃ n,n<=N/\((Zsj n).filter q).length=i/\Pv n σ H) ⟨0,ZtN _,rfl,h0⟩ ?_ ?_ ?_
 ·rintro i σ H _ ⟨n,hl,_,hP⟩
  exact hk n σ H hl hP
 ·rintro i x σ H hx ⟨n,hl,hf,hP⟩
  rcases up _ n σ H i rfl hl hf hP with ⟨n',l',q',f',P'⟩ | ⟨f',_⟩
  ·rw [Zsu,Vk f' l' q'] at hx
   cases hx
   refine hs n' σ H _ l' q' P' fun σ' H' h'=>⟨n'+1,l',?_,h'⟩
   rw [Zs4,Zs0,ZsO,if_pos q',Zsm,f']
   rfl
  ·rw [Zsu,ZsR (by omega)] at hx
   cases hx
 ·rintro σ H ⟨n,hl,hf,hP⟩
  rw [Zsh] at hf
  rcases up _ n σ H _ rfl hl hf hP with ⟨n',l',q',f',P'⟩ | ⟨_,P'⟩
  ·have:=Vk f' l' q'
   rw [ZsR (ZtJ _)] at this
   cases this
  ·exact hd σ H P'
end L2
namespace MF
section sw
variable (m:Nat) (nd:Nat->Bool)
noncomputable def cnt:Nat->Nat
 | 0=>0
 | i+1=>cnt i+(if nd (m+1+i) then 1 else 0)
noncomputable def YF (k:Nat):Nat:=if k<=m then k else 1+m+cnt m nd (k - m - 1)
noncomputable def mt (t:Int):Int:=2 * (YF m nd (t / 2).toNat:Nat)+t % 2
noncomputable def mp (p:Pr):Pr:=(mt m nd p.1,mt m nd p.2)
variable {m nd}
end sw
noncomputable def mi (L:List Bool) (t:Int):List Bool:=L.set (t / 2).toNat true
noncomputable def jt (L:List Bool) (ts:List Int):List Bool:=ts.foldl mi L
noncomputable def look (m:Nat) (P:List Pr) (L:List Bool) (j:Nat):List Bool :=
 if L.getD (m+1+j) false then mi (mi L (P.getD j (0,0)).1) (P.getD j (0,0)).2 else L
noncomputable def down (m:Nat) (P:List Pr) (L:List Bool):Nat->List Bool
 | 0=>L
 | i+1=>look m P (down m P L i) (P.length - 1 - i)
theorem tV (L:List Bool) (t:Int):(mi L t).length=L.length:=List.length_set ..
theorem Bx:∀ (ts:List Int) (L:List Bool),(jt L ts).length=L.length
 | [],L=>rfl
 | t :: r,L=>(Bx r (mi L t)).trans (tV L t)
theorem PV (L:List Bool) (t:Int) (k:Nat):(mi L t).getD k false=true ↔ L.getD k false=true\/(k=(t / 2).toNat/\k<L.length):=by
 unfold mi
 rw [Zsy,Zsy,List.getElem?_set]
 by_cases e:(t / 2).toNat=k
 ·rw [if_pos e]
  subst e
  by_cases l:(t / 2).toNat<L.length
  ·rw [if_pos l];simp [l]
  ·rw [if_neg l];simp [l]
 ·rw [if_neg e]
  constructor
  ·exact .inl
  ·rintro (h | ⟨h,_⟩)
   ·exact h
   ·exact absurd h.symm e
theorem Oq:∀ (ts:List Int) (L:List Bool) (k:Nat),(jt L ts).getD k false=true ↔ L.getD k false=true\/((∃ t∈ts,k=(t / 2).toNat)/\k<L.length)
 | [],L,k=>by simp [jt]
 | t :: r,L,k=>by
  show (jt (mi L t) r).getD k false=true ↔ _
  rw [Oq r (mi L t) k,PV,tV]
  simp only [Zst,exists_eq_or_imp]
  constructor
  ·rintro ((h | ⟨h,l⟩) | ⟨h,l⟩)
   ·exact .inl h
   ·exact .inr ⟨.inl h,l⟩
   ·exact .inr ⟨.inr h,l⟩
  ·rintro (h | ⟨h | h,l⟩)
   ·exact .inl (.inl h)
   ·exact .inl (.inr ⟨h,l⟩)
   ·exact .inr ⟨h,l⟩
noncomputable def WN (m:Nat) (P:List Pr) (ts:List Int):Prop:=∀ t∈ts,0<=t/\t<2 * ((m:Int)+1+P.length)
end MF
namespace MF
section rs
variable (st:Nat->Bool)
noncomputable def zr (m:Nat) (P:List Pr) (L:List Bool) (j:Nat):List Bool :=
 if L.getD (m+1+j) false && !(st (m+1+j)) then mi (mi L (P.getD j (0,0)).1) (P.getD j (0,0)).2 else L
noncomputable def lq (m:Nat) (P:List Pr) (L:List Bool):Nat->List Bool
 | 0=>L
 | i+1=>zr st m P (lq m P L i) (P.length - 1 - i)
noncomputable def L7 (m:Nat) (P:List Pr) (ts:List Int):List Bool:=lq st m P (jt (Zsp (1+m+P.length) false) ts) P.length
noncomputable def eQ (m:Nat) (P:List Pr) (ts:List Int) (k:Nat):Bool:=(L7 st m P ts).getD k false
noncomputable def bh (m:Nat) (P:List Pr) (ts:List Int):List Nat:=(Zsj (1+m+P.length)).filter (eQ st m P ts)
variable {st}
theorem XU (m:Nat) (P:List Pr) (L:List Bool) (j:Nat):(zr st m P L j).length=L.length:=by
 unfold zr;split
 ·rw [tV,tV]
 ·rfl
theorem IC (m:Nat) (P:List Pr) (L:List Bool):∀ i,(lq st m P L i).length=L.length
 | 0=>rfl
 | i+1=>by unfold lq;rw [XU,IC m P L i]
theorem Xk (m:Nat) (P:List Pr) (ts:List Int):(L7 st m P ts).length=1+m+P.length:=by
 unfold L7;rw [IC,Bx,ZsM]
theorem Ho (m:Nat) (P:List Pr) (L:List Bool) (j k:Nat):(zr st m P L j).getD k false=true ↔
  L.getD k false=true\/((L.getD (m+1+j) false=true/\st (m+1+j)=false)/\(k=((P.getD j (0,0)).1 / 2).toNat\/k=((P.getD j (0,0)).2 / 2).toNat)/\k<L.length):=by
 unfold zr
 split
 ·rename_i h
  have h':L.getD (m+1+j) false=true/\st (m+1+j)=false:=by simpa using h
  rw [PV,PV,tV]
  constructor
  ·rintro ((a | ⟨a,b⟩) | ⟨a,b⟩)
   ·exact .inl a
   ·exact .inr ⟨h',.inl a,b⟩
   ·exact .inr ⟨h',.inr a,b⟩
  ·rintro (a | ⟨_,a | a,b⟩)
   ·exact .inl (.inl a)
   ·exact .inl (.inr ⟨a,b⟩)
   ·exact .inr ⟨a,b⟩
 ·rename_i h
  constructor
  ·exact .inl
  ·rintro (a | ⟨a,_⟩)
   ·exact a
   ·exact absurd (by simpa using a) h
theorem O5 (m:Nat) (P:List Pr) (L:List Bool) (k:Nat) {i:Nat}:∀ {i'},i<=i'->(lq st m P L i).getD k false=true->(lq st m P L i').getD k false=true
  | 0, h, a => by have : i = 0 := by omega
                  subst this;exact a
  | j+1,h,a=>by
    rcases ZtO i (j+1) with l | l
    · exact (Ho ..).mpr (.inl (O5 m P L k (i':=j) (by omega) a))
    · have:i=j+1:=by omega
      subst this;exact a
theorem Qo {m:Nat}{P:List Pr} (ho:Ok m P) (L:List Bool) {j:Nat} (hj:j<P.length):∀ {i},P.length - j<=i->i<=P.length->(lq st m P L i).getD (m+1+j) false=true->(lq st m P L (P.length - 1 - j)).getD (m+1+j) false=true
 | 0,h,_,a=>by omega
 | i+1,h,hi,a=>by
  have hp:P[P.length - 1 - i]? = some P[P.length - 1 - i]:=Zsn (by omega)
  have o:=ho _ _ hp
  have e:P.getD (P.length - 1 - i) (0,0)=P[P.length - 1 - i]:=by rw [Zsy,hp];rfl
  rcases (Ho ..).mp a with a | ⟨a,b,_⟩
  ·rcases ZtO i (P.length - j) with l | l
   ·have:i=P.length - 1 - j:=by omega
    subst this;exact a
   ·exact Qo ho L hj l (by omega) a
  ·rw [e] at b
   omega
theorem ZC {m:Nat}{P:List Pr}{ts:List Int}{t:Int} (ht:t∈ts) (h:0<=t/\t<2 * ((m:Int)+1+P.length)):eQ st m P ts (t / 2).toNat=true :=
 O5 m P _ _ (i:=0) (ZtN _) ((Oq ..).mpr (.inr ⟨⟨t,ht,rfl⟩,by rw [ZsM];omega⟩))
theorem t9 {α:Type}{P:List α}{j:Nat}{p:α} (hp:P[j]? = some p):j<P.length:=by
 rcases ZtO j P.length with z | z
 ·exact z
 ·rw [ZsR z] at hp;cases hp
theorem VQ {m:Nat}{P:List Pr} (ho:Ok m P) (ts:List Int) {j:Nat}{p:Pr} (hp:P[j]? = some p) (hn:eQ st m P ts (m+1+j)=true) (hs:st (m+1+j)=false):eQ st m P ts (p.1 / 2).toNat=true/\eQ st m P ts (p.2 / 2).toNat=true:=by
 have bw:=t9 hp
 have a:=Qo ho _ bw (i:=P.length) (by omega) (ZtJ _) hn
 have o:=ho _ _ hp
 have e:P.getD (P.length - 1 - (P.length - 1 - j)) (0,0)=p:=by rw [show P.length - 1 - (P.length - 1 - j)=j by omega,Zsy,hp];rfl
 have key:∀ k,(k=(p.1 / 2).toNat\/k=(p.2 / 2).toNat)->eQ st m P ts k=true:=by
  intro k hk
  refine O5 m P _ _ (i:=P.length - 1 - j+1) (by omega) ((Ho ..).mpr (.inr ⟨?_,?_,?_⟩))
  ·rw [show P.length - 1 - (P.length - 1 - j)=j by omega];exact ⟨a,hs⟩
  ·rw [e];exact hk
  ·rw [IC,Bx,ZsM];omega
 exact ⟨key _ (.inl rfl),key _ (.inr rfl)⟩
theorem OU {m:Nat}{P:List Pr}{ts:List Int} (S:Nat->Prop) (h1:∀ t∈ts,S (t / 2).toNat) (h2:∀ j p,P[j]? = some p->S (m+1+j)->st (m+1+j)=false->S (p.1 / 2).toNat/\S (p.2 / 2).toNat) {k:Nat} (h:eQ st m P ts k=true):S k:=by
 have key:∀ i,i<=P.length->∀ k,(lq st m P (jt (Zsp (1+m+P.length) false) ts) i).getD k false=true->S k:=by
  intro i
  induction i with
  | zero =>
   intro _ k a
   rcases (Oq ..).mp a with a | ⟨⟨t,ht,rfl⟩,_⟩
   ·rw [Zsy,Ztf] at a
    split at a <;> cases a
   ·exact h1 t ht
  | succ i ih =>
   intro hi k a
   have hp:P[P.length - 1 - i]? = some P[P.length - 1 - i]:=Zsn (by omega)
   have e:P.getD (P.length - 1 - i) (0,0)=P[P.length - 1 - i]:=by rw [Zsy,hp];rfl
   rcases (Ho ..).mp a with a | ⟨⟨a,a'⟩,b,_⟩
   ·exact ih (by omega) k a
   ·rw [e] at b
    have:=h2 _ _ hp (ih (by omega) _ a) a'
    rcases b with rfl | rfl
    ·exact this.1
    ·exact this.2
 exact key P.length (ZtJ _) k h
theorem XB {m:Nat}{P:List Pr}{ts:List Int}{k:Nat} (h:1+m+P.length<=k):eQ st m P ts k=false:=by
 unfold eQ
 rw [Zsy,ZsR (by rw [Xk];exact h)]
 rfl
end rs
theorem Ck (k:Nat):(2 * (k:Int) / 2).toNat=k:=by omega
theorem ZX {st:Nat->Bool}{m:Nat}{P:List Pr} (ho:Ok m P) {n k:Nat} (h:eQ st m P [2 * (n:Int)] k=true):k<=n:=by
 refine OU (S:=fun k=>k<=n) ?_ ?_ h
 ·intro t ht
  rw [Zsl] at ht
  subst ht
  omega
 ·intro j p hp hj _
  have:=ho j p hp
  constructor <;> omega
noncomputable def ku (m:Nat) (P:List Pr) (n:Nat):List Nat:=bh (fun _=>false) m P [2 * (n:Int)]
theorem Zpv {m:Nat}{P:List Pr} (ho:Ok m P) {n:Nat} (hn:n<1+m+P.length):ku m P n=(Zsj (n+1)).filter (eQ (fun _=>false) m P [2 * (n:Int)]):=by
 unfold ku bh
 have key:∀ d,(Zsj (n+1+d)).filter (eQ (fun _=>false) m P [2 * (n:Int)])=(Zsj (n+1)).filter (eQ (fun _=>false) m P [2 * (n:Int)]):=by
  intro d
  induction d with
  | zero=>rfl
  | succ d ih =>
   rw [show n+1+(d+1)=n+1+d+1 by omega,Zs4,Zs0,ih]
   have:eQ (fun _=>false) m P [2 * (n:Int)] (n+1+d)=false:=by
    cases h:eQ (fun _=>false) m P [2 * (n:Int)] (n+1+d) with
    | false=>rfl
    | true=>have:=ZX ho h;omega
   rw [ZsO,if_neg (by rw [this];simp),Ztm,ZsT]
 have:=key (1+m+P.length - (n+1))
 rw [show n+1+(1+m+P.length - (n+1))=1+m+P.length by omega] at this
 exact this
theorem Hv {st:Nat->Bool}{m:Nat}{P:List Pr}{n:Nat} (h:n<1+m+P.length):eQ st m P [2 * (n:Int)] n=true:=by
 have:=ZC (st:=st) (m:=m) (P:=P) (ts:=[2 * (n:Int)]) (Zsl.mpr rfl) (by omega)
 rwa [Ck] at this
structure o8 (st:Nat->Bool) (m:Nat) (P:List Pr) (n i:Nat) (S:Nat->Prop):Prop where
 self:S n
 low:∀ k,S k->eQ st m P [2 * (n:Int)] k=true
 clo:∀ j p,P[j]? = some p->m+1+j<=n->n - (m+1+j)<i->S (m+1+j)->st (m+1+j)=false->S (p.1 / 2).toNat/\S (p.2 / 2).toNat
theorem o8.new {st:Nat->Bool}{m:Nat}{P:List Pr}{n:Nat}{S:Nat->Prop} (h:∀ k,S k ↔ k=n) (hn:n<1+m+P.length):o8 st m P n 0 S :=
 ⟨(h n).mpr rfl,fun k hk=>by rw [(h k).mp hk];exact Hv hn,fun j p _ _ hi=>absurd hi (ZtT _)⟩
end MF
namespace MF
noncomputable def Cf (xs:List Int):Bool:=((Zsj (xs.length - 1)).map fun j=>decide (xs.getD j 0<xs.getD (j+1) 0)).all id
noncomputable def eP (xs:List Int) (k:Nat):Bool:=decide ((k:Int)∈xs)
noncomputable def lX (m:Nat) (P:List Pr) (k:Int) (xs:List Int):Bool :=
 decide ((m:Int)<k/\k<1+m+P.length/\k ∉ xs) && Cf xs && (xs.map fun x=>decide (x∈(ku m P k.toNat).map fun j:Nat=>(j:Int))).all id &&
  ((bh (eP xs) m P [2 * k]).map fun j=>decide (m<j) || decide ((j:Int)∈xs)).all id
theorem vO {st:Nat->Bool}{m:Nat}{P:List Pr}{ts:List Int}{j:Nat}:j∈bh st m P ts ↔ eQ st m P ts j=true:=by
 unfold bh
 rw [ZsS,ZsL]
 constructor
 ·exact fun h=>h.2
 ·intro h
  refine ⟨?_,h⟩
  rcases ZtO j (1+m+P.length) with l | l
  ·exact l
  ·rw [XB l] at h;cases h
noncomputable def qW (xs:List Int):Prop:=∀ j,j+1<xs.length->xs.getD j 0<xs.getD (j+1) 0
theorem Ts (xs:List Int):Cf xs=true ↔ qW xs:=by
 unfold Cf qW
 rw [Ztb,ZsQ]
 constructor
 ·intro h j hj
  have:=h j (ZsL.mpr (by omega))
  simpa using this
 ·intro h j hj
  rw [ZsL] at hj
  simpa using h j (by omega)
theorem K8 {xs:List Int} (h:xs.Pairwise (· < ·)):qW xs:=by
 intro j hj
 have a:xs.getD j 0=xs[j]:=by simp [Zsx,show j<xs.length by omega]
 have b:xs.getD (j+1) 0=xs[j+1]:=by simp [Zsx,hj]
 rw [a,b]
 exact Zto.mp h j (j+1) (by omega) hj (by omega)
noncomputable def sC (m:Nat) (P:List Pr) (k:Int) (xs:List Int):Prop:=∀ x∈xs,x∈(ku m P k.toNat).map fun j:Nat=>(j:Int)
noncomputable def FE (m:Nat) (P:List Pr) (k:Int) (xs:List Int):Prop:=∀ j,eQ (eP xs) m P [2 * k] j=true->m<j\/(j:Int)∈xs
theorem LU (m:Nat) (P:List Pr) (k:Int) (xs:List Int):lX m P k xs=true ↔ ((m:Int)<k/\k<1+m+P.length/\k ∉ xs)/\qW xs/\sC m P k xs/\FE m P k xs:=by
 unfold lX
 rw [Zun,Zun,Zun,decide_eq_true_eq,Ts,Ztb,ZsQ,Ztb,ZsQ]
 unfold sC FE
 constructor
 ·rintro ⟨⟨⟨a,b⟩,c⟩,d⟩
  refine ⟨a,b,fun x hx=>by simpa using c x hx,fun j hj=>?_⟩
  have:=d j (vO.mpr hj)
  simpa using this
 ·rintro ⟨a,b,c,d⟩
  refine ⟨⟨⟨a,b⟩,fun x hx=>by simpa using c x hx⟩,fun j hj=>?_⟩
  have:=d j (vO.mp hj)
  simpa using this
theorem Wd {m:Nat}{P:List Pr}{n:Nat}{x:Int}:x∈(ku m P n).map (fun j:Nat=>(j:Int)) ↔ 0<=x/\eQ (fun _=>false) m P [2 * (n:Int)] x.toNat=true:=by
 rw [Zsi]
 constructor
 ·rintro ⟨j,hj,rfl⟩
  exact ⟨by omega,by rw [Zua];exact vO.mp hj⟩
 ·rintro ⟨h0,h⟩
  exact ⟨x.toNat,vO.mpr h,by omega⟩
structure AQ (m:Nat) (P:List Pr) (n:Nat) (xs:List Int):Prop where
 jD:xs.Pairwise (· < ·)
 pos:∀ x∈xs,0<x/\x<n
 KZ:∀ x∈xs,eQ (fun _=>false) m P [2 * (n:Int)] x.toNat=true
 stop:FE m P n xs
theorem AQ.cut {m:Nat}{P:List Pr}{n:Nat}{xs:List Int} (h:AQ m P n xs) (h1:m<n) (h2:n<1+m+P.length):lX m P n xs=true:=by
 rw [LU]
 refine ⟨⟨by omega,by omega,fun z=>?_⟩,K8 h.jD,fun x hx=>?_,h.stop⟩
 ·have:=h.pos _ z;omega
 ·rw [Zua,Wd]
  exact ⟨by have:=h.pos x hx;omega,h.KZ x hx⟩
noncomputable def Ht (m:Nat) (P:List Pr) (k:Int) (xs:List Int):Bool:=((bh (eP xs) m P [2 * k]).map fun j=>decide (m<j) || decide ((j:Int)∈xs)).all id
theorem YX (m:Nat) (P:List Pr) (k:Int) (xs:List Int):Ht m P k xs=true ↔ FE m P k xs:=by
 unfold Ht FE
 rw [Ztb,ZsQ]
 constructor
 ·intro h j hj
  have:=h j (vO.mpr hj)
  simpa using this
 ·intro h j hj
  have:=h j (vO.mp hj)
  simpa using this
structure sj (m:Nat) (P:List Pr) (n:Nat) (xs:List Int) (ws:List Nat) (c:Nat):Prop where
 nd:ws.Nodup
 self:n∈ws
 rch:∀ w∈ws,eQ (eP xs) m P [2 * (n:Int)] w=true
 out:∀ w∈ws,(w:Int) ∉ xs
 le:∀ w∈ws,w<=n
 high:∀ (i:Nat) w,i<c->ws[i]? = some w->m<w
 clo:∀ (i:Nat) j p,i<c->ws[i]? = some (m+1+j)->P[j]? = some p->(p.1 / 2∈xs\/(p.1 / 2).toNat∈ws)/\(p.2 / 2∈xs\/(p.2 / 2).toNat∈ws)
theorem sj.bad {m:Nat}{P:List Pr}{n:Nat}{xs:List Int}{ws:List Nat}{c w:Nat} (h:sj m P n xs ws c) (hw:w∈ws) (hm:w<=m):Ht m P n xs=false:=by
 cases e:Ht m P n xs with
 | false=>rfl
 | true =>
  rcases (YX ..).mp e w (h.rch w hw) with z | z
  ·omega
  ·exact absurd z (h.out w hw)
end MF
namespace MF
structure Betw (m:Nat) (P:List Pr) (n:Nat) (xs ys:List Int):Prop where
 jD:ys.Pairwise (· < ·)
 mem:∀ x:Int,x∈ys ↔ 0<=x/\eQ (eP xs) m P [2 * (n:Int)] x.toNat=true/\x ∉ xs
end MF
namespace MF
end MF
namespace MF
end MF
set_option maxHeartbeats 4000000
namespace L2
open PySem PySem.Spec PyProof.Rows
theorem ZmR {K:ZrF}{ta:TA}{k:Nat}{sel:List Nat}{g:TG}{tt:TT}{el:TE}{σ:L2.St}{H:Hp}{Q:VK}:eN (qY K ta) k sel g tt el σ H Q=ta σ H (fun vs H1=>∃ a b:Addr,vs=[.ref a,.ref b]/\(∃ xs,bg K H1 a xs)/\(∃ ys,bg K H1 b ys)/\oH (G4 K a b) σ k sel g tt el Q H1):=rfl
theorem W4 {K:ZrF}{σ:L2.St}{k:Nat}{sel:List Nat}{g:TG}{tt:TT}{te:TE}{Q:VK}{H:Hp}{p a b:Addr}{xs ys:List V}{n:Nat} (hn:n=min xs.length ys.length) (Sv:L2.St->Prop) (Pv:Nat->Hp->Prop) (hS:Sv (cst σ k sel)) (h0:Pv 0 (upd H p (.lst [])))
  (hk:∀ i H2,i<=n->Pv i H2->bg K H2 a xs/\bg K H2 b ys)
  (step:∀ i x y t σ2 H2 (R:L2.St->Hp->Prop),xs[i]? = some x->ys[i]? = some y->H2 t=none->Sv σ2->Pv i H2->(∀ σ' H',Sv σ'->Pv (i+1) H'->R σ' H')->g (.ref t) σ2 (upd H2 t (.tup [x,y])) fun σ4 H4=>tt σ4 H4 fun bb H5 =>
   if bb=true then te σ4 H5 fun v H6=>∃ zs,H6 p=some (.lst zs)/\zs.length<sizeLine/\R σ4 (upd H6 p (.lst (zs ++ [v]))) else R σ4 H5)
  (hQ:∀ H2,Pv n H2->Q (.ref p) H2):zU (G4 K a b) σ k sel g tt te Q H p:=by
 refine ⟨fun i m σ2 H2=>i<=n/\m=n - i+1/\Sv σ2/\Pv i H2,⟨n+1,ZtN _,rfl,hS,h0⟩,?_⟩
 rintro i m σ2 H2 ⟨hi,rfl,hs,hP⟩
 obtain ⟨s1,s2⟩:=hk i H2 hi hP
 by_cases bw:i<n
 ·right
  have h1:i<xs.length:=by omega
  have h2:i<ys.length:=by omega
  refine ⟨⟨xs,ys,xs[i],ys[i],s1,s2,Zsn h1,Zsn h2⟩,?_⟩
  rintro x H3 ⟨T,x1,y1,e1,e2,e3,e4,e5⟩
  subst e1 e3
  exact step i x1 y1 T σ2 H2 (fun σ' H'=>∃ m',m'<n - i+1/\(i+1<=n/\m'=n - (i+1)+1/\Sv σ'/\Pv (i+1) H')) (e4 xs s1) (e5 ys s2) e2 hs hP fun σ' H' g1 g2=>⟨_,by omega,bw,rfl,g1,g2⟩
 ·left
  have e:i=n:=by omega
  subst e
  exact ⟨⟨xs,ys,s1,s2,by omega⟩,hQ H2 hP⟩
theorem YG (x:Int) (xs:List Int):As (.int x) (xs.map V.int)=decide (x∈xs):=by
 unfold As
 rw [List.any_map,Zuo,List.any_eq_true,decide_eq_true_eq]
 constructor
 ·rintro ⟨y,hy,e⟩
  have:y=x:=by
   first
   | (simp only [Function.comp,j8,decide_eq_true_eq] at e;exact e)
   | (simp only [Function.comp,j8,decide_eq_true_eq] at e;exact e.symm)
   | (simp [Function.comp,j8] at e;omega)
  exact this ▸ hy
 ·intro h
  exact ⟨x,h,by simp [Function.comp,j8]⟩
theorem ZnZ (xs:List Int):(xs.map V.int).all jG=true:=by
 rw [Ztb,ZsQ]
 intro x _
 rfl
theorem J3 {K:ZrF}{σ:L2.St}{sel:List Nat}{H:Hp}{Q:VK}{a:Addr}{ks:List Int} (hl:bg K H a (ks.map V.int)) (hr:sel.map (fun j=>(σ[j]?).join)=[]) (hz:ks.length<=sizeLine)
  (hQ:∀ p H' us,H p=none->H' p=some (.lst us)->us.length=ks.length->aQ H H'->(∀ (j:Nat) k,ks[j]? = some k->∃ t,us[j]? = some (.ref t)/\H' t=some (.tup [.int k,.bl true]))->Q (.ref p) H') :
  oH (kD K a) σ 1 sel (aC 0) gr (kq (ah (aa 0) (ah (tC (.bl true)) ar))) Q H:=by
 intro p hp
 refine zR (n:=(ks.map V.int).length) (item:=fun i=>(ks.map V.int).getD i .non) (fun i H2=>∃ us,H2 p=some (.lst us)/\us.length=i/\aQ H H2/\∀ (j:Nat) k,j<i->ks[j]? = some k->∃ t,us[j]? = some (.ref t)/\H2 t=some (.tup [.int k,.bl true])) hr ⟨[],bR,rfl,iy hp,fun j k hj=>absurd hj (ZtT _)⟩ (Aq ?_) ?_ ?_ ?_
 ·rintro i H2 hi ⟨us,_,_,s2,_⟩
  exact s2.seq hl
 ·rintro H2 ⟨us,_,_,s2,_⟩
  exact ⟨_,s2.seq hl,ZtJ _⟩
 ·rintro i H2 R hi ⟨us,h1,h2,s2,h4⟩ hR
  have hi':i<ks.length:=by rw [Zsh] at hi;exact hi
  have ei:(ks.map V.int).getD i .non=.int ks[i]:=by simp [Zsx,hi']
  unfold gr
  dsimp only
  rw [if_pos rfl]
  simp only [NQ,ah,ar,tC,aa,Ztk]
  refine ⟨by show 2<=sizeLine;decide,fun t5 H5 n5=>?_⟩
  have uk:=n5.same _ _ h1
  have vf:t5≠p:=(cn h1 n5.aD).symm
  refine ⟨us,uk,by omega,hR _ ⟨us ++ [.ref t5],bR,by rw [Zsm,h2];rfl,(s2.trans n5.same).put hp,fun j k hj hk=>?_⟩⟩
  by_cases mf:j<i
  ·obtain ⟨t',g1,g2⟩:=h4 j k mf hk
   exact ⟨t',by rw [ZsA (by omega)];exact g1,by rw [aE (eA g2 h1 (fun z=>nomatch z))];exact n5.same _ _ g2⟩
  ·have hj':j=i:=by omega
   subst hj'
   rw [Zsn hi'] at hk
   cases hk
   refine ⟨t5,by rw [<- h2];simp,?_⟩
   rw [aE vf,n5.at_,ei]
 ·rintro H2 ⟨us,h1,h2,s2,h4⟩
  refine hQ p H2 us hp h1 (by rw [h2,Zsh]) s2 fun j k hk=>h4 j k ?_ hk
  rw [Zsh]
  exact (Zsk.mp hk).1
theorem Ad (ks:List Int) (j:Int):∀ (acc:List (Key × V)),(bC ((ks.map fun k=>((.inl k:Key),V.bl true)).foldl (fun acc kv=>cJ acc kv.1 kv.2) acc) (.inl j)).isSome=((bC acc (.inl j)).isSome || decide (j∈ks)):=by
 induction ks with
 | nil=>intro acc;simp
 | cons k r ih =>
  intro acc
  rw [Zsw,ZsU,ih,pL]
  by_cases e:j=k
  ·subst e
   simp
  ·rw [if_neg (fun z=>e (Sum.inl.inj z))]
   simp [e]
end L2
set_option maxHeartbeats 4000000
namespace Kx
open PySem
section
variable {prog:Program}{w:World}{A:Around}{E:Value->Shared->Prop}{s:Shared}
end
noncomputable abbrev zA (h:Heap) (t:Addr):Heap:=h.push { cls:=.type "list_iterator",data:=.fields #[.ref t,.int 0 0] }
noncomputable abbrev zB (h:Heap) (t l:Addr):Heap:=(zA h t).push { cls:=.type "list_iterator",data:=.fields #[.ref l,.int 0 0] }
noncomputable abbrev zC (h:Heap) (t l:Addr):Heap:=(zB h t l).push { cls:=.type "tuple",data:=.seq #[.ref h.objs.size,.ref (zA h t).objs.size] }
noncomputable abbrev zD (h:Heap) (t l:Addr):Heap:=(zC h t l).push { cls:=.type "tuple",data:=.seq #[.none,.none] }
noncomputable abbrev zE (h:Heap) (t l:Addr):Heap:=(zD h t l).push { cls:=.type "zip",data:=.fields #[.none,.bool false,.bool false,.ref (zB h t l).objs.size,.ref (zC h t l).objs.size] }
theorem Xg (t l:Addr) (xs ys:Array Value):Meets (Builtin.«zip.__new__» ⟨[.type "zip",.ref t,.ref l],[]⟩) (fun _ R s=>s.heap.IsList t xs/\s.heap.IsList l ys/\R (.ok (.ret (.ref (zD s.heap t l).objs.size))) { s with heap:=zE s.heap t l }) :=
 .of_wp fun prog w A R s h=>by
  obtain ⟨hp,g,d,tk,os⟩:=s
  obtain ⟨h1,h2,h⟩:=h
  have ym:=sub_zip
  have q1:Heap.IsList (Shared.heap ⟨hp,g,d,tk,os⟩) t xs:=h1
  have q2:Heap.IsList (Shared.heap ⟨hp.push { cls:=.type "list_iterator",data:=.fields #[.ref t,.int 0 0] },g,d,tk,os⟩) l ys:=Heap.IsList.push h2 _
  wp_walk using wpAny_pyIter_list q1,wpAny_pyIter_list q2
  exact ⟨_,rfl,h⟩
structure nW (z TI TO i1 i2 t l:Addr) (xs ys:Array Value) (i:Nat) (h:Heap):Prop where
 zo:∃ f0 f1,h.get? z=some { cls:=.type "zip",dict:=none,data:=.fields #[f0,.bool f1,.bool false,.ref TI,.ref TO],slots:=#[] } /\
  (f0=.none\/∃ (T:Addr) (o:Obj),f0=rawInt T/\h.get? T=some o/\T≠z/\T≠TO/\T≠i1/\T≠i2)
 ti:IsPair h TI (.ref i1) (.ref i2)
 to:∃ a b,IsPair h TO a b
 a1:h.IsListIter i1 t i
 a2:h.IsListIter i2 l i
 l1:h.IsList t xs
 l2:h.IsList l ys
section
variable {prog:Program}{w:World}{A:Around}{E:Value->Shared->Prop}{s:Shared}
theorem WL {t l:Addr}{xs ys:Array Value}{Q:Value->Shared->Prop} (h1:s.heap.IsList t xs) (h2:s.heap.IsList l ys)
  (h:∀ h' z TI TO i1 i2,nW z TI TO i1 i2 t l xs ys 0 h'->ZipApart z TI TO i1 i2 t l->s.heap.objs.size<=z->s.heap.objs.size<=TI->s.heap.objs.size<=TO->s.heap.objs.size<=i1->s.heap.objs.size<=i2 ->
   (∀ c o,s.heap.get? c=some o->h'.get? c=some o)->Q (.ref z) { s with heap:=h' }) :
  wpAny (model prog w) A (call (.type "zip") [.ref t,.ref l]) Q E s:=by
 refine callType_new F.called_zip (by decide) (F.typeCall_zip_2 _ _) (F.newCall_zip_2 _ _) (fun obj=>F.args_object_init_3 obj _ _) F.entry_zip_new (Xg t l xs ys) ⟨h1,h2,?_⟩
 have z1:(zA s.heap t).objs.size=s.heap.objs.size+1:=Heap.size_push ..
 have z2:(zB s.heap t l).objs.size=s.heap.objs.size+2:=by rw [Heap.size_push,z1]
 have z3:(zC s.heap t l).objs.size=s.heap.objs.size+3:=by rw [Heap.size_push,z2]
 have z4:(zD s.heap t l).objs.size=s.heap.objs.size+4:=by rw [Heap.size_push,z3]
 have z5:(zE s.heap t l).objs.size=s.heap.objs.size+5:=by rw [Heap.size_push,z4]
 have g5:(zE s.heap t l).get? (zD s.heap t l).objs.size=some _:=Heap.get?_push_size _ rfl
 have g4:(zE s.heap t l).get? (zC s.heap t l).objs.size=some _:=Heap.get?_push_of_some _ (Heap.get?_push_size _ rfl)
 have g3:(zE s.heap t l).get? (zB s.heap t l).objs.size=some _:=Heap.get?_push_of_some _ (Heap.get?_push_of_some _ (Heap.get?_push_size _ rfl))
 have g2:(zE s.heap t l).get? (zA s.heap t).objs.size=some _:=Heap.get?_push_of_some _ (Heap.get?_push_of_some _ (Heap.get?_push_of_some _ (Heap.get?_push_size _ rfl)))
 have g1:(zE s.heap t l).get? s.heap.objs.size=some _:=Heap.get?_push_of_some _ (Heap.get?_push_of_some _ (Heap.get?_push_of_some _ (Heap.get?_push_of_some _ (Heap.get?_push_size _ rfl))))
 have up:∀ c o,s.heap.get? c=some o->(zE s.heap t l).get? c=some o:=fun c o x=>Heap.get?_push_of_some _ (Heap.get?_push_of_some _ (Heap.get?_push_of_some _ (Heap.get?_push_of_some _ (Heap.get?_push_of_some _ x))))
 have lt1:@LT.lt Nat _ t s.heap.objs.size:=by obtain ⟨_,e,_⟩:=h1;exact Heap.lt_size e
 have IL:@LT.lt Nat _ l s.heap.objs.size:=by obtain ⟨_,e,_⟩:=h2;exact Heap.lt_size e
 show _/\_
 rw [z2,z3,z4] at g5
 rw [z1,z2] at g3
 rw [z3] at g4
 rw [z1] at g2
 rw [z4]
 refine ⟨⟨_,g5,rfl⟩,h _ _ _ _ _ _ ⟨⟨_,_,g5,.inl rfl⟩,g3,⟨_,_,g4⟩,⟨_,g1,rfl,rfl⟩,⟨_,g2,rfl,rfl⟩,h1.at fun o e=>up _ o e,h2.at fun o e=>up _ o e⟩ ?_ (by omega) (by omega) (by omega) (by omega) (by omega) up⟩
 constructor <;> first | exact ZtK (by omega) | exact ZtP (by omega)
theorem ZoA {z TI TO i1 i2 t l:Addr}{xs ys:Array Value}{i:Nat}{x y:Value}{Q:Value->Shared->Prop} (D:ZipApart z TI TO i1 i2 t l) (S:nW z TI TO i1 i2 t l xs ys i s.heap) (hx:xs[i]? = some x) (hy:ys[i]? = some y)
  (q:∀ h' T,nW z TI TO i1 i2 t l xs ys (i+1) h'->IsPair h' T x y->s.heap.objs.size<=T->(∀ c o,c≠z->c≠TO->c≠i1->c≠i2->s.heap.get? c=some o->h'.get? c=some o)->Q (.ref T) { s with heap:=h' }) :
  wpAny (model prog w) A (Builtin.«zip.__next__» ⟨[.ref z],[]⟩) (fun fin s'=>∃ v,fin=.done (.ret v)/\Q v s') E s:=by
 obtain ⟨⟨f0,f1,hz,hf⟩,hTI,⟨a,b,hTO⟩,h1,h2,my,iE⟩:=S
 show wpAny _ _ (field (.ref z) 2 >>= _) _ _ _
 refine wpAny_bind (wpAny_field hz rfl (x:=.bool false) rfl ?_)
 show wpAny _ _ (field (.ref z) 3 >>= _) _ _ _
 refine wpAny_bind (wpAny_field hz rfl (x:=.ref TI) rfl ?_)
 refine wpAny_bind (wpAny_seqItems hTI rfl ?_)
 show wpAny _ _ (Builtin.SmallTypes.ownedTupleIsFree (.ref z) >>= _) _ _ _
 refine wpAny_bind ?_
 unfold Builtin.SmallTypes.ownedTupleIsFree
 refine wpAny_bind (wpAny_field hz rfl (x:=f0) rfl ?_)
 rcases hf with rfl | ⟨T0,oT,rfl,hT0,n1,n2,n3,n4⟩
 ·refine wpAny_pure ?_
  simp only [if_true]
  refine wpAny_bind (wpAny_rule ?_)
  refine wpAny_bind (wpAny_field hz rfl (x:=.ref TO) rfl ?_)
  refine wpAny_bind (wpAny_setField_rec hz (by simp) fun k1 hz1 s1=>?_)
  refine wpAny_bind ?_
  simp only [List.zipIdx_cons,List.zipIdx_nil,Ztj,Ztp]
  refine wpAny_bind (wpAny_bind (wpAny_onRaise ?_))
  show wpAny _ _ (Builtin.SmallTypes.nextOf (.ref i1) >>= _) _ _ _
  refine wpAny_bind (wpAny_nextOf_list_item (h1.extBut s1.extBut D.i1z) (my.extBut s1.extBut D.l1z) hx fun k2 j1 s2=>wpAny_pure ?_)
  have o2:IsPair k2 TO a b:=s2.extBut _ _ D.TOi1 (s1.extBut _ _ D.TOz hTO)
  refine wpAny_bind (wpAny_seqItems o2 rfl ?_)
  refine wpAny_bind (wpAny_updateSeq_pair o2 fun k3 o3 s3=>?_)
  replace o3:IsPair k3 TO x b:=o3
  refine wpAny_bind (wpAny_letGo (wpAny_pure ?_))
  refine wpAny_bind (wpAny_bind (wpAny_onRaise ?_))
  show wpAny _ _ (Builtin.SmallTypes.nextOf (.ref i2) >>= _) _ _ _
  refine wpAny_bind (wpAny_nextOf_list_item (((h2.extBut s1.extBut D.i2z).extBut s2.extBut D.i12.symm).extBut s3.extBut D.TOi2.symm) (((iE.extBut s1.extBut D.l2z).extBut s2.extBut D.l2i1).extBut s3.extBut D.l2TO) hy fun k4 j2 s4=>wpAny_pure ?_)
  have o4:IsPair k4 TO x b:=s4.extBut _ _ D.TOi2 o3
  refine wpAny_bind (wpAny_seqItems o4 rfl ?_)
  refine wpAny_bind (wpAny_updateSeq_pair o4 fun k5 o5 s5=>?_)
  replace o5:IsPair k5 TO x y:=o5
  refine wpAny_bind (wpAny_letGo (wpAny_pure (wpAny_pure ?_)))
  refine wpAny_bind (wpAny_seqItems o5 rfl ?_)
  refine wpAny_bind (wpAny_newTuple ?_)
  have sz:k5.objs.size=s.heap.objs.size:=by rw [s5.1,s4.1,s3.1,s2.1,s1.1]
  have y5:=s5.extBut _ _ D.TOz.symm (s4.extBut _ _ D.i2z.symm (s3.extBut _ _ D.TOz.symm (s2.extBut _ _ D.i1z.symm hz1)))
  have HQ:∀ c o,c≠z->c≠TO->c≠i1->c≠i2->s.heap.get? c=some o->k5.get? c=some o:=fun c o c1 c2 c3 c4 e =>
   s5.extBut _ _ c2 (s4.extBut _ _ c4 (s3.extBut _ _ c2 (s2.extBut _ _ c3 (s1.extBut _ _ c1 e))))
  have m1:k5.IsListIter i1 t (i+1):=((j1.extBut s3.extBut D.TOi1.symm).extBut s4.extBut D.i12).extBut s5.extBut D.TOi1.symm
  have m2:k5.IsListIter i2 l (i+1):=j2.extBut s5.extBut D.TOi2.symm
  have u1:z<k5.objs.size:=Heap.lt_size y5
  have u2:TO<k5.objs.size:=Heap.lt_size o5
  have u3:i1<k5.objs.size:=by obtain ⟨_,e,_⟩:=m1;exact Heap.lt_size e
  have u4:i2<k5.objs.size:=by obtain ⟨_,e,_⟩:=m2;exact Heap.lt_size e
  show wpAny _ _ (Builtin.SmallTypes.ownedTupleHandOut (.ref z) (.ref k5.objs.size) >>= _) _ _ _
  refine wpAny_bind ?_
  unfold Builtin.SmallTypes.ownedTupleHandOut
  have y6:=Heap.get?_push_of_some { cls:=.type "tuple",data:=.seq #[x,y] } y5
  refine wpAny_bind (wpAny_setField_rec y6 (by simp) fun k7 y7 s7=>?_)
  refine wpAny_setField_rec y7 (by simp) fun k8 y8 s8=>?_
  have up:∀ c o,c≠z->k5.get? c=some o->k8.get? c=some o:=fun c o c1 e=>s8.extBut _ _ c1 (s7.extBut _ _ c1 (Heap.get?_push_of_some _ e))
  have tp:IsPair k8 k5.objs.size x y:=s8.extBut _ _ (ZtP u1) (s7.extBut _ _ (ZtP u1) (Heap.get?_push_size _ rfl))
  refine wpAny_pure ⟨_,rfl,?_⟩
  refine q k8 k5.objs.size ⟨⟨rawInt k5.objs.size,false,y8,.inr ⟨_,_,rfl,tp,ZtP u1,ZtP u2,ZtP u3,ZtP u4⟩⟩,up _ _ D.TIz (HQ _ _ D.TIz D.TITO D.TIi1 D.TIi2 hTI),⟨_,_,up _ _ D.TOz o5⟩,
   m1.at fun o e=>up _ o D.i1z e,m2.at fun o e=>up _ o D.i2z e,my.at fun o e=>up _ o D.l1z (HQ _ _ D.l1z D.l1TO D.l1i1 D.l1i2 e),iE.at fun o e=>up _ o D.l2z (HQ _ _ D.l2z D.l2TO D.l2i1 D.l2i2 e)⟩ tp (by rw [sz];exact ZtJ _) fun c o c1 c2 c3 c4 e=>up c o c1 (HQ c o c1 c2 c3 c4 e)
 ·refine wpAny_mono (Q:=fun bb s1=>bb=false/\∃ k1,s1={ s with heap:=k1 }/\k1.get? z=some { cls:=.type "zip",dict:=none,data:=.fields #[rawInt T0,.bool true,.bool false,.ref TI,.ref TO],slots:=#[] } /\
   (∀ c o,c≠z->s.heap.get? c=some o->k1.get? c=some o)/\k1.objs.size=s.heap.objs.size) ?_ (fun bb s1 hb=>?_) (fun _ _ e=>e)
  ·show wpAny _ _ (loadIfAlive (Zuc T0) >>= _) _ _ _
   refine wpAny_bind (DZ.alive (o:=oT) (by rw [Zua];exact hT0) ?_)
   show wpAny _ _ (field (.ref z) 1 >>= _) _ _ _
   refine wpAny_bind (wpAny_field hz rfl (x:=.bool f1) rfl ?_)
   cases f1 with
   | true =>
    rw [if_neg (by decide)]
    exact wpAny_bind (wpAny_pure (wpAny_pure ⟨rfl,s.heap,rfl,hz,fun _ _ _ e=>e,rfl⟩))
   | false =>
    rw [if_pos (by decide)]
    exact wpAny_bind (wpAny_setField_rec hz (by simp) fun k1 y1 s1=>wpAny_pure ⟨rfl,k1,rfl,y1,fun c o hc e=>s1.extBut _ _ hc e,s1.1⟩)
  ·obtain ⟨rfl,k1,rfl,y1,up1,sz1⟩:=hb
   rw [if_neg (by decide)]
   dsimp only
   rw [<- Array.forIn_toList]
   simp only [Ztj,Ztp]
   refine wpAny_bind (wpAny_bind (wpAny_bind (wpAny_holding ?_)))
   show wpAny _ _ (Builtin.SmallTypes.nextOf (.ref i1) >>= _) _ _ _
   have a1:k1.IsListIter i1 t i:=h1.at fun o e=>up1 _ o D.i1z e
   have a2:k1.IsListIter i2 l i:=h2.at fun o e=>up1 _ o D.i2z e
   have b1:k1.IsList t xs:=my.at fun o e=>up1 _ o D.l1z e
   have b2:k1.IsList l ys:=iE.at fun o e=>up1 _ o D.l2z e
   refine wpAny_bind (wpAny_nextOf_list_item (s:={ s with heap:=k1 }) a1 b1 hx fun k2 j1 s2=>wpAny_pure (wpAny_pure ?_))
   refine wpAny_bind (wpAny_bind (wpAny_holding ?_))
   show wpAny _ _ (Builtin.SmallTypes.nextOf (.ref i2) >>= _) _ _ _
   refine wpAny_bind (wpAny_nextOf_list_item (s:={ s with heap:=k2 }) (a2.extBut s2.extBut D.i12.symm) (b2.extBut s2.extBut D.l2i1) hy fun k3 j2 s3=>wpAny_pure (wpAny_pure (wpAny_pure ?_)))
   refine wpAny_bind (wpAny_newTuple ?_ (by show 2<=sizeLine;decide))
   have An:∀ c o,c≠z->c≠i1->c≠i2->s.heap.get? c=some o->k3.get? c=some o:=fun c o c1 c3 c4 e=>s3.extBut _ _ c4 (s2.extBut _ _ c3 (up1 _ _ c1 e))
   have rl:∀ c o,k3.get? c=some o->(k3.push { cls:=.type "tuple",data:=.seq #[x,y] }).get? c=some o:=fun c o e=>Heap.get?_push_of_some _ e
   have y3:=rl _ _ (s3.extBut _ _ D.i2z.symm (s2.extBut _ _ D.i1z.symm y1))
   have Xw:k3.objs.size=s.heap.objs.size:=by rw [s3.1,s2.1];exact sz1
   refine wpAny_pure ⟨_,rfl,q _ k3.objs.size ⟨⟨_,_,y3,.inr ⟨T0,oT,rfl,rl _ _ (An _ _ n1 n3 n4 hT0),n1,n2,n3,n4⟩⟩,rl _ _ (An _ _ D.TIz D.TIi1 D.TIi2 hTI),⟨_,_,rl _ _ (An _ _ D.TOz D.TOi1 D.TOi2 hTO)⟩,
    (j1.extBut s3.extBut D.i12).at fun o e=>rl _ o e,j2.at fun o e=>rl _ o e,my.at fun o e=>rl _ o (An _ _ D.l1z D.l1i1 D.l1i2 e),iE.at fun o e=>rl _ o (An _ _ D.l2z D.l2i1 D.l2i2 e)⟩ (Heap.get?_push_size _ rfl) (by rw [Xw];exact ZtJ _)
    fun c o c1 c2 c3 c4 e=>rl _ _ (An _ _ c1 c3 c4 e)⟩
theorem YT {z TI TO i1 i2 t l:Addr}{xs ys:Array Value}{i:Nat}{Q:Fin->Shared->Prop} (hh:A.handled=none) (D:ZipApart z TI TO i1 i2 t l) (S:nW z TI TO i1 i2 t l xs ys i s.heap) (hx:xs[i]? = none)
  (q:∀ h' e,(∀ c o,c≠z->c≠TO->c≠i1->c≠i2->s.heap.get? c=some o->h'.get? c=some o)->(∃ o,h'.get? e=some o/\o.cls=.type "StopIteration")->E (.ref e) { s with heap:=h' }) :
  wpAny (model prog w) A (Builtin.«zip.__next__» ⟨[.ref z],[]⟩) Q E s:=by
 obtain ⟨⟨f0,f1,hz,hf⟩,hTI,⟨a,b,hTO⟩,h1,h2,my,iE⟩:=S
 show wpAny _ _ (field (.ref z) 2 >>= _) _ _ _
 refine wpAny_bind (wpAny_field hz rfl (x:=.bool false) rfl ?_)
 show wpAny _ _ (field (.ref z) 3 >>= _) _ _ _
 refine wpAny_bind (wpAny_field hz rfl (x:=.ref TI) rfl ?_)
 refine wpAny_bind (wpAny_seqItems hTI rfl ?_)
 show wpAny _ _ (Builtin.SmallTypes.ownedTupleIsFree (.ref z) >>= _) _ _ _
 refine wpAny_bind ?_
 unfold Builtin.SmallTypes.ownedTupleIsFree
 refine wpAny_bind (wpAny_field hz rfl (x:=f0) rfl ?_)
 rcases hf with rfl | ⟨T0,oT,rfl,hT0,n1,n2,n3,n4⟩
 ·refine wpAny_pure ?_
  simp only [if_true]
  refine wpAny_bind (wpAny_rule ?_)
  refine wpAny_bind (wpAny_field hz rfl (x:=.ref TO) rfl ?_)
  refine wpAny_bind (wpAny_setField_rec hz (by simp) fun k1 hz1 s1=>?_)
  refine wpAny_bind ?_
  simp only [List.zipIdx_cons,List.zipIdx_nil,Ztj,Ztp]
  refine wpAny_bind (wpAny_bind (wpAny_onRaise ?_))
  show wpAny _ _ (Builtin.SmallTypes.nextOf (.ref i1) >>= _) _ _ _
  refine wpAny_bind (wpAny_nextOf_list_end hh (h1.extBut s1.extBut D.i1z) (my.extBut s1.extBut D.l1z) hx fun k2 e s2 he=>?_)
  obtain ⟨oe,hoe,hce⟩:=he
  have tq:=s2 _ _ D.i1z.symm hz1
  have hez:e≠z:=fun x=>by subst x;rw [tq] at hoe;cases hoe;simp at hce
  exact wpAny_setField_rec tq (by simp) fun k3 _ s3=>q k3 e (fun c o c1 _ c3 _ x=>s3.extBut _ _ c1 (s2 _ _ c3 (s1.extBut _ _ c1 x))) ⟨oe,s3.extBut _ _ hez hoe,hce⟩
 ·refine wpAny_mono (Q:=fun bb s1=>bb=false/\∃ k1,s1={ s with heap:=k1 }/\(∀ c o,c≠z->s.heap.get? c=some o->k1.get? c=some o)) ?_ (fun bb s1 hb=>?_) (fun _ _ e=>e)
  ·show wpAny _ _ (loadIfAlive (Zuc T0) >>= _) _ _ _
   refine wpAny_bind (DZ.alive (o:=oT) (by rw [Zua];exact hT0) ?_)
   show wpAny _ _ (field (.ref z) 1 >>= _) _ _ _
   refine wpAny_bind (wpAny_field hz rfl (x:=.bool f1) rfl ?_)
   cases f1 with
   | true =>
    rw [if_neg (by decide)]
    exact wpAny_bind (wpAny_pure (wpAny_pure ⟨rfl,s.heap,rfl,fun _ _ _ e=>e⟩))
   | false =>
    rw [if_pos (by decide)]
    exact wpAny_bind (wpAny_setField_rec hz (by simp) fun k1 y1 s1=>wpAny_pure ⟨rfl,k1,rfl,fun c o hc e=>s1.extBut _ _ hc e⟩)
  ·obtain ⟨rfl,k1,rfl,up1⟩:=hb
   rw [if_neg (by decide)]
   dsimp only
   rw [<- Array.forIn_toList]
   simp only [Ztj,Ztp]
   refine wpAny_bind (wpAny_bind (wpAny_bind (wpAny_holding ?_)))
   show wpAny _ _ (Builtin.SmallTypes.nextOf (.ref i1) >>= _) _ _ _
   refine wpAny_bind (wpAny_nextOf_list_end (s:={ s with heap:=k1 }) hh (h1.at fun o e=>up1 _ o D.i1z e) (my.at fun o e=>up1 _ o D.l1z e) hx fun k2 e s2 he=>?_)
   exact q k2 e (fun c o c1 _ c3 _ x=>s2 _ _ c3 (up1 _ _ c1 x)) he
theorem Zny {z TI TO i1 i2 t l:Addr}{xs ys:Array Value}{i:Nat}{x y:Value}{Q:Option Value->Shared->Prop} (D:ZipApart z TI TO i1 i2 t l) (S:nW z TI TO i1 i2 t l xs ys i s.heap) (hx:xs[i]? = some x) (hy:ys[i]? = some y)
  (q:∀ h' T,nW z TI TO i1 i2 t l xs ys (i+1) h'->IsPair h' T x y->s.heap.objs.size<=T->(∀ c o,c≠z->c≠TO->c≠i1->c≠i2->s.heap.get? c=some o->h'.get? c=some o)->Q (some (.ref T)) { s with heap:=h' }) :
  wpAny (model prog w) A (pyNext (.ref z)) Q E s:=by
 obtain ⟨f0,f1,hz,_⟩:=S.zo
 have hT:s.TypeIs (.ref z) "zip":=⟨_,hz,rfl⟩
 unfold pyNext
 exact wpAny_bind (wpAny_attempt (wpAny_callSpecial?_slot (name:=Str.ofString "__next__") hT F.slot_zip_next (wpAny_call_entry F.slot_zip_next hT F.entry_zip_next
  (ZoA D S hx hy fun h' T a1 a2 a3 a4=>wpAny_pure (q h' T a1 a2 a3 a4)) (F.args_zip_next_1 _))))
theorem Xp {z TI TO i1 i2 t l:Addr}{xs ys:Array Value}{i:Nat}{Q:Option Value->Shared->Prop} (hh:A.handled=none) (D:ZipApart z TI TO i1 i2 t l) (S:nW z TI TO i1 i2 t l xs ys i s.heap) (hx:xs[i]? = none)
  (q:∀ h',(∀ c o,c≠z->c≠TO->c≠i1->c≠i2->s.heap.get? c=some o->h'.get? c=some o)->Q none { s with heap:=h' }):wpAny (model prog w) A (pyNext (.ref z)) Q E s:=by
 obtain ⟨f0,f1,hz,_⟩:=S.zo
 have hT:s.TypeIs (.ref z) "zip":=⟨_,hz,rfl⟩
 unfold pyNext
 refine wpAny_bind (wpAny_attempt (wpAny_callSpecial?_slot (name:=Str.ofString "__next__") hT F.slot_zip_next (wpAny_call_entry F.slot_zip_next hT F.entry_zip_next (YT hh D S hx fun h' e hk he=>?_) (F.args_zip_next_1 _))))
 obtain ⟨o,ho,hc⟩:=he
 refine wpAny_bind (wpAny_isInstance (T:="StopIteration") (b:=true) ⟨o,ho,hc⟩ isSubtype_stop ?_)
 exact wpAny_pure (q _ hk)
end
section
variable {prog:Program}{w:World}{A:Around}{E:Value->Shared->Prop}{s:Shared}
open DZ (J4 Gh qZ N0 Py J8 Ib HF VS)
theorem nW.write {z TI TO i1 i2 t l d:Addr}{xs ys:Array Value}{i:Nat}{h h':Heap} (S:nW z TI TO i1 i2 t l xs ys i h) (k:∀ c o,c≠d->h.get? c=some o->h'.get? c=some o) (hd:∃ o,h'.get? d=some o)
  (n1:z≠d) (n2:TI≠d) (n3:TO≠d) (n4:i1≠d) (n5:i2≠d) (n6:t≠d) (n7:l≠d):nW z TI TO i1 i2 t l xs ys i h':=by
 obtain ⟨⟨f0,f1,hz,hf⟩,hTI,⟨a,b,hTO⟩,h1,h2,my,iE⟩:=S
 refine ⟨⟨f0,f1,k _ _ n1 hz,?_⟩,k _ _ n2 hTI,⟨a,b,k _ _ n3 hTO⟩,h1.at fun o e=>k _ o n4 e,h2.at fun o e=>k _ o n5 e,my.at fun o e=>k _ o n6 e,iE.at fun o e=>k _ o n7 e⟩
 rcases hf with rfl | ⟨T,o,rfl,hT,m⟩
 ·exact .inl rfl
 ·by_cases e:T=d
  ·subst e
   obtain ⟨o',lr⟩:=hd
   exact .inr ⟨T,o',rfl,lr,m⟩
  ·exact .inr ⟨T,o,rfl,k _ _ e hT,m⟩
variable {κ:Type} [DecidableEq κ] {knd:KeyKind prog w κ}
theorem GY {z TI TO i1 i2 t l d:Addr}{xs ys:Array Value}{ks:List κ}{R:Result->Shared->Prop} (D:ZipApart z TI TO i1 i2 t l) (hh:A.handled=none)
  (n1:z≠d) (n2:TI≠d) (n3:TO≠d) (n4:i1≠d) (n5:i2≠d) (n6:t≠d) (n7:l≠d) (hk:ks.length=xs.size) (hy:ys.size=xs.size) (rj:∀ (j:Nat) k x,ks[j]? = some k->xs[j]? = some x->knd.is k x=true) (hz:xs.size<=1000) :
  ∀ (m i:Nat) (s:Shared) (kvs:List (κ × Value)),i+m=xs.size->kvs.length<=i->nW z TI TO i1 i2 t l xs ys i s.heap->s.heap.DictOf knd d kvs ->
   (∀ h' t',h'.DictOf knd d (((ks.drop i).zip (ys.toList.drop i)).foldl (fun e p=>stored e p.1 p.2) kvs)->(∀ c o,c≠d->c≠z->c≠TO->c≠i1->c≠i2->s.heap.get? c=some o->h'.get? c=some o)->R (.ok (.ret .none)) { s with heap:=h',toks:=t' }) ->
   codeAny (model prog w) A (.builtin "dict.update.loop" ⟨[.ref d,.ref z,rawInt i,.none],[]⟩) R s
 | 0,i,s,kvs,hm,hl,S,hd,hR=>by
  refine codeAny_builtin Gh ?_
  rw [Around.under_plainId qZ _]
  unfold Builtin.«dict.update.loop»
  have hx:xs[i]? = none:=Zuk (by omega)
  refine wpAny_bind (Xp hh D S hx fun h' k=>?_)
  have e1:ks.drop i=[]:=ZtD (by omega)
  rw [e1] at hR
  have hd':h'.DictOf knd d kvs:=by
   obtain ⟨o,es,ep,ho,r⟩:=hd
   exact ⟨o,es,ep,k _ _ n1.symm n3.symm n4.symm n5.symm ho,r⟩
  exact wpAny_bind (wpAny_pure (wpAny_pure (hR h' s.toks hd' fun c o c0 c1 c2 c3 c4 e=>k c o c1 c2 c3 c4 e)))
 | m+1,i,s,kvs,hm,hl,S,hd,hR=>by
  refine codeAny_builtin Gh ?_
  rw [Around.under_plainId qZ _]
  unfold Builtin.«dict.update.loop»
  have hi:i<xs.size:=by omega
  have hx:xs[i]? = some xs[i]:=Zui hi
  have hy':ys[i]? = some (ys[i]'(by omega)):=Zui (by omega)
  have Zj:ks[i]? = some (ks[i]'(by omega)):=Zsn (by omega)
  refine wpAny_bind (Zny D S hx hy' fun h1 T S1 hp hT k1=>?_)
  refine wpAny_bind (wpAny_holding ?_)
  have yq:h1.DictOf knd d kvs:=by
   obtain ⟨o,es,ep,ho,r⟩:=hd
   exact ⟨o,es,ep,k1 _ _ n1.symm n3.symm n4.symm n5.symm ho,r⟩
  refine wpAny_bind (wpAny_tryCatch ?_)
  unfold Builtin.Dict.pairItems
  refine wpAny_bind (wpAny_typeOf (T:="tuple") ⟨_,hp,rfl⟩ ?_)
  rw [if_pos (by decide)]
  refine wpAny_bind (wpAny_seqItems hp rfl (wpAny_pure ?_))
  refine wpAny_holding (wpAny_dictSet_pairs (knd:=knd) (s:={ s with heap:=h1 }) (rj i _ _ Zj hx) yq (fun h2 d2 sb=>?_) (ZtL hl (ZtL (by omega) (show 1000<=sizeLine by decide))))
  have ex2:∃ o,h2.get? d=some o:=let ⟨o,_,_,ho,_⟩:=d2;⟨o,ho⟩
  have S2:=S1.write (d:=d) (fun c o hc e=>(sb.2 c hc).trans e) ex2 n1 n2 n3 n4 n5 n6 n7
  refine wpAny_pure ⟨plainId_quiet qZ _,?_⟩
  have e1:ks.drop i=ks[i]'(by omega) :: ks.drop (i+1):=Ztx (by omega)
  have e2:ys.toList.drop i=ys[i]'(by omega) :: ys.toList.drop (i+1):=by
   rw [Ztx (by simp;omega)]
   simp
  refine GY D hh n1 n2 n3 n4 n5 n6 n7 hk hy rj hz m (i+1) _ _ (by omega) ?_ S2 d2 ?_
  ·have:=J4 kvs (ks[i]'(by omega)) (ys[i]'(by omega))
   omega
  ·intro h' t' d' k'
   rw [e1,e2] at hR
   exact hR h' t' d' fun c o c0 c1 c2 c3 c4 e=>k' c o c0 c1 c2 c3 c4 ((sb.2 c c0).trans (k1 c o c1 c2 c3 c4 e))
theorem Mb {z TI TO i1 i2 t l:Addr}{xs ys:Array Value}{ks:List κ}{Q:Value->Shared->Prop} (D:ZipApart z TI TO i1 i2 t l) (hh:A.handled=none) (S:nW z TI TO i1 i2 t l xs ys 0 s.heap)
  (hk:ks.length=xs.size) (hy:ys.size=xs.size) (rj:∀ (j:Nat) k x,ks[j]? = some k->xs[j]? = some x->knd.is k x=true) (hz:xs.size<=1000)
  (q:∀ h' t',h'.DictOf knd s.heap.objs.size ((ks.zip ys.toList).foldl (fun e p=>stored e p.1 p.2) [])->(∀ c o,c≠z->c≠TO->c≠i1->c≠i2->s.heap.get? c=some o->h'.get? c=some o)->Q (.ref s.heap.objs.size) { s with heap:=h',toks:=t' }) :
  wpAny (model prog w) A (call (.type "dict") [.ref z]) Q E s:=by
 refine callType_codes (Q₁:=fun v s1=>v=.ref s.heap.objs.size/\s1={ s with heap:=s.heap.push { cls:=.type "dict",data:=.dict #[] } }) N0 (Py _) F.entry_dict_init (J8 _ ⟨rfl,rfl⟩) ?_
 rintro obj s1 ⟨rfl,rfl⟩
 refine ⟨⟨_,Heap.get?_push_size _ rfl,rfl⟩,F.args_dict_init_2 _ _,?_⟩
 obtain ⟨f0,f1,hz0,_⟩:=S.zo
 obtain ⟨hp,g,d0,tk,os⟩:=s
 dsimp only at *
 have hz':=Heap.get?_push_of_some { cls:=.type "dict",data:=.dict #[] } hz0
 have Yq:(⟨hp.push { cls:=.type "dict",data:=.dict #[] },g,d0,tk,os⟩:Shared).TypeIs (.ref hp.objs.size) "dict":=⟨_,Heap.get?_push_size _ rfl,rfl⟩
 have hTz:(⟨hp.push { cls:=.type "dict",data:=.dict #[] },g,d0,tk,os⟩:Shared).TypeIs (.ref z) "zip":=⟨_,hz',rfl⟩
 have ym:=Ib
 unfold Builtin.«dict.__init__»
 repeat (any_goals (first | assumption | (with_reducible refine HF hh hz' fun h' t' k=>?_) | (with_reducible refine VS (k _ _ hz') ?_) | wp_step))
 have lt:∀ {c:Addr}{o:Obj},hp.get? c=some o->c≠hp.objs.size:=fun e=>ZtK (Heap.lt_size e)
 have up:∀ c o,hp.get? c=some o->h'.get? c=some o:=fun c o e=>k c o (Heap.get?_push_of_some _ e)
 obtain ⟨S1,S2,⟨Sa,Sb,S3⟩,S4,S5,S6,S7⟩:=id S
 refine ⟨plainId_quiet qZ _,GY (A:=A.in1) (knd:=knd) (ks:=ks) D (show A.in1.handled=none from hh) (lt hz0) (lt S2) (lt S3) (by obtain ⟨_,e,_⟩:=S4;exact lt e) (by obtain ⟨_,e,_⟩:=S5;exact lt e) (by obtain ⟨_,e,_⟩:=S6;exact lt e) (by obtain ⟨_,e,_⟩:=S7;exact lt e) hk hy rj hz xs.size 0 _ [] (by omega) (by simp) ?_ ?_ ?_⟩
 ·exact S.write (d:=hp.objs.size) (fun c o hc e=>up c o e) ⟨_,k _ _ (Heap.get?_push_size _ rfl)⟩ (lt hz0) (lt S2) (lt S3) (by obtain ⟨_,e,_⟩:=S4;exact lt e) (by obtain ⟨_,e,_⟩:=S5;exact lt e) (by obtain ⟨_,e,_⟩:=S6;exact lt e) (by obtain ⟨_,e,_⟩:=S7;exact lt e)
 ·obtain ⟨o,es,ep,ho,r⟩:=Heap.DictOf.new (knd:=knd) hp
  exact ⟨o,es,ep,k _ _ ho,r⟩
 ·intro h2 t2 d2 k2
  refine ⟨rfl,q h2 t2 ?_ fun c o c1 c2 c3 c4 e=>k2 c o (lt e) c1 c2 c3 c4 (up c o e)⟩
  simpa using d2
end
end Kx
set_option maxHeartbeats 4000000
namespace L2
open PySem PySem.Spec PyProof.Rows
noncomputable def JG (K:ZrF) (t:TA):TE:=fun σ H Q=>t σ H fun vs H1=>match vs with
 | [.ref a,.ref b]=>∃ (ns:List Int) (ys:List V),bg K H1 a (ns.map V.int)/\bg K H1 b ys/\ns.length=ys.length/\ns.length<=1000/\∀ p H',fM H1 p (.dK (eO [] ((ns.map Sum.inl).zip ys))) H'->Q (.ref p) H'
 | _=>False
theorem Vc:∀ {ns:List Int}{ys:List V}{us:List Value}{kvs:List (Key × V)}{ws:List (Key × Value)},Vals ys us->KV kvs ws ->
  KV (((ns.map (Sum.inl:Int->Key)).zip ys).foldl (fun acc kv=>cJ acc kv.1 kv.2) kvs) (((ns.map (Sum.inl:Int->Key)).zip us).foldl (fun e p=>stored e p.1 p.2) ws)
 | [],_,_,_,_,_,q=>q
 | n :: ns,_,_,kvs,ws,.nil,q=>q
 | n :: ns,_,_,kvs,ws,.cons r t,q=>Vc (ns:=ns) t (q.put (Sum.inl n) r)
theorem Zmr {X:Cx}{ea eb:Expr}{t:TA}{p1 p2 p3 p4:Pos} (hc:X.calm=true) (hg1:Gl X "dict") (Yx:Gl X "zip") (hm1:X.mg "dict" = none) (Yy:X.mg "zip" = none) (ha:PA X [ea,eb] t)
  (he:starEach [ea,eb] X.env=(false,eval ea X.env) :: starEach [eb] X.env:=by rfl) (jA:(backTo p3 (starEach [eb] X.env)).any (·.1)=false:=by rfl)
  (Ur:starEach [Expr.Call (.Name "zip" p2) [ea,eb] [] p3] X.env=(false,eval (Expr.Call (.Name "zip" p2) [ea,eb] [] p3) X.env) :: starEach [] X.env:=by rfl) (Nw:(backTo p4 (starEach [] X.env)).any (·.1)=false:=by rfl) :
  PE X (.Call (.Name "dict" p1) [.Call (.Name "zip" p2) [ea,eb] [] p3] [] p4) (JG X.K t):=by
 intro pins s σ H Q I h
 refine wpAny_Call_Name_kw (qJ I hg1 hm1 PyProof.Rows.boot_dict ?_ (by decide) (by decide))
 refine PyProof.Rows.callWith_type1 ?_ Ur Nw
 rw [Ur]
 show wpAny _ _ (spliced ((false,eval (Expr.Call (.Name "zip" p2) [ea,eb] [] p3) X.env) :: backTo p4 (starEach [] X.env))) _ _ s
 refine Calls.spliced_cons ?_
 refine wpAny_Call_Name_kw (qJ I Yx Yy PyProof.Rows.boot_zip ?_ (by decide) (by decide))
 refine PyProof.Rows.callWith_type1 (aV (ha p3 pins s σ H _ I h) fun us s1 ⟨vs,H1,I1,r1,q1⟩=>?_) he jA
 match vs,q1 with
 | [.ref a,.ref b],q1 =>
  obtain ⟨ns,ys,hT,hL,hl,hz,q⟩:=q1
  obtain ⟨u1,u2,rfl,e1,e2⟩:=zS r1
  cases e1;cases e2
  obtain ⟨its,rv,pt⟩:=qg I1 hT
  obtain ⟨its2,rv2,pl⟩:=qg I1 hL
  have my:=rv.length
  have iE:=rv2.length
  rw [Zsh] at my
  refine Kx.WL pt pl fun h1 z TI TO i1 i2 S D g1 g2 g3 g4 g5 up=>?_
  refine Calls.spliced_nil ?_
  have I2:Inv X pins σ H1 { s1 with heap:=h1 }:=I1.kept (t':=s1.toks) up
  have fp:∀ b∈[z,TO,i1,i2],lg X pins H1 b:=fun b hb=>by
   have B3:s1.heap.objs.size<=b:=by
    simp only [Zst,Zs3,or_false] at hb
    rcases hb with rfl | rfl | rfl | rfl
    ·exact g1
    ·exact g3
    ·exact g4
    ·exact g5
   exact I1.lV B3 (I1.aB.fresh B3)
  refine Kx.Mb (knd:=ij X.prog X.w) (ks:=ns.map Sum.inl) D (I.ok.hd hc) S (by rw [Zsh,Zsr];exact my) (by rw [Zsr,Zsr];omega) ?_ (by rw [Zsr];omega) fun h2 t2 dd k2=>?_
  ·intro j k x hk hx
   rw [Zsu] at hk
   obtain ⟨n,hn,rfl⟩:=Option.map_eq_some_iff.mp hk
   obtain ⟨u,hu,ru⟩:=rv.get (i:=j) (x:=.int n) (by rw [Zsu,hn];rfl)
   have hx':its[j]? = some x:=by simpa using hx
   rw [hu] at hx'
   cases hx'
   exact rV (k:=Sum.inl n) ru
  ·have hd:s1.heap.objs.size<=h1.objs.size:=ZtL g1 (ZtR (by obtain ⟨_,_,e,_⟩:=S.zo;exact Heap.lt_size e))
   have jJ:H1 h1.objs.size=none:=I1.aB.fresh hd
   have rel:KV (eO [] ((ns.map Sum.inl).zip ys)) (((ns.map Sum.inl).zip its2).foldl (fun e p=>stored e p.1 p.2) []):=Vc rv2 .nil
   have hlen:(eO [] ((ns.map (Sum.inl:Int->Key)).zip ys)).length<=sizeLine:=by
    have h1:=zH ((ns.map (Sum.inl:Int->Key)).zip ys) []
    rw [ZsH,List.length_zip,Zsh] at h1
    rw [sizeLine_eq];omega
   have zI:((h1.objs.size:Addr) == sysModules)=false:=beq_eq_false_iff_ne.mpr (Ne.symm (ZtK I2.big))
   refine ⟨.ref h1.objs.size,upd H1 h1.objs.size (.dK (eO [] ((ns.map Sum.inl).zip ys))),?_,rfl,q _ _ ⟨jJ,rfl⟩⟩
   refine I2.dz (ch:=[z,TO,i1,i2]) (h':=h2) (t':=t2) (fun b hb=>fp b hb) (ZtJ _) (fun b o hb e=>k2 b o (fun x=>hb (by simp [x])) (fun x=>hb (by simp [x])) (fun x=>hb (by simp [x])) (fun x=>hb (by simp [x])) e) ?_
   exact Es hlen zI rel (by simpa using dd)
theorem PS.qA {X:Cx}{st:Stmt}{t:TS} (h:PS X.qA st t):PS X st t:=fun pins s σ H D I hw =>
 wpAny_mono (h pins s σ H D (I.iX _) hw) (fun _ _ q=>q.unwish) fun _ _ z=>False.elim z
theorem Wu {ta:TA}{k:Nat}{sel:List Nat}{g:TG}{tt:TT}{el:TE}{σ:L2.St}{H:Hp}{Q:VK}:eN (sh ta) k sel g tt el σ H Q=ta σ H (fun vs H1=>∃ i j:Int,vs=[.int i,.int j]/\(-(2 ^ 62)<=i/\i<2 ^ 62 /\ -(2 ^ 62)<=j/\j<2 ^ 62)/\oH (lH i (j - i).toNat) σ k sel g tt el Q H1):=rfl
end L2
set_option maxHeartbeats 400000
namespace SS
open PySem PySem.Spec PyProof.Rows
section
variable {prog:Program}{w:World}{A:Around}{E:Value->Shared->Prop}{s:Shared}
theorem Zm0 {h:Heap}{a:Addr}{vs:List Value}{out:Array Value}{n:Nat} (ho:h.get? a=some (seqObj "list" vs.toArray n)):(∃ e,(sortedHeap h a vs out).get? a=some (seqObj "list" out e))/\∀ b o,b≠a->h.get? b=some o->(sortedHeap h a vs out).get? b=some o:=by
 unfold sortedHeap
 have g1:=get?_update_seq ho (fun _=>#[])
 have g2:=Heap.get?_push_of_some (seqObj "list" #[] 0) (Heap.get?_push_of_some (seqObj "tuple" vs.toArray 0) g1)
 exact ⟨⟨_,get?_update_seq g2 (fun _=>out)⟩,fun b o hb e=>(Heap.get?_update_other _ _ (Ne.symm hb)).trans (Heap.get?_push_of_some _ (Heap.get?_push_of_some _ ((Heap.get?_update_other _ _ (Ne.symm hb)).trans e)))⟩
end
end SS
set_option maxHeartbeats 4000000
namespace L2
open PySem PySem.Spec PyProof.Rows
end L2
set_option maxHeartbeats 4000000
namespace DE
open PySem DZ
section
variable {prog:Program}{w:World}{A:Around}{E:Value->Shared->Prop}{h:Heap}{g:Array GenState}{d:Drawn}{t:Nat}{os:OsState}{z:Addr}{vs:Array Value}
end
structure ES (e it l:Addr) (xs:Array Value) (i:Nat) (h:Heap):Prop where
 eo:∃ f0 f1 old,h.get? e=some { cls:=.type "enumerate",dict:=none,data:=.fields #[f0,.bool f1,.ref it,rawInt i,.none,old],slots:=#[] }/\(f0=.none\/∃ (T:Addr) (o:Obj),f0=rawInt T/\h.get? T=some o/\T≠e/\T≠it)
 a1:h.IsListIter it l i
 l1:h.IsList l xs
section
variable {prog:Program}{w:World}{A:Around}{E:Value->Shared->Prop}{s:Shared}
variable {κ:Type} [DecidableEq κ] {knd:KeyKind prog w κ}
end
end DE
namespace L2
open PySem PySem.Spec PyProof.Rows
noncomputable def OM (n:Nat):List Key:=(Zsj n).map fun i:Nat=>Sum.inl (i:Int)
noncomputable def HM (K:ZrF) (t:TA):TE:=fun σ H Q=>t σ H fun vs H1=>match vs with
 | [.ref a]=>∃ ys:List V,H1 a=some (.lst ys)/\ys.length<=1000/\∀ p H',fM H1 p (.dK (eO [] ((OM ys.length).zip ys))) H'->Q (.ref p) H'
 | _=>False
noncomputable def Ax (K:ZrF):List V->Hp->VK->Prop:=fun vs H Q=>match vs with
 | [.ref a]=>∃ ns:List Int,bg K H a (ns.map V.int)/\0<ns.length/\∀ M,M∈ns->(∀ x∈ns,x<=M)->Q (.int M) H
 | _=>False
theorem II {X:Cx} (hc:X.calm=true):jE X (.builtin "max") (Ax X.K):=by
 intro pins s σ H xs us Q I r h
 match xs,h with
 | [.ref p],h =>
  obtain ⟨ns,hq,gK,q⟩:=h
  obtain ⟨u1,rfl,e1⟩:=qD r
  cases e1
  obtain ⟨its,r',pl,hz⟩:=I.list hq
  have hA:=Rp r'
  obtain ⟨xs,hxs⟩:=hA.allInts.items
  have hn:numsOf (intItems xs).toList=ns:=by rw [<- hxs];exact hA.numsOf
  rw [nums_intItems] at hn
  have HY:xs.size=ns.length:=by rw [<- hn,Zsh,Zug]
  have hl:=pl.isList
  rw [hxs] at hl
  refine max_intList (I.ok.hd hc) hl (by omega) fun v h' tk hv hk=>?_
  obtain ⟨t,rfl⟩:=intItems_at hv
  obtain ⟨h1,h2⟩:=argBest_gt (numAt xs) (xs.size - 1)
  refine ⟨.int _,H,I.kept (t':=tk) hk,⟨t,rfl⟩,q _ ?_ fun a ha=>?_⟩
  ·rw [numAt_eq,hn]
   exact getD_mem (by omega)
  ·obtain ⟨j,hj,rfl⟩:=mem_getD ha
   have:=h2 j (by omega)
   rwa [numAt_eq,hn] at this
end L2
set_option maxHeartbeats 4000000
namespace SD
open PySem PySem.Spec PyProof.Rows
section
variable {prog:Program}{w:World}{A:Around}{E:Value->Shared->Prop}{s:Shared}{T:String}{r d:Addr}{n:Nat}{P:Nat->Value->Prop}{OK:Heap->Prop}
theorem Zpc {R:Result->Shared->Prop}{L:Addr}{c:Nat} (K:Zr3 prog w T r d n P OK) (hh:A.handled=none) (aB:OK s.heap) (hr:L≠r) (hd:L≠d) (hL:s.heap.get? L=some { cls:=.type "list",data:=.seq #[] c }) (hn:n<=sizeLine)
  (hR:∀ h' tk acc' c',(∀ b o,b≠L->s.heap.get? b=some o->h'.get? b=some o)->h'.get? L=some { cls:=.type "list",dict:=none,data:=.seq acc' c',slots:=#[] }->ItemsOf P acc' n->R (.ok (.ret (.ref L))) { s with heap:=h',toks:=tk }) :
  codeAny (model prog w) A (.builtin "list.__iadd__" ⟨[.ref L,.ref r],[]⟩) R s:=by
 refine codeAny_builtin entry_list_iadd' ?_
 rw [Around.under_plainId (show plainId "list.__iadd__" = true by decide +kernel) _]
 exact PySem.W.kdl_extend K hh aB L hr hd (.ref L) c hL hR hn
theorem Zk3 {Q:List Value->Shared->Prop} (K:Zr3 prog w T r d n P OK) (hh:A.handled=none) (aB:OK s.heap) (hn:n<=sizeLine)
  (q:∀ acc h' tk,(∀ b o,s.heap.get? b=some o->h'.get? b=some o)->s.heap.objs.size<h'.objs.size->ItemsOf P acc n->Q acc.toList { s with heap:=h',toks:=tk }):wpAny (model prog w) A (collect (.ref r)) Q E s:=by
 obtain ⟨hr,hd⟩:=K.there s.heap aB
 unfold collect;refine wpAny_bind (wpAny_runValue (codeAny_builtin entry_proto_collect' ?_));show wpAny _ _ (do again (.builtin "list.__iadd__" ⟨[<- newList [],.ref r],[]⟩)) _ _ s
 have Ej:(s.heap.push (seqObj "list" #[] 0)).get? s.heap.objs.size=some (seqObj "list" #[] 0):=Heap.get?_push_size _ rfl
 refine wpAny_bind (wpAny_newList (wpAny_pure ⟨Code.quiet_builtin _ (by decide +kernel),Zpc (s:={ s with heap:=s.heap.push (seqObj "list" #[] 0) }) K hh (K.keep _ _ aB fun b _ o e=>Heap.get?_push_of_some _ e) (ZtP hr) (ZtP hd) Ej hn fun h' tk acc c kp hL' hi=>?_⟩))
 dsimp only;refine wpAny_bind (wpAny_load hL' (wpAny_pure ?_))
 exact q acc h' tk (fun b o e=>kp b o (ZtK (Heap.lt_size e)) (Heap.get?_push_of_some _ e)) (Heap.lt_size hL') hi
theorem YZ {Q:Value->Shared->Prop}{ks:List Int} (K:Zr3 prog w T r d n P OK) (hh:A.handled=none) (aB:OK s.heap) (Jk:n<64) (hk:∀ acc,ItemsOf P acc n->IntsAre acc.toList ks)
  (q:∀ h' tk r out e iN,(∀ b o,s.heap.get? b=some o->h'.get? b=some o)->s.heap.objs.size<=r->h'.get? r=some (seqObj "list" out e)->IntsAre out.toList iN->iN.Perm ks->iN.Pairwise (· <= ·)->Q (.ref r) { s with heap:=h',toks:=tk }) :
  wpAny (model prog w) A (call (.builtin "sorted") [.ref r]) Q E s:=by
 refine Calls.call_function_entry kind_sorted plain_sorted entry_sorted (args_sorted1 _) ?_;unfold Builtin.«sorted»;refine wpAny_bind (m:=checkCount "sorted" 1 1 _) (wpAny_pure ?_)
 refine wpAny_bind (Zk3 K (by first | exact hh | simpa using hh) aB (by rw [sizeLine_eq];omega) fun acc h' tk kp bw hi=>?_)
 have a1:=hk acc hi
 have hvl:acc.toList.length<64:=by rw [Zug,hi.1];exact Jk
 refine wpAny_bind (wpAny_newList ?_ (by rw [sizeLine_eq];omega))
 have AL:(h'.push (seqObj "list" acc.toList.toArray 0)).get? h'.objs.size=some (seqObj "list" acc.toList.toArray 0):=Heap.get?_push_size _ rfl
 show wpAny _ _ _ _ _ { s with heap:=h'.push (seqObj "list" acc.toList.toArray 0),toks:=tk }
 refine wpAny_bind (wpAny_holding (wpAny_call_entry slot_list_sort ⟨_,AL,rfl⟩ entry_list_sort (list_sort_tree AL a1 hvl fun out iN b1 b2 b3=>⟨_,rfl,wpAny_pure ⟨_,rfl,?_⟩⟩) (args_list_sort _)))
 obtain ⟨⟨e,at_⟩,old⟩:=SS.Zm0 (out:=out) AL
 exact q _ tk _ out e iN (fun b o x=>old b o (ZtK (Nat.lt_trans (Heap.lt_size x) bw)) (Heap.get?_push_of_some _ (kp b o x))) (ZtR bw) at_ b1 b2 b3
end
end SD
namespace L2
open PySem PySem.Spec PyProof.Rows
noncomputable def Hz (_:ZrF):List V->Hp->VK->Prop:=fun vs H Q=>match vs with
 | [.ref p]=>∃ (kvs:List (Key × V)) (ns:List Int),Rd H p (.dK kvs)/\kvs.map (·.1)=ns.map Sum.inl/\ns.length<64/\∀ (iN:List Int) (l:Addr) (H':Hp),iN.Perm ns->iN.Pairwise (· <= ·)->fM H l (.lst (iN.map V.int)) H'->Q (.ref l) H'
 | _=>False
theorem Uj {X:Cx} (hc:X.calm=true):jE X (.builtin "sorted") (Hz X.K):=by
 intro pins s σ H xs us Q I r h
 match xs,h with
 | [.ref p],h =>
  obtain ⟨kvs,ns,e,rY,Jk,q⟩:=h
  obtain ⟨u1,rfl,e1⟩:=qD r
  cases e1
  obtain ⟨z,y,vs,rel,dd⟩:=qe I.aB e
  obtain ⟨ep,hat⟩:=dd.dictAt
  have hlen:=rel.length
  have zq:kvs.length=ns.length:=by have:=congrArg List.length rY;rwa [Zsh,Zsh] at this
  refine SD.YZ (ks:=ns) (PySem.W.kdl_dict (knd:=ij X.prog X.w) (kvs:=vs) (ep:=ep) y) (I.ok.hd hc) hat (by omega) (fun acc ⟨ha,hb⟩=>?_) fun h' tk l out e' iN kp B3 at_ b1 b2 b3=>?_
  ·have key:∀ n,n<=kvs.length->Vals ((kvs.take n).map fun kv=>kV kv.1) (acc.toList.take n):=by
    intro n
    induction n with
    | zero=>intro _;rw [Zta,Zta];exact .nil
    | succ n ih =>
     intro hn
     have GQ:n<acc.size:=by omega
     obtain ⟨k,x,hk,hv⟩:=hb n acc[n] (Zui GQ)
     obtain ⟨p',g1,g2⟩:=NO rel hk
     rw [ZsK,ZsK,show acc.toList[n]? = some acc[n] by simp [GQ],g1,Zss]
     exact Paired.snoc (ih (by omega)) (show bf (kV p'.1) acc[n] by rw [g2.1];exact tu hv)
   have b3:=key kvs.length (ZtJ _)
   rw [ZsI,Ztn (by rw [Zug];omega)] at b3
   have e2:(kvs.map fun kv=>kV kv.1)=ns.map V.int:=by
    have:(kvs.map (·.1)).map kV=(ns.map Sum.inl).map kV:=by rw [rY]
    rw [Zso,Zso] at this
    exact this
   rw [e2] at b3
   exact Rp b3
  ·have E7:(64:Nat)<=sizeLine:=by decide
   have qz:iN.length=ns.length:=b2.length_eq
   exact ⟨.ref l,_,I.laid (a:=l) (o:=.lst (iN.map V.int)) (h':=h') (t':=tk) kp B3 ⟨by rw [Zsh];omega,out.toList,e',Jt b1,by rw [Zul];exact at_⟩,rfl,q iN l _ b2 b3 ⟨I.aB.fresh B3,rfl⟩⟩
end L2
namespace MZ
noncomputable abbrev Ab:=Nat->Option (Option Nat)
noncomputable abbrev Cm:=Nat->Option (Option Nat)
variable {lo:Nat->List Nat}{goal:Nat->Prop}
structure Flow (lo:Nat->List Nat) (goal:Nat->Prop) (ab:Ab):Prop where
 up:∀ p q,ab p=some (some q)->p∈lo q/\ab q≠none
 top:∀ p,ab p=some none->∃ g,goal g/\p∈lo g
 inj:∀ p p' q,ab p=some (some q)->ab p'=some (some q)->p=p'
 src:∀ p,ab p≠none->lo p≠[]->∃ p',ab p'=some (some p)
 ng:∀ p,ab p≠none->¬ goal p
noncomputable def gA (lo:Nat->List Nat) (ab:Ab) (e:Nat):List Nat :=
 if e % 2=1 then (lo (e / 2)).map (fun l=>2 * l) ++ [2 * (e / 2)] else match ab (e / 2) with
  | none=>[2 * (e / 2)+1]
  | some none=>[]
  | some (some q)=>[2 * q+1]
theorem Ag {ab:Ab}{p e:Nat} (h:e∈gA lo ab (2 * p+1)):(∃ l∈lo p,e=2 * l)\/e=2 * p:=by
 unfold gA at h
 rw [if_pos (by omega),show (2 * p+1) / 2=p by omega,Zsq,Zsi,Zsl] at h
 rcases h with ⟨l,hl,rfl⟩ | h
 ·exact .inl ⟨l,hl,rfl⟩
 ·exact .inr h
theorem ua {ab:Ab}{p e:Nat} (h:e∈gA lo ab (2 * p)):(ab p=none/\e=2 * p+1)\/∃ q,ab p=some (some q)/\e=2 * q+1:=by
 unfold gA at h
 rw [if_neg (by omega),show (2 * p) / 2=p by omega] at h
 cases ha:ab p with
 | none=>rw [ha] at h;exact .inl ⟨rfl,Zsl.mp h⟩
 | some o =>
  rw [ha] at h
  cases o with
  | none=>simp at h
  | some q=>exact .inr ⟨q,rfl,Zsl.mp h⟩
structure Path (lo:Nat->List Nat) (goal:Nat->Prop) (ab:Ab) (cm:Cm) (π:Nat->Prop) (s:Nat):Prop where
 succ:∀ e,π e->e≠2 * s+1->∃ e',π e'/\cm e'=some (some e)
 pred:∀ e,π e->cm e=some none\/∃ u,π u/\cm e=some (some u)
 uniq:∀ e e' u,π e->π e'->cm e=some (some u)->cm e'=some (some u)->e=e'
 step:∀ e u,π e->cm e=some (some u)->e∈gA lo ab u
 start:∀ e,π e->cm e=some none->e % 2=0/\∃ g,goal g/\e / 2∈lo g
 fin:π (2 * s+1)
 eh:lo s=[]
 one:∀ t,π (2 * t+1)->lo t=[]->t=s
 far:∀ p,goal p->¬ π (2 * p)/\¬ π (2 * p+1)
 rk:∃ r:Nat->Nat,∀ e u,cm e=some (some u)->r u<r e
open Classical in
noncomputable def lead (ab:Ab) (cm:Cm) (π:Nat->Prop):Ab:=fun p=>if π (2 * p) then (match cm (2 * p) with
  | some none=>some none
  | some (some u)=>if u=2 * p+1 then none else some (some (u / 2))
  | none=>none) else ab p
section
variable {ab:Ab}{cm:Cm}{π:Nat->Prop}{s:Nat}
theorem pd {p:Nat} (h:¬ π (2 * p)):lead ab cm π p=ab p:=by unfold lead;rw [if_neg h]
theorem zk {p:Nat} (h:π (2 * p)) (hc:cm (2 * p)=some none):lead ab cm π p=some none:=by unfold lead;rw [if_pos h,hc]
theorem Fv {p:Nat} (h:π (2 * p)) (hc:cm (2 * p)=some (some (2 * p+1))):lead ab cm π p=none:=by unfold lead;rw [if_pos h,hc];simp
theorem rf {p u:Nat} (h:π (2 * p)) (hc:cm (2 * p)=some (some u)) (hu:u≠2 * p+1):lead ab cm π p=some (some (u / 2)):=by unfold lead;rw [if_pos h,hc];simp [hu]
variable (F:Flow lo goal ab) (P:Path lo goal ab cm π s)
include P
theorem uP {p u:Nat} (h:π (2 * p)) (hc:cm (2 * p)=some (some u)):∃ q,u=2 * q+1/\(p∈lo q\/p=q):=by
 have hs:=P.step _ _ h hc
 rcases (by omega:u=2 * (u / 2)\/u=2 * (u / 2)+1) with e | e
 ·rw [e] at hs
  rcases ua hs with ⟨_,z⟩ | ⟨q,_,z⟩ <;> omega
 ·rw [e] at hs
  refine ⟨u / 2,e,?_⟩
  rcases Ag hs with ⟨l,hl,z⟩ | z
  ·rw [show p=l by omega];exact .inl hl
  ·exact .inr (by omega)
theorem Hm {q:Nat} (h:π (2 * q+1)):(π (2 * q)/\cm (2 * q+1)=some (some (2 * q))/\ab q=none)\/∃ p,π (2 * p)/\cm (2 * q+1)=some (some (2 * p))/\ab p=some (some q):=by
 rcases P.pred _ h with hc | ⟨u,hu,hc⟩
 ·have:=(P.start _ h hc).1
  omega
 ·have hs:=P.step _ _ h hc
  rcases (by omega:u=2 * (u / 2)\/u=2 * (u / 2)+1) with e | e
  ·rw [e] at hs hc hu
   rcases ua hs with ⟨ha,z⟩ | ⟨q',ha,z⟩
   ·have:u / 2=q:=by omega
    rw [this] at ha hc hu
    exact .inl ⟨hu,hc,ha⟩
   ·have:q'=q:=by omega
    subst this
    exact .inr ⟨u / 2,hu,hc,ha⟩
  ·rw [e] at hs
   rcases Ag hs with ⟨l,hl,z⟩ | z <;> omega
include F
theorem SI {p q:Nat} (hq:ab q≠none) (h:π (2 * q+1)) (hp:ab p=some (some q)):π (2 * p)/\cm (2 * q+1)=some (some (2 * p)):=by
 rcases Hm P h with ⟨_,_,z⟩ | ⟨p',h1,h2,h3⟩
 ·exact absurd z hq
 ·rw [F.inj p p' q hp h3]
  exact ⟨h1,h2⟩
theorem Zrc {p q:Nat} (h:π (2 * p)) (hp:ab p=some (some q)):π (2 * q+1)/\cm (2 * q+1)=some (some (2 * p)):=by
 obtain ⟨e,he,hc⟩:=P.succ _ h (by omega)
 rcases ua (P.step _ _ he hc) with ⟨z,_⟩ | ⟨q',z,rfl⟩
 ·rw [hp] at z;cases z
 ·rw [hp] at z
  cases z
  exact ⟨he,hc⟩
omit F in
theorem TF {p:Nat} (h:π (2 * p)) (hp:ab p=none):π (2 * p+1)/\cm (2 * p+1)=some (some (2 * p)):=by
 obtain ⟨e,he,hc⟩:=P.succ _ h (by omega)
 rcases ua (P.step _ _ he hc) with ⟨_,rfl⟩ | ⟨q',z,_⟩
 ·exact ⟨he,hc⟩
 ·rw [hp] at z;cases z
omit F in
omit F in
theorem Zri {q:Nat} (h:π (2 * q+1)) (hq:lo q≠[]):∃ l,π (2 * l)/\cm (2 * l)=some (some (2 * q+1))/\(l∈lo q\/l=q):=by
 obtain ⟨e,he,hc⟩:=P.succ _ h (fun z=>hq ((show s=q by omega) ▸ P.eh))
 rcases Ag (P.step _ _ he hc) with ⟨l,hl,rfl⟩ | rfl
 ·exact ⟨l,he,hc,.inl hl⟩
 ·exact ⟨q,he,hc,.inr rfl⟩
omit F in
theorem SA {p:Nat} (h1:cm (2 * p)=some (some (2 * p+1))) (h2:cm (2 * p+1)=some (some (2 * p))):False:=by
 obtain ⟨r,hr⟩:=P.rk
 have a:=hr _ _ h1
 have b:=hr _ _ h2
 omega
variable (bw:∀ p l,l∈lo p->l<p)
include bw
theorem Yn:Flow lo goal (lead ab cm π):=by
 refine ⟨fun p q h=>?_,fun p h=>?_,fun p p' q h h'=>?_,fun p h hp=>?_,fun p h=>?_⟩
 ·-- up
  by_cases hp:π (2 * p)
  ·rcases P.pred _ hp with hc | ⟨u,hu,hc⟩
   ·rw [zk hp hc] at h;cases h
   ·obtain ⟨q',rfl,hl⟩:=uP P hp hc
    by_cases e:p=q'
    ·subst e
     rw [Fv hp hc] at h;cases h
    ·rw [rf hp hc (by omega)] at h
     have:q'=q:=by have:=Option.some.inj (Option.some.inj h);omega
     subst this
     refine ⟨hl.resolve_right e,fun hn=>?_⟩
     -- q' is not taken out
     by_cases hq:π (2 * q')
     ·rcases P.pred _ hq with hc2 | ⟨u2,hu2,hc2⟩
      ·rw [zk hq hc2] at hn;cases hn
      ·obtain ⟨q2,rfl,iE⟩:=uP P hq hc2
       by_cases e2:q'=q2
       ·subst e2
        have:=P.uniq _ _ _ hp hq hc hc2
        omega
       ·rw [rf hq hc2 (by omega)] at hn;cases hn
     ·rw [pd hq] at hn
      rcases Hm P hu with ⟨z,_⟩ | ⟨p3,_,_,z⟩
      ·exact hq z
      ·exact (F.up _ _ z).2 hn
  ·rw [pd hp] at h
   obtain ⟨h1,h2⟩:=F.up p q h
   refine ⟨h1,fun hn=>?_⟩
   by_cases hq:π (2 * q)
   ·rcases P.pred _ hq with hc2 | ⟨u2,hu2,hc2⟩
    ·rw [zk hq hc2] at hn;cases hn
    ·obtain ⟨q2,rfl,iE⟩:=uP P hq hc2
     by_cases e2:q=q2
     ·subst e2
      exact hp (SI F P h2 hu2 h).1
     ·rw [rf hq hc2 (by omega)] at hn;cases hn
   ·rw [pd hq] at hn
    exact h2 hn
 ·-- top
  by_cases hp:π (2 * p)
  ·rcases P.pred _ hp with hc | ⟨u,hu,hc⟩
   ·have:=(P.start _ hp hc).2
    rwa [show 2 * p / 2=p by omega] at this
   ·obtain ⟨q',rfl,hl⟩:=uP P hp hc
    by_cases e:p=q'
    ·subst e
     rw [Fv hp hc] at h;cases h
    ·rw [rf hp hc (by omega)] at h;cases h
  ·rw [pd hp] at h
   exact F.top p h
 ·-- inj
  have key:∀ p,lead ab cm π p=some (some q)->(π (2 * p)/\cm (2 * p)=some (some (2 * q+1)))\/(¬ π (2 * p)/\ab p=some (some q)):=fun p h=>by
   by_cases hp:π (2 * p)
   ·rcases P.pred _ hp with hc | ⟨u,hu,hc⟩
    ·rw [zk hp hc] at h;cases h
    ·obtain ⟨q',rfl,hl⟩:=uP P hp hc
     by_cases e:p=q'
     ·subst e
      rw [Fv hp hc] at h;cases h
     ·rw [rf hp hc (by omega)] at h
      have:q'=q:=by have:=Option.some.inj (Option.some.inj h);omega
      subst this
      exact .inl ⟨hp,hc⟩
   ·rw [pd hp] at h
    exact .inr ⟨hp,h⟩
  have mix:∀ a b,π (2 * a)->cm (2 * a)=some (some (2 * q+1))->¬ π (2 * b)->ab b=some (some q)->False:=fun a b ha hc hb gO=>by
   have X9:π (2 * q+1):=by
    rcases P.pred _ ha with z | ⟨u,hu,z⟩
    ·rw [hc] at z;cases z
    ·rw [hc] at z;cases z;exact hu
   exact hb (SI F P (F.up _ _ gO).2 X9 gO).1
  rcases key p h with ⟨a1,a2⟩ | ⟨a1,a2⟩ <;> rcases key p' h' with ⟨b1,b2⟩ | ⟨b1,b2⟩
  ·have:=P.uniq _ _ _ a1 b1 a2 b2
   omega
  ·exact (mix p p' a1 a2 b1 b2).elim
  ·exact (mix p' p b1 b2 a1 a2).elim
  ·exact F.inj p p' q a2 b2
 ·-- src
  -- behind oS foot of p a head below it
  have below:π (2 * p+1)->¬ (π (2 * p)/\cm (2 * p)=some (some (2 * p+1)))->∃ p',lead ab cm π p'=some (some p):=fun hf kd=>by
   obtain ⟨l,hl,hc,iE⟩:=Zri P hf hp
   rcases iE with iE | rfl
   ·have:=bw _ _ iE
    refine ⟨l,?_⟩
    rw [rf hl hc (by omega)]
    congr 2
    omega
   ·exact absurd ⟨hl,hc⟩ kd
  have old:ab p≠none->¬ (π (2 * p)/\cm (2 * p)=some (some (2 * p+1)))->∃ p',lead ab cm π p'=some (some p):=fun gO kd=>by
   obtain ⟨p0,h0⟩:=F.src p gO hp
   by_cases hp0:π (2 * p0)
   ·exact below (Zrc F P hp0 h0).1 kd
   ·exact ⟨p0,by rw [pd hp0];exact h0⟩
  have kd:¬ (π (2 * p)/\cm (2 * p)=some (some (2 * p+1))):=fun ⟨z1,z2⟩=>h (Fv z1 z2)
  by_cases gO:ab p=none
  ·by_cases Af:π (2 * p)
   ·exact below (TF P Af gO).1 kd
   ·rw [pd Af] at h
    exact absurd gO h
  ·exact old gO kd
 ·-- goals
  intro hg
  have:=P.far p hg
  rw [pd this.1] at h
  exact F.ng p h hg
theorem WA:ab s=none/\lead ab cm π s≠none/\∀ t,lo t=[]->t≠s->(lead ab cm π t≠none ↔ ab t≠none):=by
 have hs:π (2 * s)/\cm (2 * s+1)=some (some (2 * s))/\ab s=none:=by
  rcases Hm P P.fin with z | ⟨p,_,_,z⟩
  ·exact z
  ·have:=(F.up _ _ z).1
   rw [P.eh] at this
   simp at this
 refine ⟨hs.2.2,fun hn=>?_,fun t ht tN=>?_⟩
 ·rcases P.pred _ hs.1 with hc | ⟨u,hu,hc⟩
  ·rw [zk hs.1 hc] at hn;cases hn
  ·obtain ⟨q,rfl,hl⟩:=uP P hs.1 hc
   by_cases e:s=q
   ·subst e
    exact SA P hc hs.2.1
   ·rw [rf hs.1 hc (by omega)] at hn;cases hn
 ·by_cases hp:π (2 * t)
  ·have gO:ab t≠none:=fun z=>tN (P.one t (TF P hp z).1 ht)
   refine ⟨fun _=>gO,fun _ hn=>?_⟩
   rcases P.pred _ hp with hc | ⟨u,hu,hc⟩
   ·rw [zk hp hc] at hn;cases hn
   ·obtain ⟨q,rfl,hl⟩:=uP P hp hc
    by_cases e:t=q
    ·subst e
     exact tN (P.one _ hu ht)
    ·rw [rf hp hc (by omega)] at hn;cases hn
  ·rw [pd hp]
end
end MZ
namespace MZ
variable {lo:Nat->List Nat}{goal:Nat->Prop}{ab:Ab}
noncomputable abbrev Cs:=List (Nat × Option Nat)
noncomputable def aO (cs:Cs):Cm:=fun e=>(cs.find? fun x=>decide (x.1=e)).map (·.2)
noncomputable def keys (cs:Cs):List Nat:=cs.map (·.1)
theorem oy {cs:Cs} (nd:(keys cs).Nodup) {e:Nat}{f:Option Nat}:aO cs e=some f ↔ (e,f)∈cs:=by
 unfold aO
 induction cs with
 | nil=>simp
 | cons x r ih =>
  obtain ⟨a,b⟩:=x
  unfold keys at nd ih
  rw [Zsw,ZsX] at nd
  by_cases h:a=e
  ·subst h
   rw [ZtE (by simp),Option.map_some,Zst]
   constructor
   ·intro z
    cases z
    exact .inl rfl
   ·rintro (z | z)
    ·cases z;rfl
    ·exact absurd (Zsi.mpr ⟨_,z,rfl⟩) nd.1
  ·rw [ZtF (by simpa using h),ih nd.2,Zst]
   constructor
   ·exact .inr
   ·rintro (z | z)
    ·cases z;exact absurd rfl h
    ·exact z
structure jZ (lo:Nat->List Nat) (goal:Nat->Prop) (ab:Ab) (cs:Cs):Prop where
 nd:(keys cs).Nodup
 sf:∀ (i:Nat) e u,cs[i]? = some (e,some u)->(∃ (j:Nat) (f:Option Nat),j<i/\cs[j]? = some (u,f))/\e∈gA lo ab u/\∀ t,u=2 * t+1->lo t≠[]
 start:∀ e,(e,none)∈cs->e % 2=0/\∃ g,goal g/\e / 2∈lo g
 all:∀ g l,goal g->l∈lo g->(2 * l,none)∈cs
theorem jZ.snoc {cs:Cs} (c:jZ lo goal ab cs) {e u:Nat} (hu:u∈keys cs) (he:e ∉ keys cs) (hn:e∈gA lo ab u) (hs:∀ t,u=2 * t+1->lo t≠[]):jZ lo goal ab (cs ++ [(e,some u)]):=by
 refine ⟨?_,fun i e' u' h=>?_,fun e' h=>?_,fun g l hg hl=>ZsG _ (c.all g l hg hl)⟩
 ·unfold keys at he ⊢
  rw [Zss,Ztl]
  refine ⟨c.nd,by simp,fun x hx y hy z=>?_⟩
  simp only [Zsw,ZsY,Zsl] at hy
  subst hy
  subst z
  exact he hx
 ·rcases ZtO i cs.length with l | l
  ·rw [ZsA l] at h
   obtain ⟨⟨j,f,hj,hj2⟩,h2⟩:=c.sf i e' u' h
   exact ⟨⟨j,f,hj,by rw [ZsA (by omega)];exact hj2⟩,h2⟩
  ·have hi:i=cs.length:=by
    have:=(Zsk.mp h).1
    rw [Zsm] at this
    simp at this
    omega
   subst hi
   rw [ZsC (ZtJ _),ZtQ] at h
   cases h
   obtain ⟨x,hx,e1⟩:=Zsi.mp hu
   obtain ⟨j,hj⟩:=Ztc.mp hx
   obtain ⟨a,b⟩:=x
   cases e1
   have nV:=(Zsk.mp hj).1
   exact ⟨⟨j,b,nV,by rw [ZsA nV];exact hj⟩,hn,hs⟩
 ·rcases Zsq.mp h with z | z
  ·exact c.start e' z
  ·rw [Zsl] at z
   cases z
inductive On (cm:Cm) (t:Nat):Nat->Prop where
 | here:On cm t t
 | up {e u:Nat} (h:On cm t e) (hc:cm e=some (some u)):On cm t u
noncomputable def it (cm:Cm) (t:Nat):Nat->Option Nat
 | 0=>some t
 | i+1=>(it cm t i).bind fun e=>(cm e).join
theorem On.it {cm:Cm}{t e:Nat} (h:On cm t e):∃ i,MZ.it cm t i=some e:=by
 induction h with
 | here=>exact ⟨0,rfl⟩
 | up h hc ih =>
  obtain ⟨i,hi⟩:=ih
  exact ⟨i+1,by show (MZ.it cm t i).bind _=_;rw [hi];show (cm _).join=_;rw [hc];rfl⟩
theorem Ly {cm:Cm}{t:Nat}{r:Nat->Nat} (hr:∀ e u,cm e=some (some u)->r u<r e):∀ {i j a b:Nat},i<j->it cm t i=some a->it cm t j=some b->r b<r a:=by
 have one:∀ {i a b:Nat},it cm t i=some a->it cm t (i+1)=some b->r b<r a:=fun {i a b} ha hb=>by
  have hb:(it cm t i).bind (fun e=>(cm e).join)=some b:=hb
  rw [ha] at hb
  have hb:(cm a).join=some b:=hb
  refine hr a b ?_
  cases h:cm a with
  | none=>rw [h] at hb;cases hb
  | some o=>rw [h] at hb;rw [show o=some b from hb]
 intro i j a b Tz ha hb
 induction j generalizing b with
 | zero=>omega
 | succ j ih =>
  cases hj:it cm t j with
  | none =>
   have hb:(it cm t j).bind (fun e=>(cm e).join)=some b:=hb
   rw [hj] at hb
   cases hb
  | some c =>
   have h1:=one hj hb
   by_cases e:i=j
   ·subst e
    rw [ha] at hj
    cases hj
    exact h1
   ·exact Nat.lt_trans h1 (ih (by omega) hj)
theorem jZ.path {cs:Cs} (c:jZ lo goal ab cs) (F:Flow lo goal ab) (hg:∀ g,goal g->lo g≠[]) {s:Nat} (hs:lo s=[]) (hk:2 * s+1∈keys cs):Path lo goal ab (aO cs) (On (aO cs) (2 * s+1)) s:=by
 have fr:∀ e u,aO cs e=some (some u)->u∈keys cs/\e∈gA lo ab u/\(∀ t,u=2 * t+1->lo t≠[])/\(keys cs).idxOf u<(keys cs).idxOf e:=fun e u h=>by
  obtain ⟨i,hi⟩:=Ztc.mp ((oy c.nd).mp h)
  obtain ⟨⟨j,f,hj,hj2⟩,h2,h3⟩:=c.sf i e u hi
  have hil:=(Zsk.mp hi).1
  have key:∀ {k:Nat}{x:Nat}{y:Option Nat},cs[k]? = some (x,y)->(keys cs).idxOf x=k:=fun {k x y} hk=>by
   have B0:=(Zsk.mp hk).1
   have e1:(keys cs)[k]'(by unfold keys;rw [Zsh];exact B0)=x:=by
    unfold keys
    rw [List.getElem_map,(Zsk.mp hk).2]
   rw [<- e1]
   exact c.nd.idxOf_getElem k _
  exact ⟨Zsi.mpr ⟨_,Zsz hj2,rfl⟩,h2,h3,by rw [key hi,key hj2];exact hj⟩
 have rk:∀ e u,aO cs e=some (some u)->(keys cs).idxOf u<(keys cs).idxOf e:=fun e u h=>(fr e u h).2.2.2
 have QA:∀ e,On (aO cs) (2 * s+1) e->e∈keys cs:=fun e h=>by
  cases h with
  | here=>exact hk
  | up h hc=>exact (fr _ _ hc).1
 have got:∀ e,e∈keys cs->∃ f,aO cs e=some f:=fun e h=>by
  obtain ⟨x,hx,rfl⟩:=Zsi.mp h
  exact ⟨x.2,(oy c.nd).mpr hx⟩
 have succ:∀ e,On (aO cs) (2 * s+1) e->e≠2 * s+1->∃ e',On (aO cs) (2 * s+1) e'/\aO cs e'=some (some e):=fun e h gK=>by
  cases h with
  | here=>exact absurd rfl gK
  | up h hc=>exact ⟨_,h,hc⟩
 have ft:∀ p,goal p->¬ On (aO cs) (2 * s+1) (2 * p+1):=fun p hp h=>by
  have yE:=hg p hp
  have gO:ab p=none:=Classical.byContradiction fun z=>F.ng p z hp
  obtain ⟨e',he',hc'⟩:=succ _ h (fun z=>yE ((show s=p by omega) ▸ hs))
  have kj:=(fr _ _ hc').2.1
  rcases Ag kj with ⟨l,hl,rfl⟩ | rfl
  ·have:=(oy c.nd).mpr (c.all p l hp hl)
   rw [hc'] at this
   cases this
  ·obtain ⟨f,hf⟩:=got _ (QA _ h)
   cases f with
   | none =>
    have:=(c.start _ ((oy c.nd).mp hf)).1
    omega
   | some u =>
    have rK:=(fr _ _ hf).2.1
    rcases (by omega:u=2 * (u / 2)\/u=2 * (u / 2)+1) with e | e
    ·rw [e] at rK hf
     rcases ua rK with ⟨_,z⟩ | ⟨q,z,z2⟩
     ·rw [show u / 2=p by omega] at hf
      have a1:=rk _ _ hf
      have a2:=rk _ _ hc'
      omega
     ·rw [show q=p by omega] at z
      exact (F.up _ _ z).2 gO
    ·rw [e] at rK
     rcases Ag rK with ⟨l,_,z⟩ | z <;> omega
 refine ⟨succ,fun e h=>?_,fun e e' u h h' hc hc'=>?_,fun e u h hc=>(fr _ _ hc).2.1,fun e h hc=>c.start e ((oy c.nd).mp hc),.here,hs,fun t h ht=>?_,fun p hp=>⟨fun h=>?_,ft p hp⟩,⟨_,rk⟩⟩
 ·obtain ⟨f,hf⟩:=got _ (QA e h)
  cases f with
  | none=>exact .inl hf
  | some u=>exact .inr ⟨u,.up h hf,hf⟩
 ·obtain ⟨i,hi⟩:=h.it
  obtain ⟨j,hj⟩:=h'.it
  have ui:it (aO cs) (2 * s+1) (i+1)=some u:=by show (it _ _ i).bind _=_;rw [hi];show (aO cs e).join=_;rw [hc];rfl
  have uj:it (aO cs) (2 * s+1) (j+1)=some u:=by show (it _ _ j).bind _=_;rw [hj];show (aO cs e').join=_;rw [hc'];rfl
  rcases Zt9 i j with l | l | l
  ·have:=Ly rk (show i+1<j+1 by omega) ui uj
   omega
  ·subst l
   rw [hi] at hj
   exact Option.some.inj hj
  ·have:=Ly rk (show j+1<i+1 by omega) uj ui
   omega
 ·by_cases e:2 * t+1=2 * s+1
  ·omega
  ·obtain ⟨e',he',hc'⟩:=succ _ h e
   exact absurd ht ((fr _ _ hc').2.2.1 t rfl)
 ·have gO:ab p=none:=Classical.byContradiction fun z=>F.ng p z hp
  obtain ⟨e',he',hc'⟩:=succ _ h (by omega)
  rcases ua (fr _ _ hc').2.1 with ⟨_,rfl⟩ | ⟨q,z,_⟩
  ·exact ft p hp he'
  ·rw [gO] at z;cases z
end MZ
namespace MZ
variable {lo:Nat->List Nat}{goal:Nat->Prop}{ab:Ab}
inductive Wy (ab:Ab) (t:Nat):Nat->Prop where
 | here:Wy ab t t
 | up {p q:Nat} (h:Wy ab t p) (hp:ab p=some (some q)):Wy ab t q
theorem Wy.trans {t p q:Nat} (h:Wy ab t p) (g:Wy ab p q):Wy ab t q:=by
 induction g with
 | here=>exact h
 | up _ hp ih=>exact ih.up hp
theorem Wy.lin {t x y:Nat} (h:Wy ab t x) (g:Wy ab t y):Wy ab x y\/Wy ab y x:=by
 induction h with
 | here=>exact .inl g
 | @up p q h hp ih =>
  rcases ih with z | z
  ·cases z with
   | here=>exact .inr (Wy.here.up hp)
   | @up p' _ z hp' =>
    -- p comes to y by at least one step, oS first of which is to q
    have key:∀ {a b:Nat},Wy ab a b->a=b\/∃ c,ab a=some (some c)/\Wy ab c b:=fun {a b} w=>by
     induction w with
     | here=>exact .inl rfl
     | @up u v w hu ih2 =>
      rcases ih2 with rfl | ⟨c,hc,w2⟩
      ·exact .inr ⟨v,hu,.here⟩
      ·exact .inr ⟨c,hc,w2.up hu⟩
    rcases key (z.up hp') with e | ⟨c,hc,w⟩
    ·subst e
     exact .inr (Wy.here.up hp)
    ·rw [hp] at hc
     cases hc
     exact .inl w
  ·exact .inr (z.up hp)
theorem Wy.tD {t p:Nat} (F:Flow lo goal ab) (ht:ab t≠none) (h:Wy ab t p):ab p≠none:=by
 cases h with
 | here=>exact ht
 | up _ hp=>exact (F.up _ _ hp).2
theorem CK (F:Flow lo goal ab) (bw:∀ p l,l∈lo p->l<p):∀ p,ab p≠none->∃ t,lo t=[]/\ab t≠none/\Wy ab t p:=by
 intro p
 induction p using Nat.strongRecOn with
 | _ p ih =>
  intro hp
  by_cases hs:lo p=[]
  ·exact ⟨p,hs,hp,.here⟩
  ·obtain ⟨q,hq⟩:=F.src p hp hs
   obtain ⟨t,h1,h2,h3⟩:=ih q (bw _ _ (F.up _ _ hq).1) (by rw [hq];simp)
   exact ⟨t,h1,h2,h3.up hq⟩
theorem V7 (F:Flow lo goal ab) {t t' p:Nat} (h:Wy ab t p) (g:Wy ab t' p) (ht:lo t=[]) (oA:lo t'=[]):t=t':=by
 induction h with
 | here =>
  cases g with
  | here=>rfl
  | up g hp=>have:=(F.up _ _ hp).1;rw [ht] at this;simp at this
 | up h hp ih =>
  cases g with
  | here=>have:=(F.up _ _ hp).1;rw [oA] at this;simp at this
  | up g hp'=>exact ih (F.inj _ _ _ hp hp' ▸ g)
theorem IM (F:Flow lo goal ab) (bw:∀ p l,l∈lo p->l<p) {n:Nat} (hn:∀ p,ab p≠none->p<n):∀ (k p:Nat),n - p<=k->ab p≠none->∃ x,Wy ab p x/\ab x=some none
 | 0,p,hk,hp=>by have:=hn p hp;omega
 | k+1,p,hk,hp=>by
  cases h:ab p with
  | none=>exact absurd h hp
  | some o =>
   cases o with
   | none=>exact ⟨p,.here,h⟩
   | some q =>
    have h1:=bw _ _ (F.up _ _ h).1
    have h2:=hn p hp
    obtain ⟨x,hx,ht⟩:=IM F bw hn k q (by omega) (F.up _ _ h).2
    exact ⟨x,(Wy.here.up h).trans hx,ht⟩
structure kh (lo:Nat->List Nat) (goal:Nat->Prop) (ab:Ab) (K:Nat->Prop):Prop where
 all:∀ g l,goal g->l∈lo g->K (2 * l)
 rE:∀ e e',K e->e'∈gA lo ab e->K e'
 oF:∀ t,K (2 * t+1)->lo t≠[]
noncomputable def qu (K:Nat->Prop) (p:Nat):Prop:=K (2 * p)/\¬ K (2 * p+1)
section
variable {K:Nat->Prop} (S:kh lo goal ab K)
include S
theorem kh.low {p l:Nat} (h:K (2 * p+1)) (hl:l∈lo p):K (2 * l):=by
 refine S.rE _ _ h ?_
 unfold gA
 rw [if_pos (by omega),show (2 * p+1) / 2=p by omega]
 exact ZsG _ (Zsi.mpr ⟨l,hl,rfl⟩)
theorem kh.own {p:Nat} (h:K (2 * p+1)):K (2 * p):=by
 refine S.rE _ _ h ?_
 unfold gA
 rw [if_pos (by omega),show (2 * p+1) / 2=p by omega]
 exact ZsE _ (Zsl.mpr rfl)
theorem kh.free {p:Nat} (h:K (2 * p)) (hp:ab p=none):K (2 * p+1):=by
 refine S.rE _ _ h ?_
 unfold gA
 rw [if_neg (by omega),show 2 * p / 2=p by omega,hp]
 exact Zsl.mpr rfl
theorem kh.next {p q:Nat} (h:K (2 * p)) (hp:ab p=some (some q)):K (2 * q+1):=by
 refine S.rE _ _ h ?_
 unfold gA
 rw [if_neg (by omega),show 2 * p / 2=p by omega,hp]
 exact Zsl.mpr rfl
theorem JR {p:Nat} (h:qu K p):ab p≠none:=fun z=>h.2 (S.free h.1 z)
theorem Zqr (F:Flow lo goal ab) {t p:Nat} (ht:lo t=[]) (h:Wy ab t p) (hk:K (2 * p)):∃ x,Wy ab t x/\qu K x:=by
 induction h with
 | here=>exact ⟨_,.here,hk,fun z=>S.oF _ z ht⟩
 | @up p q h hp ih =>
  by_cases hf:K (2 * q+1)
  ·exact ih (S.low hf (F.up _ _ hp).1)
  ·exact ⟨q,h.up hp,hk,hf⟩
theorem Q8 {x y:Nat} (h:Wy ab x y) (hk:K (2 * x)):x=y\/K (2 * y+1):=by
 induction h with
 | here=>exact .inl rfl
 | @up p q h hp ih =>
  rcases ih with rfl | z
  ·exact .inr (S.next hk hp)
  ·exact .inr (S.next (S.own z) hp)
theorem Yi {t x y:Nat} (hx:Wy ab t x) (hy:Wy ab t y) (sx:qu K x) (sy:qu K y):x=y:=by
 rcases hx.lin hy with z | z
 ·rcases Q8 S z sx.1 with e | e
  ·exact e
  ·exact absurd e sy.2
 ·rcases Q8 S z sy.1 with e | e
  ·exact e.symm
  ·exact absurd e sx.2
end
theorem sZ {α β:Type} [DecidableEq β] {R:α->β->Prop} (Up:∀ a a' b,R a b->R a' b->a=a'):∀ {A:List α}{B:List β},A.Nodup->(∀ a∈A,∃ b∈B,R a b)->A.length<=B.length
 | [],B,_,_=>ZtN _
 | a :: A,B,nd,h=>by
  rw [ZsX] at nd
  obtain ⟨b,hb,hr⟩:=h a (ZsJ ..)
  have:=sZ Up (A:=A) (B:=B.erase b) nd.2 fun a' ha'=>by
   obtain ⟨b',hb',hr'⟩:=h a' (ZsD _ ha')
   refine ⟨b',?_,hr'⟩
   refine (List.mem_erase_of_ne fun e=>?_).mpr hb'
   subst e
   rw [Up a a' b' hr hr'] at nd
   exact nd.1 ha'
  rw [ZtG hb] at this
  have:0<B.length:=Zty hb
  rw [ZsB]
  omega
theorem YA {K:Nat->Prop} (S:kh lo goal ab K) (F:Flow lo goal ab) (bw:∀ p l,l∈lo p->l<p) {n:Nat} (hn:∀ p,ab p≠none->p<n) {A B:List Nat} (nA:A.Nodup) (nB:B.Nodup) (hA:∀ t,t∈A ↔ lo t=[]/\ab t≠none) (hB:∀ p,p∈B ↔ qu K p):A.length=B.length:=by
 refine Zt4 (sZ (R:=fun t p=>Wy ab t p/\lo t=[]) (fun a a' b h h'=>V7 F h.1 h'.1 h.2 h'.2) nA fun t ht=>?_) (sZ (R:=fun p t=>Wy ab t p/\qu K p) (fun a a' b h h'=>Yi S h.1 h'.1 h.2 h'.2) nB fun p hp=>?_)
 ·obtain ⟨h1,h2⟩:=(hA t).mp ht
  obtain ⟨x,hx,ho⟩:=IM F bw hn _ t (ZtJ _) h2
  obtain ⟨g,hg,hl⟩:=F.top x ho
  obtain ⟨y,hy,kj⟩:=Zqr S F h1 hx (S.all g x hg hl)
  exact ⟨y,(hB y).mpr kj,hy,h1⟩
 ·have kj:=(hB p).mp hp
  obtain ⟨t,h1,h2,h3⟩:=CK F bw p (JR S kj)
  exact ⟨t,(hA t).mpr ⟨h1,h2⟩,h3,kj⟩
end MZ
namespace MZ
noncomputable def oh (as:Cs) (p:Nat) (o:Option Nat):Cs:=if (as.any fun x=>decide (x.1=p))=true then as.map (fun x=>if x.1=p then (x.1,o) else x) else as ++ [(p,o)]
noncomputable def Ah (as:Cs) (p:Nat):Cs:=as.filter fun x=>decide (x.1≠p)
theorem Dq (as:Cs) (p:Nat):(as.any fun x=>decide (x.1=p))=true ↔ p∈keys as:=by
 unfold keys
 rw [List.any_eq_true,Zsi]
 constructor
 ·rintro ⟨x,hx,e⟩;exact ⟨x,hx,of_decide_eq_true e⟩
 ·rintro ⟨x,hx,e⟩;exact ⟨x,hx,decide_eq_true e⟩
theorem AE {as:Cs}{p:Nat}:aO as p=none ↔ p ∉ keys as:=by
 unfold aO keys
 rw [Option.map_eq_none_iff,List.find?_eq_none,Zsi]
 constructor
 ·rintro h ⟨x,hx,e⟩
  exact h x hx (decide_eq_true e)
 ·intro h x hx e
  exact h ⟨x,hx,of_decide_eq_true e⟩
theorem qV {as:Cs}{p:Nat}:aO as p≠none ↔ p∈keys as:=by
 rw [ne_eq,AE]
 exact Classical.not_not
theorem JU (as:Cs) (p:Nat) (o:Option Nat):keys (oh as p o)=if p∈keys as then keys as else keys as ++ [p]:=by
 unfold oh
 by_cases h:p∈keys as
 ·rw [if_pos ((Dq as p).mpr h),if_pos h]
  unfold keys
  rw [Zso]
  refine ZsW fun x _=>?_
  show (if x.1=p then (x.1,o) else x).1=x.1
  split <;> rfl
 ·rw [if_neg (fun z=>h ((Dq as p).mp z)),if_neg h]
  unfold keys
  rw [Zss]
  rfl
theorem Bt {as:Cs} (nd:(keys as).Nodup) (p:Nat) (o:Option Nat):(keys (oh as p o)).Nodup:=by
 rw [JU]
 split
 ·exact nd
 ·rename_i h
  rw [Ztl]
  refine ⟨nd,by simp,fun x hx y hy e=>?_⟩
  rw [Zsl] at hy
  subst hy e
  exact h hx
theorem O2 {as:Cs} (nd:(keys as).Nodup) (p:Nat) (o:Option Nat) (q:Nat):aO (oh as p o) q=if q=p then some o else aO as q:=by
 have nd':=Bt nd p o
 have mem:∀ f,(q,f)∈oh as p o ↔ if q=p then f=o else (q,f)∈as:=fun f=>by
  unfold oh
  by_cases h:p∈keys as
  ·rw [if_pos ((Dq as p).mpr h),Zsi]
   by_cases e:q=p
   ·subst e
    rw [if_pos rfl]
    constructor
    ·rintro ⟨x,_,hx⟩
     by_cases hq:x.1=q
     ·rw [if_pos hq] at hx;cases hx;rfl
     ·rw [if_neg hq] at hx;rw [hx] at hq;exact absurd rfl hq
    ·rintro rfl
     obtain ⟨x,hx,e⟩:=Zsi.mp h
     exact ⟨x,hx,by rw [if_pos e,e]⟩
   ·rw [if_neg e]
    constructor
    ·rintro ⟨x,hm,hx⟩
     by_cases hq:x.1=p
     ·rw [if_pos hq] at hx;cases hx;exact absurd hq e
     ·rw [if_neg hq] at hx;rw [<- hx];exact hm
    ·intro hm
     exact ⟨_,hm,by rw [if_neg e]⟩
  ·rw [if_neg (fun z=>h ((Dq as p).mp z)),Zsq,Zsl]
   by_cases e:q=p
   ·subst e
    rw [if_pos rfl]
    constructor
    ·rintro (z | z)
     ·exact absurd (Zsi.mpr ⟨_,z,rfl⟩) h
     ·cases z;rfl
    ·rintro rfl;exact .inr rfl
   ·rw [if_neg e]
    constructor
    ·rintro (z | z)
     ·exact z
     ·cases z;exact absurd rfl e
    ·exact .inl
 by_cases e:q=p
 ·rw [if_pos e]
  exact (oy nd').mpr ((mem o).mpr (by rw [if_pos e]))
 ·rw [if_neg e]
  cases h:aO as q with
  | some f=>exact (oy nd').mpr ((mem f).mpr (by rw [if_neg e];exact (oy nd).mp h))
  | none =>
   rw [AE] at h ⊢
   rw [JU]
   split
   ·exact h
   ·rw [Zsq,Zsl]
    exact fun z=>z.elim h e
theorem TJ {as:Cs} (nd:(keys as).Nodup) (p:Nat):(keys (Ah as p)).Nodup:=by
 unfold keys Ah
 exact Ztw.sublist ((List.filter_sublist).map _) nd
theorem Xo {as:Cs} (nd:(keys as).Nodup) (p q:Nat):aO (Ah as p) q=if q=p then none else aO as q:=by
 have nd':=TJ nd p
 by_cases e:q=p
 ·rw [if_pos e,AE]
  intro h
  obtain ⟨x,hx,e2⟩:=Zsi.mp h
  have:=(ZsS.mp hx).2
  simp at this
  exact this (e2.trans e)
 ·rw [if_neg e]
  cases h:aO as q with
  | some f=>exact (oy nd').mpr (ZsS.mpr ⟨(oy nd).mp h,by simpa using e⟩)
  | none =>
   rw [AE] at h ⊢
   intro z
   obtain ⟨x,hx,e2⟩:=Zsi.mp z
   exact h (Zsi.mpr ⟨x,(ZsS.mp hx).1,e2⟩)
noncomputable def nG (cm:Cm) (t i:Nat) (e:Nat):Prop:=∃ j,j<i/\it cm t j=some e
theorem Zqc {cm:Cm}{t i:Nat}{e:Nat} (h:it cm t i=none):nG cm t i e ↔ On cm t e:=by
  have on:∀ {j a},it cm t j=some a->On cm t a:=by
    intro j
    induction j with
    | zero=>intro a ha;cases ha;exact .here
    | succ j ih =>
      intro a ha
      have ha:(it cm t j).bind (fun e=>(cm e).join)=some a:=ha
      cases hj:it cm t j with
      | none=>rw [hj] at ha;cases ha
      | some b =>
        rw [hj] at ha
        have ha:(cm b).join=some a:=ha
        refine (ih hj).up ?_
        cases hc:cm b with
        | none=>rw [hc] at ha;cases ha
        | some o=>rw [hc] at ha;rw [show o=some a from ha]
  have og:∀ j,i<=j->it cm t j=none:=by
    intro j
    induction j with
    | zero => intro hj; have : i = 0 := by omega
              subst this;exact h
    | succ j ih =>
      intro hj
      by_cases e:i=j+1
      · subst e;exact h
      · show (it cm t j).bind _=none
        rw [ih (by omega)]
        rfl
  constructor
  · rintro ⟨j,_,hj⟩
    exact on hj
  · intro ho
    obtain ⟨j,hj⟩:=ho.it
    refine ⟨j,ZtV fun hle=>?_,hj⟩
    rw [og j hle] at hj
    cases hj
theorem Xh {ab:Ab}{cm:Cm}{π π':Nat->Prop} (h:∀ e,π e ↔ π' e):lead ab cm π=lead ab cm π':=by
 have:π=π':=funext fun e=>propext (h e)
 rw [this]
theorem YH {ab:Ab}{cm:Cm}{t:Nat}:lead ab cm (nG cm t 0)=ab:=by
 funext p
 exact pd (fun ⟨j,hj,_⟩=>by omega)
theorem SY {ab:Ab}{cm:Cm}{t i e p:Nat} (h:it cm t i=some e) (hp:2 * p≠e):lead ab cm (nG cm t (i+1)) p=lead ab cm (nG cm t i) p:=by
 have:nG cm t (i+1) (2 * p) ↔ nG cm t i (2 * p):=by
  constructor
  ·rintro ⟨j,hj,hj2⟩
   by_cases e1:j=i
   ·subst e1;rw [h] at hj2;exact absurd (Option.some.inj hj2).symm hp
   ·exact ⟨j,by omega,hj2⟩
  ·rintro ⟨j,hj,hj2⟩
   exact ⟨j,by omega,hj2⟩
 unfold lead
 by_cases g:nG cm t i (2 * p)
 ·rw [if_pos g,if_pos (this.mpr g)]
 ·rw [if_neg g,if_neg (fun z=>g (this.mp z))]
theorem ZY {cm:Cm}{t i e:Nat} (h:it cm t i=some e):nG cm t (i+1) e:=⟨i,by omega,h⟩
end MZ
namespace ML
open MZ
inductive Dn (lo:Nat->List Nat) (k:Nat):Nat->Prop where
 | here:Dn lo k k
 | low {y x:Nat} (h:Dn lo k y) (hx:x∈lo y):Dn lo k x
inductive fQ (lo:Nat->List Nat) (C:Nat->Prop):Nat->Prop where
 | eh {p:Nat}:¬ C p->lo p=[]->fQ lo C p
 | up {p l:Nat}:¬ C p->l∈lo p->fQ lo C l->fQ lo C p
variable {lo:Nat->List Nat}
theorem Dn.trans {k y x:Nat} (h:Dn lo k y) (g:Dn lo y x):Dn lo k x:=by
 induction g with
 | here=>exact h
 | low _ hx ih=>exact ih.low hx
theorem Dn.le (bw:∀ p l,l∈lo p->l<p) {k x:Nat} (h:Dn lo k x):x<=k:=by
 induction h with
 | here=>exact ZtJ _
 | low _ hx ih=>have:=bw _ _ hx;omega
theorem Dn.first {k x:Nat} (h:Dn lo k x):x=k\/∃ l∈lo k,Dn lo l x:=by
 induction h with
 | here=>exact .inl rfl
 | low _ hx ih =>
  rcases ih with rfl | ⟨l,hl,g⟩
  ·exact .inr ⟨_,hx,.here⟩
  ·exact .inr ⟨l,hl,g.low hx⟩
theorem fQ.lift {C:Nat->Prop}{k z:Nat} (h:Dn lo k z) (hC:∀ y,Dn lo k y->Dn lo y z->¬ C y) (w:fQ lo C z):fQ lo C k:=by
 induction h with
 | here=>exact w
 | @low y x h hx ih=>exact ih (fun v h1 h2=>hC v h1 (h2.low hx)) (.up (hC y h (.low .here hx)) hx w)
theorem Xa (bw:∀ p l,l∈lo p->l<p):∀ n p:Nat,p<n->fQ lo (fun c=>c∈([]:List Nat)) p:=by
 intro n
 induction n with
 | zero=>intro p hp;omega
 | succ n ih =>
  intro p hp
  cases h:lo p with
  | nil=>exact .eh (by simp) h
  | cons x r =>
   have hx:x∈lo p:=by rw [h];exact ZsJ ..
   exact .up (by simp) hx (ih x (by have:=bw p x hx;omega))
theorem Zq6 {ab:Ab}{goal:Nat->Prop}{C:Nat->Prop} (F:Flow lo goal ab) {t:Nat} (ht:lo t=[]) {p:Nat} (h:Wy ab t p) (hC:∀ x,Wy ab t x->¬ C x):fQ lo C p:=by
 induction h with
 | here=>exact .eh (hC _ .here) ht
 | up h hp ih=>exact .up (hC _ (h.up hp)) (F.up _ _ hp).1 ih
theorem X8 {ab:Ab}{goal:Nat->Prop}{K:Nat->Prop} (S:kh lo goal ab K) {C:Nat->Prop} (hC:∀ p,qu K p->C p) {x:Nat} (h:fQ lo C x):¬ K (2 * x):=by
 induction h with
 | eh nb hl =>
  intro hk
  exact nb (hC _ ⟨hk,fun z=>S.oF _ z hl⟩)
 | up nb hl _ ih =>
  intro hk
  exact nb (hC _ ⟨hk,fun z=>ih (S.low z hl)⟩)
theorem B9 {ab:Ab}{goal:Nat->Prop} (F:Flow lo goal ab) {p x:Nat} (h:Wy ab p x):Dn lo x p:=by
 induction h with
 | here=>exact .here
 | up h hp ih=>exact (Dn.low .here (F.up _ _ hp).1).trans ih
structure kG (lo:Nat->List Nat) (lv:Nat->Nat) (s k:Nat) (C:List Nat):Prop where
 mono:∀ l∈lo k,lv l<=lv k
 jD:C.Pairwise (· < ·)
 len:C.length<=s
 dn:∀ c∈C,Dn lo k c/\c≠k
 le:∀ c∈C,lv c+1<=lv k
 oF:∀ l∈lo k,¬ fQ lo (fun c=>c∈C) l
 low:∀ B:List Nat,B.length<=s->(∀ l∈lo k,¬ fQ lo (fun c=>c∈B) l)->∃ c∈B,lv k<=lv c+1
theorem kG.top {lv:Nat->Nat}{s k:Nat}{C:List Nat} (h:kG lo lv s k C):∃ c∈C,lv c+1=lv k:=by
 obtain ⟨c,hc,z⟩:=h.low C h.len h.oF
 have:=h.le c hc
 exact ⟨c,hc,by omega⟩
theorem kG.ext {lv oE:Nat->Nat}{s k:Nat}{C:List Nat} (bw:∀ p l,l∈lo p->l<p) (h:kG lo lv s k C) (he:∀ x,x<=k->oE x=lv x) (hm:∀ x,lv x<=oE x):kG lo oE s k C where
 mono:=fun l hl=>by
  rw [he k (ZtJ _),he l (by have:=bw k l hl;omega)]
  exact h.mono l hl
 jD:=h.jD
 len:=h.len
 dn:=h.dn
 le:=fun c hc=>by
  rw [he k (ZtJ _),he c ((h.dn c hc).1.le bw)]
  exact h.le c hc
 oF:=h.oF
 low:=fun B hB hd=>by
  obtain ⟨c,hc,z⟩:=h.low B hB hd
  exact ⟨c,hc,by rw [he k (ZtJ _)];have:=hm c;omega⟩
section
variable {lv:Nat->Nat}{s k g:Nat} (bw:∀ p l,l∈lo p->l<p) (gK:lo k≠[])
include bw
theorem UD (hm:∀ y,y<k->∀ l∈lo y,lv l<=lv y) {y x:Nat} (h:Dn lo y x) (hy:y<k):lv x<=lv y:=by
 induction h with
 | here=>exact ZtJ _
 | @low z x h hx ih =>
  have:=h.le bw
  have:=hm z (by omega) x hx
  omega
include gK
theorem UB:∀ l∈lo k,¬ fQ lo (fun c=>c∈lo k) l:=fun l hl w=>by
 cases w with
 | eh n _=>exact n hl
 | up n _ _=>exact n hl
theorem Zq7 (hr:(lo k).Pairwise (· < ·)) (h2:(lo k).length<=s) (h0:∀ l∈lo k,lv l=0) (hk:lv k=1):kG lo lv s k (lo k) where
 mono:=fun l hl=>by rw [h0 l hl];omega
 jD:=hr
 len:=h2
 dn:=fun c hc=>⟨.low .here hc,by have:=bw k c hc;omega⟩
 le:=fun c hc=>by rw [h0 c hc,hk];omega
 oF:=UB bw gK
 low:=fun B hB hd=>by
  cases B with
  | cons c B=>exact ⟨c,ZsJ ..,by omega⟩
  | nil =>
   obtain ⟨l,hl⟩:=List.exists_mem_of_ne_nil _ gK
   exact absurd (Xa bw (l+1) l (by omega)) (hd l hl)
theorem Zx (hr:(lo k).Pairwise (· < ·)) (h2:(lo k).length<=s) (hm:∀ y,y<k->∀ l∈lo y,lv l<=lv y) (hg:∀ l∈lo k,lv l<=g) (hk:lv k=g+1) {goal:Nat->Prop}{ab:Ab} (F:Flow lo goal ab)
  (mI:∀ z,goal z->z=k\/(Dn lo k z/\lv z=g)) {n:Nat} (hn:∀ p,ab p≠none->p<n) {ss:List Nat} (nd:ss.Nodup) (mem:∀ t,t∈ss ↔ lo t=[]/\ab t≠none) (hs:ss.length=s+1):kG lo lv s k (lo k) where
 mono:=fun l hl=>by have:=hg l hl;omega
 jD:=hr
 len:=h2
 dn:=fun c hc=>⟨.low .here hc,by have:=bw k c hc;omega⟩
 le:=fun c hc=>by have:=hg c hc;omega
 oF:=UB bw gK
 low:=fun B hB hd=>by
  refine Classical.byContradiction fun kd=>?_
  have GV:∀ c∈B,lv c<g:=fun c hc=>ZtV fun z=>kd ⟨c,hc,by omega⟩
  have:ss.length<=B.length:=by
   refine sZ (R:=fun t p=>lo t=[]/\Wy ab t p) (fun a a' b h h'=>V7 F h.2 h'.2 h.1 h'.1) nd fun t ht=>?_
   obtain ⟨h1,h2⟩:=(mem t).mp ht
   refine Classical.byContradiction fun hb=>?_
   have hB':∀ x,Wy ab t x->¬ x∈B:=fun x hx z=>hb ⟨x,z,h1,hx⟩
   obtain ⟨x,hx,hxt⟩:=IM F bw hn (n - t) t (ZtJ _) h2
   obtain ⟨z,hz,hl⟩:=F.top x hxt
   have w:=Zq6 (C:=fun c=>c∈B) F h1 hx hB'
   rcases mI z hz with rfl | ⟨yq,hd2⟩
   ·exact hd x hl w
   ·have nz:¬ z∈B:=fun e=>by have:=GV z e;omega
    have wz:fQ lo (fun c=>c∈B) z:=.up nz hl w
    rcases yq.first with rfl | ⟨l,oG,KR⟩
    ·exact hd x hl w
    ·refine hd l oG (fQ.lift KR (fun y _ h2 e=>?_) wz)
     have hy:=GV y e
     rename_i h1y
     have h3:=h1y.le bw
     have h4:=bw k l oG
     have:=UD bw hm h2 (by omega)
     omega
  omega
theorem MY (hm:∀ y,y<k->∀ l∈lo y,lv l<=lv y) (hg:∀ l∈lo k,lv l<=g) {goal:Nat->Prop}{ab:Ab} (F:Flow lo goal ab)
  (mI:∀ z,goal z ↔ z=k\/(Dn lo k z/\lv z=g)) {n:Nat} (hn:∀ p,ab p≠none->p<n) {c:Nat} (hd:ab c≠none):Dn lo k c/\c≠k/\lv c<g:=by
 have Q3:=F.ng c hd
 obtain ⟨x,hx,hxt⟩:=IM F bw hn (n - c) c (ZtJ _) hd
 obtain ⟨z,hz,hlz⟩:=F.top x hxt
 have dz:Dn lo k z:=by
  rcases (mI z).mp hz with rfl | ⟨h,_⟩
  ·exact .here
  ·exact h
 have dc:=(dz.low hlz).trans (B9 F hx)
 have nk:c≠k:=fun e=>Q3 ((mI c).mpr (.inl e))
 have ng:lv c≠g:=fun e=>Q3 ((mI c).mpr (.inr ⟨dc,e⟩))
 refine ⟨dc,nk,?_⟩
 rcases dc.first with e | ⟨l',hl',dl⟩
 ·exact absurd e nk
 ·have:=UD bw hm dl (bw k l' hl')
  have:=hg l' hl'
  omega
theorem Zo7 (hm:∀ y,y<k->∀ l∈lo y,lv l<=lv y) (hg:∀ l∈lo k,lv l<=g) (hk:lv k=g) {goal:Nat->Prop}{ab:Ab} (F:Flow lo goal ab)
  (mI:∀ z,goal z ↔ z=k\/(Dn lo k z/\lv z=g)) {n:Nat} (hn:∀ p,ab p≠none->p<n) {ss:List Nat} (nd:ss.Nodup) (mem:∀ t,t∈ss ↔ lo t=[]/\ab t≠none) (hs:ss.length<=s)
  {K:Nat->Prop} (S:kh lo goal ab K) {C:List Nat} (hr:C.Pairwise (· < ·)) (hC:∀ p,p∈C ↔ qu K p) {l:Nat}{Cl:List Nat} (hl:l∈lo k) (HV:lv l=g) (hL:kG lo lv s l Cl):kG lo lv s k C where
 mono:=fun l hl=>by have:=hg l hl;omega
 jD:=hr
 len:=by
  have:=YA S F bw hn nd (hr.imp fun h=>ZtK h) mem hC
  omega
 dn:=fun c hc=>by
  have:=MY bw gK hm hg F mI hn (JR S ((hC c).mp hc))
  exact ⟨this.1,this.2.1⟩
 le:=fun c hc=>by
  have:=MY bw gK hm hg F mI hn (JR S ((hC c).mp hc))
  omega
 oF:=fun l hl w=>X8 S (fun p hp=>(hC p).mpr hp) w (S.all k l ((mI k).mpr (.inl rfl)) hl)
 low:=fun B hB hd=>by
  by_cases e:l∈B
  ·exact ⟨l,e,by omega⟩
  ·have KR:=hd l hl
   obtain ⟨c,hc,z⟩:=hL.low B hB fun x hx w=>KR (.up e hx w)
   exact ⟨c,hc,by omega⟩
end
end ML
namespace MP
open MF (Sub)
noncomputable abbrev Pc:=Int × List Int × Int
noncomputable def base (m L:Nat) (x:Int):Bool:=decide (1<=x/\x<=m) && L.testBit (x - 1).toNat
noncomputable def pcS (F:Nat) (lit:List Nat) (c:Nat):List Nat:=(Zsj (lit.length / 2)).map fun i=>(c &&& lit.getD (2 * i+1) 0) ||| ((F ^^^ c) &&& lit.getD (2 * i) 0)
noncomputable def sQ:List Nat->Nat
 | []=>0
 | x :: r=>max x (sQ r)
noncomputable def nN (d:Int->Nat) (p:Pc):Int->Nat:=fun x=>if x=p.1 then 1+sQ (p.2.1.map d) else d x
noncomputable def gW (ps:List Pc):Int->Nat:=ps.foldl nN fun _=>0
theorem L8 (ps:List Pc) (p:Pc):gW (ps ++ [p])=nN (gW ps) p:=by unfold gW;rw [List.foldl_append];rfl
theorem QT {n:Nat}:∀ {l:List Nat},(∀ x∈l,x<=n)->sQ l<=n
 | [],_=>ZtN _
 | x :: r,h=>Nat.max_le.mpr ⟨h x (ZsJ ..),QT fun y hy=>h y (ZsD _ hy)⟩
theorem UL:∀ {l:List Nat}{x:Nat},x∈l->x<=sQ l
 | y :: r,x,h=>by
  rcases Zst.mp h with rfl | h;skip
  ·exact Nat.le_max_left ..
  ·exact ZtL (UL h) (Nat.le_max_right ..)
theorem PF {l:List Nat}{M:Nat} (hm:M∈l) (h:∀ x∈l,x<=M):sQ l=M:=Zt4 (QT h) (UL hm)
end MP
namespace L2
open PySem PySem.Spec PyProof.Rows
noncomputable def OS (td ty:TE):TE:=fun σ H Q=>td σ H fun x H1=>∃ a,x=.ref a/\Jj H1 a/\ty σ H1 fun y H2=>∃ b kvs more,y=.ref b/\a≠b/\H2 a=some (.dK kvs)/\H2 b=some (.dK more)/\kvs.length+more.length<=sizeLine/\Q .non (upd H2 a (.dK (eO kvs more)))
section
variable {X:Cx}{o e:Expr}{apos cg:Pos}{td ty:TE}
theorem ZI (ho:PE X o td) (he:PE X e ty) (m:M1 X o "update" apos e cg):PE X (.Call (.Attribute o "update" apos) [e] [] cg) (OS td ty):=by
 intro pins s σ H Q I h
 refine wpAny_Call_method m.base m.Hq m.line Zsc Zsg PySem.F.type_dict_update (aV (ho pins s σ H _ I h) fun u s1 ⟨x,H1,I1,rx,a,ex,d,q1⟩=>?_)
 subst ex
 obtain rfl:u=Value.ref a:=rx
 obtain ⟨t1,t2,_⟩:=Mu I1 d
 refine ⟨t1,t2,?_⟩
 rw [m.trees]
 refine Calls.callWith_builtin rfl (Calls.evalArgs_plain (Calls.spliced_cons (aV (he pins s1 σ H1 _ I1 q1) fun iv s2 ⟨y,H2,I2,ry,b,kvs,more,ey,gO,ha,hb,hz,q2⟩=>Calls.spliced_nil ?_)))
 subst ey
 obtain rfl:iv=Value.ref b:=ry
 obtain ⟨za,hda,vs,rel,dd⟩:=Ii I2.aB ha
 obtain ⟨zb,lS,ws,rew,ddb⟩:=Ii I2.aB hb
 refine call_meetsIn Zsg dd.typeIs PySem.F.entry_dict_update (PySem.F.args_dict_update_2 _ _) (meets_dict_update (ij X.prog X.w) a b gO lS) ⟨vs,ws,dd,ddb,?_,fun h' dd' _ hs=>⟨.non,_,?_,rfl,q2⟩⟩
 ·rw [<- rel.length,<- rew.length];exact hz
 ·have hz':(eO kvs more).length<=sizeLine:=ZtL (zH more kvs) hz
  have he:∃ q,h'.get? a=some q:=let ⟨q,_,_,hq,_⟩:=dd';⟨q,hq⟩
  exact HH I2 (by rw [ha];exact True.intro) hs he (Es hz' hda (rew.merge rel) dd')
end
end L2
set_option maxHeartbeats 4000000
namespace vQ
open PySem PySem.Spec PyProof.Rows L2
noncomputable def top (i:Nat):Stmt:=PySem.Challenge.pw_gatefold_k37_laid_as_deep_as_labels.main.body.getD i (.Pass ⟨0,0,0,0⟩)
noncomputable abbrev Fq:Stmt:=top 1
noncomputable abbrev Sg:List Str:=["many"]
local macro_rules | `(tactic| walk_at "s")=>`(tactic| exact ⟨rfl,rfl,rfl,by decide +kernel,rfl,by decide +kernel,by decide +kernel⟩)
theorem Zhz:ak Sg ["many"] (aW Fq):=by walk_at "s"
noncomputable abbrev AI:Stmt:=top 2
noncomputable abbrev LN:List Str:=["many","columns","every","width","place"]
theorem sM:ak LN ["many"] (aW AI):=by walk_at "s"
noncomputable abbrev Bg:Stmt:=top 14
noncomputable abbrev Qs:List Str:=["lit","pair","every"]
theorem Zkw:ak Qs ["lit","pair","every"] (aW Bg):=by walk_at "s"
noncomputable abbrev Bj:Stmt:=top 15
noncomputable abbrev Rn:List Str:=["lit","tie","every"]
theorem Wr:ak Rn ["lit","tie","every"] (aW Bj):=by walk_at "s"
noncomputable abbrev Fo:Stmt:=top 17
noncomputable abbrev VG:List Str:=["thing"]
theorem Zkx:ak VG ["thing"] (aW Fo):=by walk_at "s"
noncomputable abbrev Dt:Stmt:=top 18
noncomputable abbrev Qx:List Str:=["thing","least","greatest"]
theorem Wm:ak Qx ["thing","least","greatest"] (aW Dt):=by walk_at "s"
noncomputable abbrev AA:Stmt:=top 19
noncomputable abbrev L3:List Str:=["numbers"]
theorem YM:ak L3 ["numbers"] (aW AA):=by walk_at "s"
noncomputable abbrev Ae:Stmt:=top 24
noncomputable abbrev KY:List Str:=["cut","lowers"]
theorem W8:ak KY ["cut","lowers"] (aW Ae):=by walk_at "s"
noncomputable abbrev Ak:Stmt:=top 25
noncomputable abbrev P0:List Str:=["many","pieces","lowers","top","knot","cut","table"]
theorem xF:ak P0 ["many","pieces"] (aW Ak):=by walk_at "s"
noncomputable abbrev AY:Stmt:=top 26
noncomputable abbrev SK:List Str:=["ties","lowers","tie"]
theorem RA:ak SK ["ties","lowers"] (aW AY):=by walk_at "s"
noncomputable abbrev z9:Stmt:=cM (top 28) 0
noncomputable abbrev K2:List Str:=["self","many","pieces","ties"]
theorem ZfN:ak K2 ["self","many","pieces","ties"] (aW z9):=by walk_at "s"
noncomputable abbrev z8:Stmt:=cM (top 28) 1
noncomputable abbrev O1:List Str:=["self"]
theorem Xi:ak O1 ["self"] (aW z8):=by walk_at "s"
noncomputable abbrev Dp:Stmt:=cM (top 28) 2
noncomputable abbrev SM:List Str:=["self"]
theorem ZiB:ak SM ["self"] (aW Dp):=by walk_at "s"
noncomputable abbrev tw:Stmt:=cM (top 28) 4
noncomputable abbrev Gi:List Str:=["self","deep","knot","cut","table"]
theorem GA:ak Gi ["self"] (aW tw):=by walk_at "s"
noncomputable abbrev zM:Stmt:=top 30
noncomputable abbrev MX:List Str:=["fold","knots","stops","seen","knot","tie"]
theorem E8:ak MX ["fold","knots","stops"] (aW zM):=by walk_at "s"
noncomputable abbrev F6:Stmt:=top 31
noncomputable abbrev Si:List Str:=["fold","knot"]
theorem Zqy:ak Si ["fold","knot"] (aW F6):=by walk_at "s"
noncomputable abbrev rm:Stmt:=top 32
noncomputable abbrev Am:List Str:=["fold","knot","some","within","stops"]
theorem Kt:ak Am ["fold","knot","some"] (aW rm):=by walk_at "s"
noncomputable abbrev G7:Stmt:=top 34
noncomputable abbrev Rw:List Str:=["place"]
theorem YJ:ak Rw ["place"] (aW G7):=by walk_at "s"
noncomputable abbrev Gj:Stmt:=top 35
noncomputable abbrev Va:List Str:=["place"]
theorem Zqx:ak Va ["place"] (aW Gj):=by walk_at "s"
noncomputable abbrev EE:Stmt:=top 36
noncomputable abbrev RE:List Str:=["maze","goals","goal"]
theorem VT:ak RE ["maze","goals"] (aW EE):=by walk_at "s"
noncomputable abbrev AK:Stmt:=top 37
noncomputable abbrev Mp:List Str:=["maze","above","end","place"]
theorem Ue:ak Mp ["maze","above","end"] (aW AK):=by walk_at "s"
noncomputable abbrev Be:Stmt:=top 38
noncomputable abbrev U0:List Str:=["maze","goals","above","came","goal","lower","waiting","end","place","ahead"]
theorem tH:ak U0 ["maze","goals","above"] (aW Be):=by walk_at "s"
noncomputable abbrev GI:Stmt:=top 39
noncomputable abbrev SW:List Str:=["above","came","spring","end","place","upper"]
theorem BB:ak SW ["above","came","spring"] (aW GI):=by walk_at "s"
noncomputable abbrev Eg:Stmt:=top 40
noncomputable abbrev Rv:List Str:=["above","spring","way"]
theorem RO:ak Rv ["above","spring"] (aW Eg):=by walk_at "s"
noncomputable abbrev uh:Stmt:=top 41
noncomputable abbrev HG:List Str:=["maze","above","springs"]
theorem Vv:ak HG ["maze","above"] (aW uh):=by walk_at "s"
noncomputable abbrev Ao:Stmt:=top 42
noncomputable abbrev Ke:List Str:=["came"]
theorem WI:ak Ke ["came"] (aW Ao):=by walk_at "s"
noncomputable abbrev CN:Stmt:=top 43
noncomputable abbrev QM:List Str:=["maze","goals","most","above","number","found"]
theorem Ig:ak QM ["maze","goals","most"] (aW CN):=by walk_at "s"
noncomputable abbrev Em:Stmt:=top 47
noncomputable abbrev VC:List Str:=["size"]
theorem Yz:ak VC ["size"] (aW Em):=by walk_at "s"
noncomputable abbrev Fj:Stmt:=top 48
noncomputable abbrev VX:List Str:=["fold","maze","knot","pair"]
theorem IQ:ak VX ["fold"] (aW Fj):=by walk_at "s"
noncomputable abbrev Du:Stmt:=cM (top 49) 0
noncomputable abbrev Qu:List Str:=["self","fold","size","maze","knot"]
theorem Mi:ak Qu ["self","fold","size"] (aW Du):=by walk_at "s"
noncomputable abbrev sG:Stmt:=cM (top 49) 1
noncomputable abbrev Hg:List Str:=["self","maze","inner","size","knot","lowers","greatest","goals","told","same"]
theorem wA:ak Hg ["self","maze","inner","size"] (aW sG):=by walk_at "s"
noncomputable abbrev GO:Stmt:=cM (top 49) 2
noncomputable abbrev Ry:List Str:=["self","knot","level","cut","ways"]
theorem WM:ak Ry ["self","knot","level","cut","ways"] (aW GO):=by walk_at "s"
noncomputable abbrev Bw:Stmt:=cM (top 49) 3
noncomputable abbrev RC:List Str:=["self","knot"]
theorem V9:ak RC ["self","knot"] (aW Bw):=by walk_at "s"
noncomputable abbrev G9:Stmt:=cM (top 49) 4
noncomputable abbrev Vx:List Str:=["self","knot"]
theorem ZM:ak Vx ["self","knot"] (aW G9):=by walk_at "s"
noncomputable abbrev A4:Stmt:=cM (top 49) 5
noncomputable abbrev Tx:List Str:=["self","knot"]
theorem ZK:ak Tx ["self","knot"] (aW A4):=by walk_at "s"
noncomputable abbrev z7:Stmt:=top 51
noncomputable abbrev Oi:List Str:=["fold","knot","cut","every","lit","between","lower"]
theorem GL:ak Oi ["fold","knot","cut"] (aW z7):=by walk_at "s"
noncomputable abbrev wK:Stmt:=top 53
noncomputable abbrev Iz:List Str:=["fold","ties","size","labels","needed","pieces","knot","cut"]
theorem AB:ak Iz ["fold","ties","size"] (aW wK):=by walk_at "s"
noncomputable abbrev Gb:Stmt:=top 57
noncomputable abbrev Rx:List Str:=["tie"]
theorem Zm3:ak Rx ["tie"] (aW Gb):=by walk_at "s"
noncomputable abbrev E2:Stmt:=cM (top 58) 0
noncomputable abbrev P5:List Str:=["self","many"]
theorem WD:ak P5 ["self","many"] (aW E2):=by walk_at "s"
noncomputable abbrev Bz:Stmt:=cM (top 58) 1
noncomputable abbrev QY:List Str:=["self"]
theorem ZiA:ak QY ["self"] (aW Bz):=by walk_at "s"
noncomputable abbrev Fp:Stmt:=cM (top 58) 2
noncomputable abbrev P6:List Str:=["self","tie"]
theorem XZ:ak P6 ["self","tie"] (aW Fp):=by walk_at "s"
noncomputable abbrev BU:Stmt:=cM (top 58) 3
noncomputable abbrev Vw:List Str:=["self","knot"]
theorem Zjw:ak Vw ["self","knot"] (aW BU):=by walk_at "s"
noncomputable abbrev A7:Stmt:=cM (top 58) 4
noncomputable abbrev Ta:List Str:=["self","one","other","first","second"]
theorem MW:ak Ta ["self","one","other"] (aW A7):=by walk_at "s"
noncomputable abbrev E1:Stmt:=cM (top 58) 5
noncomputable abbrev SH:List Str:=["self","ties"]
theorem Zgv:ak SH ["self","ties"] (aW E1):=by walk_at "s"
noncomputable abbrev DV:Stmt:=top 60
noncomputable abbrev R5:List Str:=["_law_script","_law_k"]
theorem Zhy:ak R5 ["_law_script","_law_k"] (aW DV):=by walk_at "s"
noncomputable abbrev FR:Stmt:=top 61
noncomputable abbrev Qg:List Str:=["_law_script","_law_many","_law_fold","_law_top","_law_k","_law_cell","_law_last","_law_one","_law_other"]
theorem qy:ak Qg ["_law_script","_law_many"] (aW FR):=by walk_at "s"
noncomputable abbrev vc:Stmt:=top 62
noncomputable abbrev Hk:List Str:=["_law_board","_law_depth","_law_knot","_law_cut","_law_bits"]
theorem BI:ak Hk ["_law_board"] (aW vc):=by walk_at "s"
noncomputable abbrev Al:Stmt:=top 63
noncomputable abbrev KW:List Str:=["_law_script","_law_many","_law_fold","_law_total","_law_ties","_law_j","_law_before","_law_size","_law_board","_law_found","_law_marks","_law_knot","_law_cut","_law_bits"]
theorem ly:ak KW ["_law_script"] (aW Al):=by walk_at "s"
structure bZ where
 dH:Addr
 gf:FuncData
 cO:Addr
 eF:FuncData
 gh:Addr
 jc:FuncData
 gR:Addr
 jH:FuncData
 gq:Addr
 i6:FuncData
 dY:Addr
 gH:FuncData
 fA:Addr
 iq:FuncData
 fD:Addr
 ia:FuncData
 dF:Addr
 fX:FuncData
 e7:Addr
 iw:FuncData
 bS:Addr
 dP:FuncData
 dh:Addr
 e8:FuncData
 dX:Addr
 gL:FuncData
 dm:Addr
 eW:FuncData
 hU:Addr
 jT:FuncData
 mj:Addr
 p9:FuncData
 iK:Addr
 kR:FuncData
 lM:Addr
 p8:FuncData
 mh:Addr
 pR:FuncData
 dZ:Addr
 gF:FuncData
 fj:Addr
 ie:FuncData
 iL:Addr
 kZ:FuncData
 lQ:Addr
 pT:FuncData
 gk:Addr
 je:FuncData
 g7:Addr
 jO:FuncData
 gm:Addr
 iR:FuncData
 j3:Addr
 m4:FuncData
 eX:Addr
 iu:FuncData
 g8:Addr
 jU:FuncData
 bH:Addr
 dy:FuncData
 cP:Addr
 eK:FuncData
 dG:Addr
 fW:FuncData
 bA:Addr
 cw:FuncData
 dg:Addr
 eT:FuncData
 d6:Addr
 gJ:FuncData
 ke:Addr
 mM:FuncData
 me:Addr
 pf:FuncData
 i3:Addr
 kN:FuncData
 bY:Addr
 eI:FuncData
 d8:Addr
 gC:FuncData
 dj:Addr
 fz:FuncData
 fg:Addr
 ik:FuncData
 eY:Addr
 ig:FuncData
 cS:Addr
 eC:FuncData
 dI:Addr
 fV:FuncData
 dC:Addr
 gd:FuncData
 dW:Addr
 gz:FuncData
 oO:Addr
 rZ:FuncData
 aq:Addr
 ae:Addr
 af:Addr
 iG:Addr
 dR:Addr
 bO:Addr
 eZ:Addr
 iF:Addr
noncomputable def Mg (_:bZ):V:=.int 1
noncomputable def Lq (_:bZ):V:=.int 999
noncomputable def KH (_:bZ):V:=.int 6
noncomputable def Pb (_:bZ):V:=.int 2
noncomputable def Ka (_:bZ):V:=.int 6
noncomputable def JT (_:bZ):V:=.int 10
noncomputable def Gf (_:bZ):V:=.int 0
structure Txt (K:ZrF) (mg:Str->Option Value) (a:bZ):Prop where
 dB:FT K mg "full_column" Fq ["many"] a.dH a.gf
 eD:FT K mg "input_columns" AI ["many"] a.cO a.eF
 iM:FT K mg "lit_pair" Bg ["lit","pair","every"] a.gh a.jc
 g6:FT K mg "lit_tie" Bj ["lit","tie","every"] a.gR a.jH
 ez:FT K mg "is_whole" Fo ["thing"] a.gq a.i6
 cy:FT K mg "is_between" Dt ["thing","least","greatest"] a.dY a.gH
 fE:FT K mg "is_rising" AA ["numbers"] a.fA a.iq
 h9:FT K mg "is_cut_of" Ae ["cut","lowers"] a.fD a.ia
 fZ:FT K mg "need_pieces" Ak ["many","pieces"] a.dF a.fX
 ib:FT K mg "need_ties" AY ["ties","lowers"] a.e7 a.iw
 dS:FM K a.aq "__init__" "Board.__init__" z9 ["self","many","pieces","ties"] a.bS a.dP
 bP:FM K a.aq "pieces" "Board.pieces" z8 ["self"] a.dh a.e8
 dU:FM K a.aq "ties" "Board.ties" Dp ["self"] a.dX a.gL
 bL:FM K a.aq "depths" "Board.depths" tw ["self"] a.dm a.eW
 fK:FT K mg "reached" zM ["fold","knots","stops"] a.hU a.jT
 lN:FT K mg "cone" F6 ["fold","knot"] a.mj a.p9
 kT:FT K mg "is_cut" rm ["fold","knot","some"] a.iK a.kR
 jh:FT K mg "head" G7 ["place"] a.lM a.p8
 fb:FT K mg "foot" Gj ["place"] a.mh a.pR
 cZ:FT K mg "need_goals" EE ["maze","goals"] a.dZ a.gF
 il:FT K mg "next_ends" AK ["maze","above","end"] a.fj a.ie
 kW:FT K mg "search" Be ["maze","goals","above"] a.iL a.kZ
 oI:FT K mg "lead" GI ["above","came","spring"] a.lQ a.pT
 i9:FT K mg "way_from" Eg ["above","spring"] a.gk a.je
 gU:FT K mg "ways_of" uh ["maze","above"] a.g7 a.jO
 iZ:FT K mg "stops_of" Ao ["came"] a.gm a.iR
 mG:FT K mg "apart" CN ["maze","goals","most"] a.j3 a.m4
 dA:FT K mg "need_size" Em ["size"] a.eX a.iu
 jP:FT K mg "maze_of" Fj ["fold"] a.g8 a.jU
 cx:FM K a.ae "__init__" "Labels.__init__" Du ["self","fold","size"] a.bH a.dy
 cR:FM K a.ae "settle" "Labels.settle" sG ["self","maze","inner","size"] a.cP a.eK
 bq:FM K a.ae "keep" "Labels.keep" GO ["self","knot","level","cut","ways"] a.dG a.fW
 bB:FM K a.ae "need_and_knot" "Labels.need_and_knot" Bw ["self","knot"] a.bA a.cw
 aY:FM K a.ae "label" "Labels.label" G9 ["self","knot"] a.dg a.eT
 ed:FM K a.ae "cut" "Labels.cut" A4 ["self","knot"] a.d6 a.gJ
 mO:FT K mg "table" z7 ["fold","knot","cut"] a.ke a.mM
 pI:FT K mg "laid" wK ["fold","ties","size"] a.me a.pf
 kO:FT K mg "turned" Gb ["tie"] a.i3 a.kN
 eJ:FM K a.af "__init__" "Fold.__init__" E2 ["self","many"] a.bY a.eI
 aj:FM K a.af "total" "Fold.total" Bz ["self"] a.d8 a.gC
 bM:FM K a.af "has_tie" "Fold.has_tie" Fp ["self","tie"] a.dj a.fz
 bQ:FM K a.af "pair" "Fold.pair" BU ["self","knot"] a.fg a.ik
 bI:FM K a.af "both" "Fold.both" A7 ["self","one","other"] a.eY a.ig
 cN:FM K a.af "and_knot" "Fold.and_knot" E1 ["self","ties"] a.cS a.eC
 cF:FT K mg "_law_cell_at" DV ["_law_script","_law_k"] a.dI a.fV
 fR:FT K mg "_law_fold_by" FR ["_law_script","_law_many"] a.dC a.gd
 gD:FT K mg "_law_depths" vc ["_law_board"] a.dW a.gz
 rX:FT K mg "law" Al ["_law_script"] a.oO a.rZ
 pj:mg "Board" = some (.ref a.aq)
 br:mw K a.aq
 mk_Board:Mk K a.aq a.bS
 fY:lG K a.aq "many"
 bK:lG K a.aq "kept_pieces"
 cf:lG K a.aq "kept_ties"
 jI:mg "Labels" = some (.ref a.ae)
 ay:mw K a.ae
 mk_Labels:Mk K a.ae a.bH
 aP:lG K a.ae "levels"
 bj:lG K a.ae "found_cuts"
 bJ:lG K a.ae "found_ways"
 qL:mg "Fold" = some (.ref a.af)
 av:mw K a.af
 mk_Fold:Mk K a.af a.bY
 aN:lG K a.af "many"
 cD:lG K a.af "pairs"
 cG:lG K a.af "knots"
 oR:mg "NoCut" = some (.ref a.iG)
 nO:mg "NoGoal" = some (.ref a.dR)
 fI:mg "NoKnot" = some (.ref a.bO)
 m9:mg "NoSize" = some (.ref a.eZ)
 oU:mg "NoTie" = some (.ref a.iF)
 xi_NoCut:ZrM K a.iG [.type "ValueError",.type "Exception",.type "BaseException",.type "object"] "ValueError.__new__" = true
 xi_NoGoal:ZrM K a.dR [.type "ValueError",.type "Exception",.type "BaseException",.type "object"] "ValueError.__new__" = true
 xi_NoKnot:ZrM K a.bO [.type "ValueError",.type "Exception",.type "BaseException",.type "object"] "ValueError.__new__" = true
 xi_NoSize:ZrM K a.eZ [.type "ValueError",.type "Exception",.type "BaseException",.type "object"] "ValueError.__new__" = true
 xi_NoTie:ZrM K a.iF [.type "ValueError",.type "Exception",.type "BaseException",.type "object"] "ValueError.__new__" = true
 nF:∃ u,mg "ALWAYS" = some u/\bf (Mg a) u
 g9:∃ u,mg "GREATEST_KNOT" = some u/\bf (Lq a) u
 hV:∃ u,mg "GREATEST_SIZE" = some u/\bf (KH a) u
 jw:∃ u,mg "LEAST_SIZE" = some u/\bf (Pb a) u
 iP:∃ u,mg "LONGEST_CUT" = some u/\bf (Ka a) u
 iV:∃ u,mg "MOST_INPUTS" = some u/\bf (JT a) u
 jb:∃ u,mg "NEVER" = some u/\bf (Gf a) u
 kg:mg "all" = none
 mR:mg "bool" = none
 d5:mg "dict" = none
 px:mg "int" = none
 bX:mg "isinstance" = none
 cc:mg "len" = none
 eg:mg "list" = none
 i8:mg "max" = none
 j5:mg "min" = none
 bu:mg "range" = none
 jQ:mg "sorted" = none
 iS:mg "tuple" = none
 oP:mg "zip" = none
seal PE PT PS j7 PA PG Dy PI PO PW uJ PPs PK PC yl Zv ck Ei jE mS qX Di zx oJ
local macro_rules | `(tactic| walk_at "go")=>`(tactic| try simp only [aI,bV,aC,rM,jk,rS,rp,ax,tC,aa,cV,cI,iJ,mU,jS,vM,xU,Cq,Pt,sD,bW,iU,zV,cz,OJ,BY,ix,du,EN,cB,ah,ar,dQ,cH,lj,vW,nX,u0,nY,lA,ki,nE,uZ,pZ,FN,vT,xu,WX,ZoH,ZmO,Xm,Zl7,Xe,Zl6,ZmR,nD,Hc,Hi,eL,Jy,yh,By,J2,Mc,wq,NQ,ZoJ,WE,Zpz,Hu,lO,nP,oM,mX,pG,pb,zL,d9,fG,pE,JG,Ji,Wu,Ax,Hz,tZ,Nq,NP,xy,OS,Ph,qp,sY,Zc,Xx,Hx,XX,ZsT,List.cons_append,List.nil_append,Ztk,Zs9,List.set_cons_zero,List.set_cons_succ,decide_eq_true_eq,if_true,if_false,Bool.false_eq_true,eq_self,decide_true,decide_false,Bool.not_true,Bool.not_false,Bool.not_eq_true',decide_eq_false_iff_not,Bool.and_true,Zup])
local macro_rules | `(tactic| walk_at "sd")=>`(tactic| first | exact And.intro (by decide) (by decide) | decide | omega | exact Or.inl (And.intro (by omega) (by omega)) | exact Or.inr (And.intro (by omega) (by omega)) | exact And.intro (by omega) (And.intro (by omega) (by decide)) | exact And.intro (by omega) (by omega))
local macro_rules | `(tactic| walk_at "gs")=>`(tactic| (walk_at "go";repeat (first | (refine And.intro (by walk_at "sd") ?_;walk_at "go"))))
local macro_rules | `(tactic| walk_at "o")=>`(tactic| first | exact Or.inl rfl | exact Or.inr rfl)
variable {P:Program}{w:World}{K:ZrF}{mg:Str->Option Value}{base:Heap}{a:bZ}
noncomputable def Q9 (_:ZrF):Sp:=fun vs H Q _=>∃ t:Int,vs=[.int t]/\0<=t/\Q (.int (MF.tn t)) H
noncomputable def NC (K:ZrF):TS:=(cz (ax (cV fun i j=>.int (Builtin.bitXor i j)) (aa 0) (tC (.int 1))))
theorem ZmG (T:Txt K mg a):TM P w K mg base 0 "turned" Gb Rx a.i3 (NC K) :=
 fun hr=>(aL (cC (aX M8 (cv 0) aH)))
theorem Zno (T:Txt K mg a):aG P w K mg base dw 1 a.i3 a.kN ["tie"] (Q9 K):=by
 refine T.kO.n.dO Zm3 (ZmG T) (fun vs H Q E h=>?_) (fun H vs Q E h=>?_)
 ·obtain ⟨t,rfl,_⟩:=h;rfl
 ·obtain ⟨t,rfl,h0,q⟩:=h
  show NC K _ [some (.int t)] H
  unfold NC
  walk_at "go"
  rw [Td h0]
  exact q
noncomputable def Oa (a:bZ) (K:ZrF):Sp:=fun vs H Q _=>∃ (x dx:Addr) (m:Int),vs=[.ref x,.int m]/\H x=some (.ins a.af dx []) /\
 ∀ H' pl kl,(∀ b o,b≠x->H b=some o->H' b=some o)->H pl=none->H kl=none->aS a.af H' x m [] dx pl kl->Q .non H'
noncomputable def N4 (K:ZrF):TS:=(aI (pE K (aa 0) (aa 1) "many")
  (aI (pE K (aa 0) (jo ar) "pairs")
  (pE K (aa 0) Ja "knots")))
theorem Zgu (T:Txt K mg a):TM P w K mg base 0 "Fold.__init__" E2 P5 a.bY (N4 K) :=
 fun hr=>(aK (rL (cv 0) (cv 1) rfl)
   (aK (rL (cv 0) (kC aw) rfl)
   (aL (rL (cv 0) ZoU rfl))))
theorem ZgA (T:Txt K mg a):aG P w K mg base dw 1 a.bY a.eI ["self","many"] (Oa a K):=by
 refine T.eJ.n.dO WD (Zgu T) (fun vs H Q E h=>?_) (fun H vs Q E h=>?_)
 ·obtain ⟨x,dx,m,rfl,_⟩:=h;rfl
 ·obtain ⟨x,dx,m,rfl,hx,q⟩:=h
  show N4 K _ [some (.ref x),some (.int m)] H
  unfold N4
  walk_at "go"
  refine ⟨x,a.af,dx,[],rfl,hx,T.av,T.aN,by decide,?_⟩
  walk_at "go"
  refine ⟨by decide,fun pl H2 n2=>?_⟩
  have x2:=n2.same _ _ (bR (H:=H) (a:=x) (o:=.ins a.af dx (cL "many" (.int m) [])))
  refine ⟨x,a.af,dx,_,rfl,x2,T.av,T.cD,by have:=ph "many" (.int m) [];simp only [ZsH] at this;omega,?_⟩
  walk_at "go"
  intro kl H4 n4
  have x4:=n4.same _ _ (bR (H:=H2) (a:=x) (o:=.ins a.af dx (cL "pairs" (.ref pl) (cL "many" (.int m) []))))
  refine ⟨x,a.af,dx,_,rfl,x4,T.av,T.cG,by have h7:=ph "many" (.int m) [];have h8:=ph "pairs" (.ref pl) (cL "many" (.int m) []);simp only [ZsH] at h7;omega,?_⟩
  have Ls:pl≠x:=fun e=>by have:=n2.aD;rw [e,bR] at this;cases this
  have A2:kl≠x:=fun e=>by have:=n4.aD;rw [e,bR] at this;cases this
  have ZW:H4 pl=some (.lst []):=n4.same _ _ (by rw [aE Ls];exact n2.at_)
  have t6:H4 kl=some (.dT []):=n4.at_
  have st:∀ b o,b≠x->H b=some o->H4 b=some o:=fun b o nb e=>n4.same _ _ (by rw [aE nb];exact n2.same _ _ (by rw [aE nb];exact e))
  have nop:H pl=none:=by
   have:=n2.aD
   rw [aE Ls] at this
   exact this
  have nok:H kl=none:=by
   have h1:=n4.aD
   rw [aE A2] at h1
   have h2:=n2.same.nil h1
   rw [aE A2] at h2
   exact h2
  refine q _ pl kl (fun b o nb e=>by rw [aE nb];exact st b o nb e) nop nok ⟨?_,?_,?_,fun e he=>nomatch he⟩
  ·rw [bR]
   have e1:cL "knots" (.ref kl) (cL "pairs" (.ref pl) (cL "many" (.int m) []))=([("many",V.int m),("pairs",V.ref pl),("knots",V.ref kl)]:List (Str × V)):=by
    have z1:¬ ("many" : Str) = "pairs":=by decide +kernel
    have z2:¬ ("many" : Str) = "knots":=by decide +kernel
    have z3:¬ ("pairs" : Str) = "knots":=by decide +kernel
    simp [cL,z1,z2,z3]
   rw [e1]
  ·rw [aE Ls];exact ZW
  ·rw [aE A2];exact t6
noncomputable def mK (a:bZ) (_:ZrF):Sp:=fun vs H Q _=>∃ (f dx pl kl:Addr) (m:Int) (es:List En),vs=[.ref f]/\aS a.af H f m es dx pl kl/\Q (.int (1+m+es.length)) H
noncomputable def KO (K:ZrF):TS:=(cz (ax iJ (ax iJ (tC (.int 1)) (fG K (aa 0) "many")) (cH (lj K) (ah (fG K (aa 0) "pairs") ar))))
theorem Xl (T:Txt K mg a):TM P w K mg base 0 "Fold.total" Bz QY a.d8 (KO K) :=
 fun hr=>(aL (cC (aX jr (aX jr aH (fU (cv 0) rfl)) (eV lU (by rfl) T.cc PySem.boot_len (ai (fU (cv 0) rfl) aw)))))
theorem ny (T:Txt K mg a):aG P w K mg base dw 1 a.d8 a.gC ["self"] (mK a K):=by
 refine T.aj.n.dO ZiA (Xl T) (fun vs H Q E h=>?_) (fun H vs Q E h=>?_)
 ·obtain ⟨f,dx,pl,kl,m,es,rfl,_⟩:=h;rfl
 ·obtain ⟨f,dx,pl,kl,m,es,rfl,hf,q⟩:=h
  show KO K _ [some (.ref f)] H
  unfold KO
  walk_at "go"
  refine ⟨f,a.af,dx,_,_,rfl,hf.ins,T.av,T.aN,rfl,?_⟩
  walk_at "go"
  refine ⟨f,a.af,dx,_,_,rfl,hf.ins,T.av,T.cD,rfl,?_⟩
  walk_at "go"
  refine .inl ⟨_,.inl (.of hf.gM.lst),?_⟩
  rw [Zsh]
  exact q
noncomputable def JQ (a:bZ) (_:ZrF):Sp:=fun vs H Q _=>∃ (f dx pl kl:Addr) (m t:Int) (es:List En),vs=[.ref f,.int t]/\aS a.af H f m es dx pl kl/\Q (.bl (decide (0<=t/\t<2 * (1+m+es.length)))) H
noncomputable def J7 (a:bZ) (K:ZrF):TS:=(cz (zV (cV fun i j=>.bl (decide (i<=j))) (cV fun i j=>.bl (decide (i<j))) (tC (.int 0)) (aa 1) (ax mU (tC (.int 2)) (d9 a.af "total" (mK a K) [] E0 (aa 0) ar))))
theorem Zt (T:Txt K mg a):TM P w K mg base 1 "Fold.has_tie" Fp P6 a.dj (J7 a K) :=
 fun hr=>(aL (cC (TV pw qr aH (cv 1) (aX ox aH (kz (cv 0) T.av T.aj.e (ny T) (hm hr) T.aj.b .nil bE)))))
theorem Sn (T:Txt K mg a):aG P w K mg base dw 2 a.dj a.fz ["self","tie"] (JQ a K):=by
 refine T.bM.n.dO XZ (Zt T) (fun vs H Q E h=>?_) (fun H vs Q E h=>?_)
 ·obtain ⟨f,dx,pl,kl,m,t,es,rfl,_⟩:=h;rfl
 ·obtain ⟨f,dx,pl,kl,m,t,es,rfl,hf,q⟩:=h
  show J7 a K _ [some (.ref f),some (.int t)] H
  unfold J7
  walk_at "go"
  by_cases h0:0<=t
  ·rw [if_pos h0]
   refine ⟨f,dx,_,rfl,hf.ins,rfl,f,dx,pl,kl,m,es,rfl,hf,?_⟩
   walk_at "go"
   refine ⟨.inl ⟨by decide,by decide⟩,?_⟩
   have e:decide (t<2 * (1+m+(es.length:Int)))=decide (0<=t/\t<2 * (1+m+es.length)):=by rw [decide_eq_decide];omega
   rw [e]
   exact q
  ·rw [if_neg h0]
   have e:false=decide (0<=t/\t<2 * (1+m+(es.length:Int))):=by rw [decide_eq_false (by omega)]
   rw [e]
   exact q
noncomputable def Hr (a:bZ) (_:ZrF):Sp:=fun vs H Q E=>∃ (f dx pl kl:Addr) (m k:Int) (es:List En),vs=[.ref f,.int k]/\aS a.af H f m es dx pl kl /\
 (0<=k/\k<1+m+es.length->(k<=m->Q .non H)/\(∀ e,m<k->es[(k - m - 1).toNat]? = some e->Q (.ref e.1) H))/\(¬ (0<=k/\k<1+m+es.length)->∀ e,H e=none->E (.ref e) (some a.bO) H)
noncomputable def O3 (a:bZ) (K:ZrF) (E:XK):TS:=(aI (du (ki (bW (ax (cV fun i j=>.bl (decide (i<j))) (aa 1) (tC (.int 0)))) (bW (ax (cV fun i j=>.bl (decide (j<=i))) (aa 1) (d9 a.af "total" (mK a K) [] E0 (aa 0) ar)))) (qp a.bO (ah (tC (.str "no knot of this fold")) ar) E) dQ)
  (aI (du (bW (ax (cV fun i j=>.bl (decide (i<=j))) (aa 1) (fG K (aa 0) "many"))) (cz (tC .non)) dQ)
  (cz (ax (eL K) (fG K (aa 0) "pairs") (ax (cV fun i j=>.int (i - j)) (ax (cV fun i j=>.int (i - j)) (aa 1) (fG K (aa 0) "many")) (tC (.int 1)))))))
theorem Zjk (T:Txt K mg a):TX P w K mg base 1 "Fold.pair" BU Vw a.fg (O3 a K) :=
 fun hr=>(aK (dJ (PW.pt (kX (cW qr (cv 1) aH (cU _)) (nj (cW pK (cv 1) (kz (cv 0) T.av T.aj.e (ny T) (hm hr) T.aj.b .nil bE) (cU _))))) (aL (tP Zr8 T.xi_NoKnot (by decide) rfl T.fI rfl pA (ai qO aw))) eE)
   (aK (dJ (cW pw (cv 1) (fU (cv 0) rfl) (cU _)) (aL (cC ml)) eE)
   (aL (cC (fB fC (fU (cv 0) rfl) (aX ql (aX ql (cv 1) (fU (cv 0) rfl)) aH) (fun _ _=>rfl))))))
theorem OI (T:Txt K mg a):aG P w K mg base (gZ P w) 2 a.fg a.ik ["self","knot"] (Hr a K):=by
 refine T.bQ.n.iO Zjw (Zjk T) (fun vs H Q E h=>?_) (fun H vs Q E h=>?_)
 ·obtain ⟨f,dx,pl,kl,m,k,es,rfl,_⟩:=h;rfl
 ·obtain ⟨f,dx,pl,kl,m,k,es,rfl,hf,qi,qo⟩:=h
  show O3 a K E _ [some (.ref f),some (.int k)] H
  unfold O3
  walk_at "go"
  by_cases h0:k<0
  ·rw [if_pos h0]
   exact ⟨by decide,qo (by omega)⟩
  rw [if_neg h0]
  refine ⟨f,dx,_,rfl,hf.ins,rfl,f,dx,pl,kl,m,es,rfl,hf,?_⟩
  walk_at "go"
  by_cases h1:1+m+(es.length:Int)<=k
  ·rw [if_pos h1]
   exact ⟨by decide,qo (by omega)⟩
  rw [if_neg h1]
  obtain ⟨q1,q2⟩:=qi (by omega)
  refine ⟨f,a.af,dx,_,_,rfl,hf.ins,T.av,T.aN,rfl,?_⟩
  walk_at "go"
  by_cases hk:k<=m
  ·rw [if_pos hk]
   exact q1 hk
  ·rw [if_neg hk]
   refine ⟨f,a.af,dx,_,_,rfl,hf.ins,T.av,T.cD,rfl,f,a.af,dx,_,_,rfl,hf.ins,T.av,T.aN,rfl,?_⟩
   walk_at "go"
   have bw:(k - m - 1).toNat<es.length:=by omega
   refine ⟨_,_,.inl (.of hf.gM.lst),rP .non (by omega) (by rw [Zsh];omega),?_⟩
   rw [ZnV es _ bw]
   exact q2 _ (by omega) (Zsn bw)
noncomputable def UT (a:bZ) (_:ZrF):Sp:=fun vs H Q _=>∃ (f dx pl kl tp:Addr) (m:Int) (p:MF.Pr) (es:List En),vs=[.ref f,.ref tp]/\aS a.af H f m es dx pl kl/\H tp=some (.tup [.int p.1,.int p.2])/\es.length<=5000 /\
 ∀ H' es',kM pl kl H H'->aS a.af H' f m es' dx pl kl->aA es'=MF.kp m (aA es) p->Q (.int (MF.kn m (aA es) p)) H'
noncomputable def NY (a:bZ) (K:ZrF):TS:=(oJ (du (bW (oM (aa 1) (fG K (aa 0) "knots"))) (aI (mX (fG K (aa 0) "knots") (aa 1) (d9 a.af "total" (mK a K) [] E0 (aa 0) ar))
  (ix (pG K "list" qm (fG K (aa 0) "pairs") (ah (aa 1) ar)))) dQ)
  (cz (lO (fG K (aa 0) "knots") (aa 1))))
theorem Zgt (T:Txt K mg a):TM P w K mg base 1 "Fold.and_knot" E1 SH a.cS (NY a K) :=
 fun hr=>(U6 (dJ (rA (su (eG hr) (cv 1) (fU (cv 0) rfl))) (aK (pJ (eG hr) (fU (cv 0) rfl) (cv 1) (kz (cv 0) T.av T.aj.e (ny T) (hm hr) T.aj.b .nil bE) rfl)
   (aL (i0 (tE Zr7 Zr9 Zsa (o6 rH) (fU (cv 0) rfl) (ai (cv 1) aw))))) eE)
   (aL (cC (nh (eG hr) (fU (cv 0) rfl) (cv 1) (fun _ _=>rfl)))))
theorem XW (T:Txt K mg a):aG P w K mg base dw 2 a.cS a.eC ["self","ties"] (UT a K):=by
 refine T.cN.n.dO Zgv (Zgt T) (fun vs H Q E h=>?_) (fun H vs Q E h=>?_)
 ·obtain ⟨f,dx,pl,kl,tp,m,p,es,rfl,_⟩:=h;rfl
 ·obtain ⟨f,dx,pl,kl,tp,m,p,es,rfl,hf,ht,hz,q⟩:=h
  show NY a K _ [some (.ref f),some (.ref tp)] H
  unfold NY
  have big:(5001:Nat)<=sizeLine:=by decide
  refine mid (fun σ' H'=>σ'=[some (.ref f),some (.ref tp)]/\kM pl kl H H'/\∃ es',aS a.af H' f m es' dx pl kl/\aA es'=MF.kp m (aA es) p/\MF.iB (m+1) (aA es') p=some (MF.kn m (aA es) p)/\H' tp=some (.tup [.int p.1,.int p.2])) ?_ ?_
  ·intro N hN
   walk_at "go"
   refine ⟨f,a.af,dx,_,_,rfl,hf.ins,T.av,T.cG,rfl,kl,_,rfl,eB.t (k:=kL p) hf.gM.pv ht,?_⟩
   rw [Ip]
   cases hfd:MF.iB (m+1) (aA es) p with
   | some i =>
    walk_at "go"
    refine hN _ _ ⟨rfl,kM.refl,es,hf,?_,?_,ht⟩
    ·unfold MF.kp;rw [hfd];rfl
    ·unfold MF.kn;rw [hfd];rfl
   | none =>
    walk_at "go"
    refine ⟨f,dx,_,rfl,hf.ins,rfl,f,dx,pl,kl,m,es,rfl,hf,?_⟩
    walk_at "go"
    refine ⟨f,a.af,dx,_,_,rfl,hf.ins,T.av,T.cG,rfl,?_⟩
    walk_at "go"
    refine ⟨kl,_,rfl,pO.t (k:=kL p) hf.gM.pv ht (by rw [So,Zsh];omega),?_⟩
    have e0:(1+m+(es.length:Int))=(m+1)+((aA es).length:Nat):=by rw [Zsh];omega
    rw [e0,Zm hfd]
    have Zd:f≠kl:=eA hf.ins hf.gM.pv (fun z=>nomatch z)
    have Tv:f≠pl:=eA hf.ins hf.gM.lst (fun z=>nomatch z)
    have i2:upd H kl (.dT (kK (m+1) (aA es ++ [p]))) f=some (.ins a.af dx [("many",.int m),("pairs",.ref pl),("knots",.ref kl)]):=by rw [aE Zd];exact hf.ins
    have l2:upd H kl (.dT (kK (m+1) (aA es ++ [p]))) pl=some (.lst (es.map fun e=>V.ref e.1)):=by rw [aE hf.gM.U8];exact hf.gM.lst
    walk_at "go"
    refine ⟨f,a.af,dx,_,_,rfl,i2,T.av,T.cD,rfl,?_⟩
    walk_at "go"
    refine ⟨.inl ⟨by trivial,_,.of l2⟩,pl,_,_,rfl,rfl,l2,by rw [Zsh];omega,?_⟩
    refine hN _ _ ⟨rfl,NA.trans Oo,es ++ [(tp,p)],⟨?_,hf.gM.put ht hfd⟩,?_,?_,?_⟩
    ·rw [aE Tv];exact i2
    ·unfold MF.kp;rw [hfd,aA,Zss];rfl
    ·unfold MF.kn;rw [hfd,aA,Zss];exact MF.R0 hfd
    ·rw [aE (eA ht hf.gM.lst (fun z=>nomatch z)),aE (eA ht hf.gM.pv (fun z=>nomatch z))];exact ht
  ·rintro σ' H' ⟨rfl,u,es',hf',hp',hfd,oA⟩
   walk_at "go"
   refine ⟨f,a.af,dx,_,_,rfl,hf'.ins,T.av,T.cG,rfl,kl,.int (MF.kn m (aA es) p),rfl,?_,q _ es' u hf' hp'⟩
   have:=eB.t (k:=kL p) hf'.gM.pv oA
   rw [Ip,hfd] at this
   exact this
noncomputable def Gp (a:bZ) (_:ZrF):Sp:=fun vs H Q E=>∃ (f dx pl kl:Addr) (m s t:Int) (es:List En),vs=[.ref f,.int s,.int t]/\aS a.af H f m es dx pl kl/\es.length<=5000 /\
 (0<=s/\0<=t/\s<2 * (1+m+es.length)/\t<2 * (1+m+es.length)->∀ H' es',kM pl kl H H'->aS a.af H' f m es' dx pl kl->aA es'=MF.bp m (aA es) s t->Q (.int (MF.bt m (aA es) s t)) H') /\
 (¬ (0<=s/\0<=t/\s<2 * (1+m+es.length)/\t<2 * (1+m+es.length))->∀ e,H e=none->E (.ref e) (some a.iF) H)
noncomputable def OR (a:bZ) (K:ZrF) (E:XK):TS:=(aI (du (ki (lA (iU K (d9 a.af "has_tie" (JQ a K) [] E0 (aa 0) (ah (aa 1) ar)))) (lA (iU K (d9 a.af "has_tie" (JQ a K) [] E0 (aa 0) (ah (aa 2) ar))))) (qp a.iF (ah (tC (.str "no tie of this fold")) ar) E) dQ)
  (aI (bV (cH nX (ah (aa 1) (ah (aa 2) ar))) (aC 3))
  (aI (bV (cH u0 (ah (aa 1) (ah (aa 2) ar))) (aC 4))
  (aI (du (bW (ax (jS K) (aa 3) (tC (Gf a)))) (cz (tC (Gf a))) dQ)
  (aI (du (ki (bW (ax (jS K) (aa 3) (tC (Mg a)))) (bW (ax (jS K) (aa 3) (aa 4)))) (cz (aa 4)) dQ)
  (aI (du (bW (ax (jS K) (aa 3) (cB (Q9 K) [] E0 (ah (aa 4) ar)))) (cz (tC (Gf a))) dQ)
  (cz (ax mU (tC (.int 2)) (d9 a.af "and_knot" (UT a K) [] E0 (aa 0) (ah (kq (ah (aa 3) (ah (aa 4) ar))) ar))))))))))
theorem Zjl (T:Txt K mg a):TX P w K mg base 2 "Fold.both" A7 Ta a.eY (OR a K) :=
 fun hr=>(aK (dJ (PW.pt (kX (mC (kE (kB (cv 0) T.av T.bM.e (Sn T) (hm hr) T.bM.b .nil bE (ai (cv 1) aw)))) (nj (mC (kE (kB (cv 0) T.av T.bM.e (Sn T) (hm hr) T.bM.b .nil bE (ai (cv 2) aw))))))) (aL (tP Zr8 T.xi_NoTie (by decide) rfl T.oU rfl pA (ai qO aw))) eE)
   (aK (cA (i:=3) MW.nd rfl (by walk_at "o") (eV (HJ rfl) (by rfl) T.j5 PyProof.Rows.boot_min (ai (cv 1) (ai (cv 2) aw))))
   (aK (cA (i:=4) MW.nd rfl (by walk_at "o") (eV (BR rfl) (by rfl) T.i8 PyProof.Rows.boot_max (ai (cv 1) (ai (cv 2) aw))))
   (aK (dJ (cW (kr (i4 hr)) (cv 3) (rD rfl T.jb) (cU _)) (aL (cC (rD rfl T.jb))) eE)
   (aK (dJ (PW.pt (kX (cW (kr (i4 hr)) (cv 3) (rD rfl T.nF) (cU _)) (nj (cW (kr (i4 hr)) (cv 3) (cv 4) (cU _))))) (aL (cC (cv 4))) eE)
   (aK (dJ (cW (kr (i4 hr)) (cv 3) (cK T.kO (Zno T) (hm hr) bE (ai (cv 4) aw)) (cU _)) (aL (cC (rD rfl T.jb))) eE)
   (aL (cC (aX ox aH (kB (cv 0) T.av T.cN.e (XW T) (hm hr) T.cN.b .nil bE (ai (mF (ai (cv 3) (ai (cv 4) aw))) aw)))))))))))
theorem JK (T:Txt K mg a):aG P w K mg base (gZ P w) 3 a.eY a.ig ["self","one","other"] (Gp a K):=by
 refine T.bI.n.iO MW (Zjl T) (fun vs H Q E h=>?_) (fun H vs Q E h=>?_)
 ·obtain ⟨f,dx,pl,kl,m,s,t,es,rfl,_⟩:=h;rfl
 ·obtain ⟨f,dx,pl,kl,m,x,y,es,rfl,hf,hz,qi,qo⟩:=h
  show OR a K E _ [some (.ref f),some (.int x),some (.int y),none,none] H
  unfold OR Gf Mg
  walk_at "go"
  refine ⟨f,dx,_,rfl,hf.ins,rfl,f,dx,pl,kl,m,x,es,rfl,hf,?_⟩
  by_cases gx:0<=x/\x<2 * (1+m+(es.length:Int))
  case neg =>
   rw [decide_eq_false gx]
   walk_at "go"
   exact ⟨by decide,qo (fun z=>gx ⟨z.1,z.2.2.1⟩)⟩
  rw [decide_eq_true gx]
  walk_at "go"
  refine ⟨f,dx,_,rfl,hf.ins,rfl,f,dx,pl,kl,m,y,es,rfl,hf,?_⟩
  by_cases gy:0<=y/\y<2 * (1+m+(es.length:Int))
  case neg =>
   rw [decide_eq_false gy]
   walk_at "go"
   exact ⟨by decide,qo (fun z=>gy ⟨z.2.1,z.2.2.2⟩)⟩
  rw [decide_eq_true gy]
  obtain ⟨hx,hx'⟩:=gx
  obtain ⟨hy,hy'⟩:=gy
  have q:=qi ⟨hx,hy,hx',hy'⟩
  walk_at "go"
  have q':=q
  unfold MF.bt MF.bp MF.qK at q'
  have e1:(if y<x then y else x)=MF.lo x y:=rfl
  have e2:(if y > x then y else x)=MF.hi x y:=rfl
  rw [e1,e2]
  by_cases h1:MF.lo x y=0
  ·rw [if_pos h1] at q' ⊢
   exact q' H es kM.refl hf rfl
  rw [if_neg h1] at q' ⊢
  by_cases h2:MF.lo x y=1\/MF.lo x y=MF.hi x y
  ·rw [if_pos h2] at q'
   have fin:=q' H es kM.refl hf rfl
   rcases h2 with h2 | h2
   ·rw [if_pos h2];exact fin
   ·by_cases h3:MF.lo x y=1
    ·rw [if_pos h3];exact fin
    ·rw [if_neg h3,if_pos h2];exact fin
  rw [if_neg h2] at q'
  rw [if_neg (fun z=>h2 (.inl z)),if_neg (fun z=>h2 (.inr z))]
  have Z7:0<=MF.hi x y:=by unfold MF.hi;split <;> omega
  refine ⟨MF.hi x y,rfl,Z7,?_⟩
  walk_at "go"
  by_cases h3:MF.lo x y=MF.tn (MF.hi x y)
  ·rw [if_pos h3] at q' ⊢
   exact q' H es kM.refl hf rfl
  rw [if_neg h3] at q' ⊢
  refine ⟨f,dx,_,rfl,hf.ins,rfl,by show 2<=sizeLine;decide,fun tp H2 n2=>?_⟩
  have hf2:=hf.same n2.same
  refine ⟨f,dx,pl,kl,tp,m,(MF.lo x y,MF.hi x y),es,rfl,hf2,n2.at_,hz,fun H' es' u hf' hp'=>?_⟩
  walk_at "go"
  refine ⟨.inl ⟨by decide,by decide⟩,q' H' es' (n2.same.un.trans u) hf' hp'⟩
theorem mk_Fold {a:bZ}{K:ZrF}{H:Hp}{m:Int}{F:Addr->Hp->Prop}{E:XK} (q:∀ x dx pl kl H',aQ H H'->H x=none->H pl=none->H kl=none->aS a.af H' x m [] dx pl kl->F x H') :
  ∀ x dx,H x=none->H dx=none->dx≠x->Oa a K [.ref x,.int m] (upd (upd H dx (.own x)) x (.ins a.af dx [])) (fun v H2=>v=.non/\F x H2) E:=by
 intro x dx hx hd gK
 refine ⟨x,dx,m,rfl,bR,fun H' pl kl st hp hk hf=>⟨rfl,q x dx pl kl H' (fun b o e=>?_) hx ?_ ?_ hf⟩⟩
 ·have n1:b≠x:=cn e hx
  have n2:b≠dx:=cn e hd
  exact st b o n1 (by rw [aE n1,aE n2];exact e)
 ·cases e:H pl with
  | none=>rfl
  | some o =>
   rw [aE (cn e hx),aE (cn e hd),e] at hp
   cases hp
 ·cases e:H kl with
  | none=>rfl
  | some o =>
   rw [aE (cn e hx),aE (cn e hd),e] at hk
   cases hk
noncomputable def Scr (K:ZrF) (H:Hp) (p:Addr) (xs:List V) (L:Addr->Prop):Prop:=(bg K H p xs/\¬ L p)\/∀ H',bg K H' p xs
theorem r9 {L:List Bool}{i:Int} (h0:0<=i) (h1:i<L.length):jm (L.map V.bl) i=some (.bl (L.getD i.toNat false)):=by
 rw [rP .non h0 (by rw [Zsh];exact h1)]
 have:i.toNat<L.length:=by omega
 simp [Zsx,this]
theorem T9 {n:Nat}{k:Int} (h0:0<=k) (h1:k<n):qc n k=some k.toNat:=by
 unfold qc
 simp [h0,h1]
theorem Uv (L:List Bool) (t:Int):(L.map V.bl).set (t / 2).toNat (.bl true)=(MF.mi L t).map V.bl:=(List.map_set ..).symm
theorem Qb {L:List Bool}{ts:List Int}{i:Nat}{t:Int} (h:ts[i]? = some t):MF.jt L (ts.take (i+1))=MF.mi (MF.jt L (ts.take i)) t:=by
 unfold MF.jt
 rw [ZsK,h,List.foldl_append]
 rfl
theorem Zrf {ts:List Int}{i:Nat}{x:V} (h:(ts.map V.int)[i]? = some x):∃ t:Int,x=.int t/\ts[i]? = some t/\t∈ts:=by
 rw [Zsu] at h
 cases e:ts[i]? with
 | none=>rw [e] at h;cases h
 | some t =>
  rw [e] at h
  cases h
  exact ⟨t,rfl,rfl,Zsz e⟩
theorem XH (L:List Bool) (p:MF.Pr):MF.jt L [p.1,p.2]=MF.mi (MF.mi L p.1) p.2:=rfl
theorem Zpi {ts:List Int}{i:Nat}{x:V} (h:(ts.map fun t=>V.int (t / 2))[i]? = some x):∃ t:Int,x=.int (t / 2)/\ts[i]? = some t/\t∈ts:=by
 rw [Zsu] at h
 cases e:ts[i]? with
 | none=>rw [e] at h;cases h
 | some t =>
  rw [e] at h
  cases h
  exact ⟨t,rfl,rfl,Zsz e⟩
noncomputable def kY (kvs:List (Key × V)) (k:Nat):Bool:=(bC kvs (.inl (k:Int))).isSome
noncomputable def oz (k:Nat):V:=.int (k:Int)
noncomputable def Iu (a:bZ) (K:ZrF):Sp:=fun vs H Q _=>∃ (f dx pl kl p sd:Addr) (m:Nat) (ts:List Int) (kvs:List (Key × V)) (es:List En),vs=[.ref f,.ref p,.ref sd]/\aS a.af H f m es dx pl kl/\bg K H p (ts.map fun t=>V.int (t / 2))/\H sd=some (.dK kvs)/\MF.Ok m (aA es)/\MF.WN m (aA es) ts/\m<=10/\es.length<=4000/\ts.length<=4000 /\
 ∀ q H',nS H q (.lst ((MF.bh (kY kvs) m (aA es) ts).map oz)) H'->Q (.ref q) H'
noncomputable def Ks (a:bZ) (K:ZrF):TS:=(aI (bV (ax Hx (jo (ah (tC (.bl false)) ar)) (d9 a.af "total" (mK a K) [] E0 (aa 0) ar)) (aC 3))
  (aI (fP (eU K (aa 1)) (aC 4) (bV (tC (.bl true)) (rp (aa 3) (aa 4) L1)))
  (aI (fP (HA (ah (ax (cV fun i j=>.int (i - j)) (d9 a.af "total" (mK a K) [] E0 (aa 0) ar) (tC (.int 1))) (ah (fG K (aa 0) "many") (ah (vT xu (tC (.int 1))) ar)))) (aC 4) (du (nE (iU K (ax (eL K) (aa 3) (aa 4))) (bW (oM (aa 4) (aa 2)))) (fP (qB K (d9 a.af "pair" (Hr a K) [] E0 (aa 0) (ah (aa 4) ar))) (aC 5) (bV (tC (.bl true)) (rp (aa 3) (ax (cI hJ fun i j=>.int (i / j)) (aa 5) (tC (.int 2))) L1))) dQ))
  (cz (eN (om (ah (d9 a.af "total" (mK a K) [] E0 (aa 0) ar) ar)) 1 [3] (aC 0) (iU K (ax (eL K) (aa 1) (aa 0))) (aa 0))))))
theorem Zl0 (T:Txt K mg a):TM P w K mg base 2 "reached" zM MX a.hU (Ks a K) :=
 fun hr=>(aK (cA (i:=3) E8.nd rfl (by walk_at "o") (aX QU (kC (ai jM aw)) (kz (cv 0) T.av T.aj.e (ny T) (hm hr) T.aj.b .nil bE)))
   (aK (jn PassesOwn.never rfl (gw (cv 1)) (cj (i:=4) E8.nd rfl (by walk_at "o")) (aL (TN jM (TL (cv 3) (cv 4) UX))))
   (aK (jn PassesOwn.never rfl (Vt rfl T.bu (ai (aX ql (kz (cv 0) T.av T.aj.e (ny T) (hm hr) T.aj.b .nil bE) aH) (ai (fU (cv 0) rfl) (ai (Ft AU aH) aw)))) (cj (i:=4) E8.nd rfl (by walk_at "o")) (aL (dJ (PW.pt (IP (kE (fB fC (cv 3) (cv 4) (fun _ _=>rfl))) (HN (rA (su (eG hr) (cv 4) (cv 2)))))) (aL (jn PassesOwn.never rfl (CJ (kB (cv 0) T.av T.bQ.e (OI T) (hm hr) T.bQ.b .nil lC (ai (cv 4) aw))) (cj (i:=5) E8.nd rfl (by walk_at "o")) (aL (TN jM (TL (cv 3) (aX iC (cv 5) aH) UX))))) eE)))
   (aL (cC (jl (N:=["knot","seen"]) (k:=1) (sel:=[3]) (az.of (aW zM).names (by decide +kernel)) (aF.of MX (by decide +kernel)) rfl (uC rfl T.bu (ai (kz (cv 0) T.av T.aj.e (ny T) (hm hr) T.aj.b .nil bE) aw)) (fun _ _ _ _=>(cj (i:=0) (show Zsv (["knot","seen"]:List Str) by decide +kernel) rfl (by walk_at "o"))) (fun _ _ _ _=>(Ap (kE (fB fC (cv 1) (cv 0) (fun _ _=>rfl))))) (fun _ _ _ _=>(cv 0))))))))
theorem Ju (T:Txt K mg a):aG P w K mg base dw 3 a.hU a.jT ["fold","knots","stops"] (Iu a K):=by
 refine T.fK.n.dO E8 (Zl0 T) (fun vs H Q E h=>?_) (fun H vs Q E h=>?_)
 ·obtain ⟨f,dx,pl,kl,p,sd,m,ts,kvs,es,rfl,_⟩:=h;rfl
 ·obtain ⟨f,dx,pl,kl,p,sd,m,ts,kvs,es,rfl,hf,hT,hS,ok,p5,hm,hz,htz,q⟩:=h
  show Ks a K _ [some (.ref f),some (.ref p),some (.ref sd),none,none,none] H
  unfold Ks
  have big:(20000:Nat)<=sizeLine:=by decide
  have mr:((aA es).length:Int)=es.length:=by rw [Zsh]
  walk_at "gs"
  intro r1 H1 n1
  refine ⟨f,dx,_,rfl,n1.same _ _ hf.ins,rfl,f,dx,pl,kl,m,es,rfl,hf.same n1.same,?_⟩
  walk_at "gs"
  refine ⟨_,n1.at_,by omega,by omega,by simp only [ZsN];omega,fun nq H2 n2=>?_⟩
  have hw:H nq=none:=n1.same.nil n2.aD
  have e0:(Zsp (1+(m:Int)+(es.length:Int)).toNat [V.bl false]).flatten=(MF.jt (Zsp (1+m+(aA es).length) false) (ts.take 0)).map V.bl:=by
   rw [QD,show (1+(m:Int)+(es.length:Int)).toNat=1+m+(aA es).length by omega]
   show _=(Zsp (1+m+(aA es).length) false).map V.bl
   rw [List.map_replicate]
  rw [e0] at n2
  have hlen:∀ xs:List Int,(MF.jt (Zsp (1+m+(aA es).length) false) xs).length=1+m+(aA es).length:=fun xs=>by rw [MF.Bx,ZsM]
  generalize Ej:Zsp (1+m+(aA es).length) false=L0 at *
  walk_at "gs"
  have s2:=n1.same.trans n2.same
  refine ⟨⟨_,s2.seq hT⟩,qj (xs:=ts.map fun t=>V.int (t / 2)) (fun i σ H3=>aQ H H3/\H3 nq=some (.lst ((MF.jt L0 (ts.take i)).map V.bl))/\∃ v4,σ=[some (.ref f),some (.ref p),some (.ref sd),some (.ref nq),v4,none]) ⟨s2,n2.at_,_,rfl⟩ ?_ ?_ ?_⟩
  ·rintro i σ H3 _ ⟨s3,_⟩
   exact s3.seq hT
  ·rintro i x σ H3 hx ⟨s3,a3,v4,rfl⟩
   obtain ⟨t,rfl,ht,r6⟩:=Zpi hx
   have hb:=p5 t r6
   walk_at "gs"
   refine ⟨nq,_,_,_,rfl,rfl,a3,T9 (by omega) (by rw [Zsh,hlen];omega),s3.put hw,?_,_,rfl⟩
   rw [bR,Uv,Qb ht]
  ·rintro σ H3 ⟨s3,a3,v4,rfl⟩
   have f3:=hf.same s3
   rw [Zsh,ZsI] at a3
   walk_at "gs"
   refine ⟨f,dx,_,rfl,f3.ins,rfl,f,dx,pl,kl,m,es,rfl,f3,?_⟩
   walk_at "gs"
   refine ⟨f,a.af,dx,_,_,rfl,f3.ins,T.av,T.aN,rfl,?_⟩
   walk_at "gs"
   refine ⟨_,_,rfl,⟨by omega,by omega,by omega,by omega⟩,?_⟩
   rw [show (1+(m:Int)+(es.length:Int) - 1 - (m:Int)).toNat=(aA es).length by omega]
   have yf:∀ i,(MF.lq (kY kvs) m (aA es) (MF.jt L0 ts) i).length=1+m+(aA es).length:=fun i=>by rw [MF.IC,hlen]
   refine Tj (fun i σ H4=>aQ H H4/\H4 nq=some (.lst ((MF.lq (kY kvs) m (aA es) (MF.jt L0 ts) i).map V.bl))/\∃ v4 v5,σ=[some (.ref f),some (.ref p),some (.ref sd),some (.ref nq),v4,v5]) ⟨s3,a3,_,_,rfl⟩ ?_ ?_
   ·rintro i σ H4 hi ⟨s4,a4,v4,v5,rfl⟩
    have f4:=hf.same s4
    have Ca:(aA es).length - 1 - i<es.length:=by omega
    have Ay:es[(aA es).length - 1 - i]? = some es[(aA es).length - 1 - i]:=Zsn Ca
    have Ac:(aA es)[(aA es).length - 1 - i]? = some (es[(aA es).length - 1 - i]).2:=by rw [Zsu,Ay];rfl
    obtain ⟨o1,o2,o3,o4⟩:=ok _ _ Ac
    have te:=f4.gM.tup _ (ZsV Ca)
    have kn:1+(m:Int)+(es.length:Int) - 1 - (i:Int)=((m+1+((aA es).length - 1 - i):Nat):Int):=by omega
    have oG:MF.lq (kY kvs) m (aA es) (MF.jt L0 ts) (i+1)=MF.zr (kY kvs) m (aA es) (MF.lq (kY kvs) m (aA es) (MF.jt L0 ts) i) ((aA es).length - 1 - i):=rfl
    unfold MF.zr at oG
    rw [Zsy (l:=aA es),Ac,Option.getD_some] at oG
    generalize hE:es[(aA es).length - 1 - i]=e at *
    have hjb:m+1+((aA es).length - 1 - i)<1+m+(aA es).length:=by omega
    rw [kn]
    walk_at "gs"
    refine ⟨_,_,.inl (.of a4),r9 (by omega) (by rw [yf];omega),?_⟩
    rw [Zua]
    cases hnd:(MF.lq (kY kvs) m (aA es) (MF.jt L0 ts) i).getD (m+1+((aA es).length - 1 - i)) false with
    | false =>
     rw [hnd,Bool.false_and,if_neg (by simp)] at oG
     walk_at "go"
     exact ⟨s4,by rw [oG];exact a4,_,_,rfl⟩
    | true =>
     rw [hnd,Zup] at oG
     walk_at "gs"
     refine ⟨sd,_,rfl,eB.k (k:=.inl ((m+1+((aA es).length - 1 - i):Nat):Int)) (s4 _ _ hS),?_⟩
     have kj:(bC kvs (.inl ((m+1+((aA es).length - 1 - i):Nat):Int))).isSome=kY kvs (m+1+((aA es).length - 1 - i)):=rfl
     rw [kj]
     cases hsx:kY kvs (m+1+((aA es).length - 1 - i)) with
     | true =>
      rw [hsx,if_neg (by simp)] at oG
      walk_at "go"
      exact ⟨s4,by rw [oG];exact a4,_,_,rfl⟩
     | false =>
      rw [hsx,Bool.not_false,if_pos rfl] at oG
      walk_at "gs"
      refine ⟨f,dx,_,rfl,f4.ins,rfl,f,dx,pl,kl,m,_,es,rfl,f4,fun _=>⟨fun z=>absurd z (by omega),fun e' _ he'=>?_⟩,fun z=>absurd ⟨by omega,by omega⟩ z⟩
      rw [show (((m+1+((aA es).length - 1 - i):Nat):Int) - (m:Int) - 1).toNat=(aA es).length - 1 - i by omega,Ay] at he'
      cases he'
      walk_at "gs"
      refine ⟨⟨_,.of te⟩,QB (xs:=[.int e.2.1,.int e.2.2]) (fun j σ H5=>aQ H H5/\H5 nq=some (.lst ((MF.jt (MF.lq (kY kvs) m (aA es) (MF.jt L0 ts) i) ([e.2.1,e.2.2].take j)).map V.bl))/\∃ v4 v5,σ=[some (.ref f),some (.ref p),some (.ref sd),some (.ref nq),v4,v5]) ⟨s4,a4,_,_,rfl⟩ ?_ ?_ ?_⟩
      ·rintro j σ H5 _ ⟨s5,_⟩
       exact .of ((hf.same s5).gM.tup _ (Zsz Ay))
      ·rintro j x σ H5 hx ⟨s5,a5,v4,v5,rfl⟩
       obtain ⟨t,rfl,ht,r6⟩:=Zrf (ts:=[e.2.1,e.2.2]) hx
       have hb:0<=t/\t<2 * (1+(m:Int)+es.length):=by
        rcases Zst.mp r6 with rfl | r6
        ·omega
        ·rw [Zsl] at r6
         subst r6
         omega
       walk_at "gs"
       refine ⟨nq,_,_,_,rfl,rfl,a5,T9 (by omega) (by rw [Zsh,MF.Bx,yf];omega),s5.put hw,?_,_,_,rfl⟩
       rw [bR,Uv,Qb ht]
      ·rintro σ H5 ⟨s5,a5,v4,v5,rfl⟩
       refine ⟨s5,?_,_,_,rfl⟩
       rw [oG,<- XH]
       exact a5
   ·rintro σ H4 ⟨s4,a4,v4,v5,rfl⟩
    have f4:=hf.same s4
    walk_at "gs"
    refine ⟨f,dx,_,rfl,f4.ins,rfl,f,dx,pl,kl,m,es,rfl,f4,?_⟩
    walk_at "gs"
    rw [show (1+(m:Int)+(es.length:Int)).toNat=1+m+(aA es).length by omega]
    refine Zmt (MF.eQ (kY kvs) m (aA es) ts) oz rfl (by omega) ?_ ?_ ?_
    ·intro i H' Q' hi s' q'
     walk_at "gs"
     refine ⟨_,_,.inl (.of (s' _ _ a4)),r9 (by omega) (by rw [yf];omega),?_⟩
     rw [show ((0:Int)+(i:Int)).toNat=i by omega]
     have e9:(MF.lq (kY kvs) m (aA es) (MF.jt L0 ts) (aA es).length).getD i false=MF.eQ (kY kvs) m (aA es) ts i:=by rw [<- Ej];rfl
     rw [e9]
     walk_at "go"
     exact q'
    ·intro i H' Q' hi _ s' q'
     walk_at "gs"
     rw [show (0:Int)+(i:Int)=(i:Int) by omega]
     exact q'
    ·intro pq H5 n5
     exact q pq H5 ⟨s4.nil n5.aD,n5.at_,s4.trans n5.same⟩
noncomputable def JH (a:bZ) (_:ZrF):Sp:=fun vs H Q E=>∃ (f dx pl kl:Addr) (m:Nat) (k:Int) (es:List En),vs=[.ref f,.int k]/\aS a.af H f m es dx pl kl/\MF.Ok m (aA es)/\m<=10/\es.length<=4000 /\
 (∀ n:Nat,k=n->n<1+m+es.length->∀ q H',nS H q (.lst ((MF.ku m (aA es) n).map oz)) H'->Q (.ref q) H')/\(¬ (0<=k/\k<1+m+es.length)->∀ e,H e=none->E (.ref e) (some a.bO) H)
noncomputable def Ky (a:bZ) (K:ZrF) (E:XK):TS:=(aI (du (ki (bW (ax (cV fun i j=>.bl (decide (i<j))) (aa 1) (tC (.int 0)))) (bW (ax (cV fun i j=>.bl (decide (j<=i))) (aa 1) (d9 a.af "total" (mK a K) [] E0 (aa 0) ar)))) (qp a.bO (ah (tC (.str "no knot of this fold")) ar) E) dQ)
  (cz (cB (Iu a K) [] E0 (ah (aa 0) (ah (jo (ah (aa 1) ar)) (ah rC ar))))))
theorem Y8 (T:Txt K mg a):TX P w K mg base 3 "cone" F6 Si a.mj (Ky a K) :=
 fun hr=>(aK (dJ (PW.pt (kX (cW qr (cv 1) aH (cU _)) (nj (cW pK (cv 1) (kz (cv 0) T.av T.aj.e (ny T) (hm hr) T.aj.b .nil bE) (cU _))))) (aL (tP Zr8 T.xi_NoKnot (by decide) rfl T.fI rfl pA (ai qO aw))) eE)
   (aL (cC (cK T.fK (Ju T) (hm hr) bE (ai (cv 0) (ai (kC (ai (cv 1) aw)) (ai zZ aw)))))))
theorem QK (T:Txt K mg a):aG P w K mg base (gZ P w) 4 a.mj a.p9 ["fold","knot"] (JH a K):=by
 refine T.lN.n.iO Zqy (Y8 T) (fun vs H Q E h=>?_) (fun H vs Q E h=>?_)
 ·obtain ⟨f,dx,pl,kl,m,k,es,rfl,_⟩:=h;rfl
 ·obtain ⟨f,dx,pl,kl,m,k,es,rfl,hf,ok,hm,hz,qi,qo⟩:=h
  show Ky a K E _ [some (.ref f),some (.int k)] H
  unfold Ky
  walk_at "go"
  by_cases h0:k<0
  ·rw [if_pos h0]
   exact ⟨by decide,qo (by omega)⟩
  rw [if_neg h0]
  refine ⟨f,dx,_,rfl,hf.ins,rfl,f,dx,pl,kl,m,es,rfl,hf,?_⟩
  walk_at "go"
  by_cases h1:1+(m:Int)+(es.length:Int)<=k
  ·rw [if_pos h1]
   exact ⟨by decide,qo (by omega)⟩
  rw [if_neg h1]
  obtain ⟨n,rfl⟩:=Zub (by omega:0<=k)
  have q:=qi n rfl (by omega)
  walk_at "gs"
  refine ⟨by show 1<=sizeLine;decide,fun r1 H1 n1=>?_⟩
  walk_at "gs"
  intro sd H2 n2
  have e1:([V.int (n:Int)]:List V)=[2 * (n:Int)].map fun t=>V.int (t / 2):=by
   show [V.int (n:Int)]=[V.int (2 * (n:Int) / 2)]
   rw [show 2 * (n:Int) / 2=(n:Int) by omega]
  rw [e1] at n1
  have s2:=n1.same.trans n2.same
  refine ⟨f,dx,pl,kl,r1,sd,m,[2 * (n:Int)],[],es,rfl,hf.same s2,.of (n2.same _ _ n1.at_),n2.at_,ok,?_,hm,hz,by simp,fun pq H3 n3=>?_⟩
  ·intro t ht
   rw [Zsl] at ht
   subst ht
   have:(aA es).length=es.length:=Zsh ..
   omega
  ·exact q pq H3 ⟨s2.nil n3.aD,n3.at_,s2.trans n3.same⟩
noncomputable def PX (K:ZrF):Sp:=fun vs H Q _=>∃ (p:Addr) (xs:List Int),vs=[.ref p]/\bg K H p (xs.map V.int)/\xs.length<=4000/\∀ H',aQ H H'->Q (.bl (MF.Cf xs)) H'
noncomputable def LL (K:ZrF):TS:=(cz (cH (nY K) (ah (eN (qY K (ah (aa 0) (ah (Jy (yh K) (aa 0) (By (tC (.int 1))) J2) ar))) 2 [] (rM K 2 (jk (aC 0) (jk (aC 1) rS))) gr (ax (cV fun i j=>.bl (decide (i<j))) (aa 0) (aa 1))) ar)))
theorem Zji (T:Txt K mg a):TM P w K mg base 0 "is_rising" AA L3 a.fA (LL K) :=
 fun hr=>(aL (cC (eV (Iy rfl) (by rfl) T.kg PyProof.Rows.boot_all (ai (jl (N:=["one","other"]) (k:=2) (sel:=[]) (az.of (aW AA).names (by decide +kernel)) (aF.of L3 (by decide +kernel)) rfl (xl rfl T.oP (ai (cv 0) (ai (Yd XC (cv 0) (uS aH) ZqS) aw))) (fun _ _ _ _=>(uq rfl (jR (cj (i:=0) (show Zsv (["one","other"]:List Str) by decide +kernel) rfl (by walk_at "o")) (jR (cj (i:=1) (show Zsv (["one","other"]:List Str) by decide +kernel) rfl (by walk_at "o")) vE)))) (fun _ _ _ _=>jq) (fun _ _ _ _=>(Rk qr (cv 0) (cv 1) (cU _)))) aw))))
theorem Te (T:Txt K mg a):aG P w K mg base dw 1 a.fA a.iq ["numbers"] (PX K):=by
 refine T.fE.n.dO YM (Zji T) (fun vs H Q E h=>?_) (fun H vs Q E h=>?_)
 ·obtain ⟨p,xs,rfl,_⟩:=h;rfl
 ·obtain ⟨p,xs,rfl,hS,hz,q⟩:=h
  show LL K _ [some (.ref p)] H
  unfold LL
  have big:(20000:Nat)<=sizeLine:=by decide
  walk_at "gs"
  refine ⟨_,hS,fun q1 H1 n1=>?_⟩
  rw [F5] at n1
  refine ⟨p,q1,rfl,⟨_,n1.same.seq hS⟩,⟨_,n1.sq⟩,fun r hr=>W4 (xs:=xs.map V.int) (ys:=(xs.map V.int).drop 1) (n:=xs.length - 1) (by rw [Ztu,Zsh];omega) (fun σ=>∃ v0 v1,σ=[v0,v1]) (fun i H3=>H3 r=some (.lst (((Zsj i).map fun j=>decide (xs.getD j 0<xs.getD (j+1) 0)).map V.bl))/\aQ H1 H3) ⟨_,_,rfl⟩ ⟨bR,iy hr⟩ ?_ ?_ ?_⟩
  ·rintro i H2 _ ⟨_,s2⟩
   exact ⟨s2.seq (n1.same.seq hS),s2.seq n1.sq⟩
  ·rintro i x y t σ2 H2 R hx hy ht ⟨v0,v1,rfl⟩ ⟨h1,s2⟩ hR
   have hi:i+1<xs.length:=by
    have:=(Zsk.mp hy).1
    rw [Ztu,Zsh] at this
    omega
   have ex:x=.int (xs.getD i 0):=by
    rw [Zsu,Zsn (by omega)] at hx
    cases hx
    simp [Zsx,show i<xs.length by omega]
   have ey:y=.int (xs.getD (i+1) 0):=by
    rw [List.getElem?_drop,Zsu,show 1+i=i+1 by omega,Zsn hi] at hy
    cases hy
    simp [Zsx,hi]
   subst ex ey
   have ZF:t≠r:=(cn h1 ht).symm
   walk_at "gs"
   refine ⟨t,_,rfl,.of bR,rfl,_,_,rfl,_,_,rfl,rfl,?_⟩
   walk_at "gs"
   refine ⟨_,by rw [aE ZF.symm];exact h1,by rw [Zsh,Zsh,ZsF];omega,hR _ _ ⟨_,_,rfl⟩ ⟨?_,((s2.trans (iy ht))).put hr⟩⟩
   rw [bR,Zs4,Zss,Zss]
   rfl
  ·rintro H3 ⟨h1,s3⟩
   walk_at "gs"
   refine ⟨_,.of h1,?_⟩
   exact q H3 (n1.same.trans s3)
theorem Tn (ks:List Nat):ks.map oz=(ks.map fun j:Nat=>(j:Int)).map V.int:=by rw [Zso];rfl
noncomputable def UE (a:bZ) (K:ZrF):Sp:=fun vs H Q _=>∃ (f dx pl kl p:Addr) (m:Nat) (k:Int) (xs:List Int) (es:List En),vs=[.ref f,.int k,.ref p]/\aS a.af H f m es dx pl kl/\bg K H p (xs.map V.int)/\MF.Ok m (aA es)/\m<=10/\es.length<=1900/\xs.length<=1900 /\
 ∀ H',aQ H H'->Q (.bl (MF.lX m (aA es) k xs)) H'
noncomputable def Kr (a:bZ) (K:ZrF):TS:=(aI (du (ki (bW (ax (cV fun i j=>.bl (decide (i<=j))) (aa 1) (fG K (aa 0) "many"))) (ki (bW (ax (cV fun i j=>.bl (decide (j<=i))) (aa 1) (d9 a.af "total" (mK a K) [] E0 (aa 0) ar))) (ki (bW (ax (Pt K false) (aa 1) (aa 2))) (lA (iU K (cB (PX K) [] E0 (ah (aa 2) ar))))))) (cz (tC (.bl false))) dQ)
  (aI (bV (cH (sY K) (ah (eN (eU K (cB (JH a K) [] E0 (ah (aa 0) (ah (aa 1) ar)))) 1 [] (aC 0) gr (kq (ah (aa 0) (ah (tC (.bl true)) ar)))) ar)) (aC 3))
  (aI (du (lA (iU K (cH (nY K) (ah (eN (eU K (aa 2)) 1 [3] (aC 0) gr (nP (aa 0) (aa 1))) ar)))) (cz (tC (.bl false))) dQ)
  (aI (bV (cH (sY K) (ah (eN (eU K (aa 2)) 1 [] (aC 0) gr (kq (ah (aa 0) (ah (tC (.bl true)) ar)))) ar)) (aC 4))
  (cz (cH (nY K) (ah (eN (eU K (cB (Iu a K) [] E0 (ah (aa 0) (ah (jo (ah (aa 1) ar)) (ah (aa 4) ar))))) 1 [0,4] (aC 0) gr (pZ (ax (cV fun i j=>.bl (decide (j<i))) (aa 0) (fG K (aa 1) "many")) (nP (aa 0) (aa 2)))) ar)))))))
theorem YI (T:Txt K mg a):TM P w K mg base 4 "is_cut" rm Am a.iK (Kr a K) :=
 fun hr=>(aK (dJ (PW.pt (kX (cW pw (cv 1) (fU (cv 0) rfl) (cU _)) (kX (cW pK (cv 1) (kz (cv 0) T.av T.aj.e (ny T) (hm hr) T.aj.b .nil bE) (cU _)) (kX (cW NV (cv 1) (cv 2) (by with_unfolding_all rfl)) (nj (mC (kE (cK T.fE (Te T) (hm hr) bE (ai (cv 2) aw))))))))) (aL (cC jM)) eE)
   (aK (cA (i:=3) Kt.nd rfl (by walk_at "o") (lK (Ar rfl) (by rfl) T.d5 PyProof.Rows.boot_dict (ai (jl (N:=["lower"]) (k:=1) (sel:=[]) (az.of (aW rm).names (by decide +kernel)) (aF.of Am (by decide +kernel)) rfl (gw (cK T.lN (QK T) (hm hr) lC (ai (cv 0) (ai (cv 1) aw)))) (fun _ _ _ _=>(cj (i:=0) (show Zsv (["lower"]:List Str) by decide +kernel) rfl (by walk_at "o"))) (fun _ _ _ _=>jq) (fun _ _ _ _=>(mF (ai (cv 0) (ai jM aw))))) aw)))
   (aK (dJ (mC (kE (eV (Iy rfl) (by rfl) T.kg PyProof.Rows.boot_all (ai (jl (N:=["lower","within"]) (k:=1) (sel:=[3]) (az.of (aW rm).names (by decide +kernel)) (aF.of Am (by decide +kernel)) rfl (gw (cv 2)) (fun _ _ _ _=>(cj (i:=0) (show Zsv (["lower","within"]:List Str) by decide +kernel) rfl (by walk_at "o"))) (fun _ _ _ _=>jq) (fun _ _ _ _=>(K5 (ID (eG hr) (cv 0) (cv 1))))) aw)))) (aL (cC jM)) eE)
   (aK (cA (i:=4) Kt.nd rfl (by walk_at "o") (lK (Ar rfl) (by rfl) T.d5 PyProof.Rows.boot_dict (ai (jl (N:=["lower"]) (k:=1) (sel:=[]) (az.of (aW rm).names (by decide +kernel)) (aF.of Am (by decide +kernel)) rfl (gw (cv 2)) (fun _ _ _ _=>(cj (i:=0) (show Zsv (["lower"]:List Str) by decide +kernel) rfl (by walk_at "o"))) (fun _ _ _ _=>jq) (fun _ _ _ _=>(mF (ai (cv 0) (ai jM aw))))) aw)))
   (aL (cC (eV (Iy rfl) (by rfl) T.kg PyProof.Rows.boot_all (ai (jl (N:=["lower","fold","stops"]) (k:=1) (sel:=[0,4]) (az.of (aW rm).names (by decide +kernel)) (aF.of Am (by decide +kernel)) rfl (gw (cK T.fK (Ju T) (hm hr) bE (ai (cv 0) (ai (kC (ai (cv 1) aw)) (ai (cv 4) aw))))) (fun _ _ _ _=>(cj (i:=0) (show Zsv (["lower","fold","stops"]:List Str) by decide +kernel) rfl (by walk_at "o"))) (fun _ _ _ _=>jq) (fun _ _ _ _=>(Ln (Rk yD (cv 0) (fU (cv 1) rfl) (cU _)) (Iw (K5 (ID (eG hr) (cv 0) (cv 2))))))) aw))))))))
theorem Zg (T:Txt K mg a):aG P w K mg base dw 5 a.iK a.kR ["fold","knot","some"] (UE a K):=by
 refine T.kT.n.dO Kt (YI T) (fun vs H Q E h=>?_) (fun H vs Q E h=>?_)
 ·obtain ⟨f,dx,pl,kl,p,m,k,xs,es,rfl,_⟩:=h;rfl
 ·obtain ⟨f,dx,pl,kl,p,m,k,xs,es,rfl,hf,hX,ok,hm,hz,hxz,q⟩:=h
  show Kr a K _ [some (.ref f),some (.int k),some (.ref p),none,none] H
  unfold Kr
  have big:(20000:Nat)<=sizeLine:=by decide
  have mr:(aA es).length=es.length:=Zsh ..
  have no:MF.lX m (aA es) k xs=false->∀ H',aQ H H'->Q (.bl false) H':=fun e H' s'=>by
   have:=q H' s'
   rwa [e] at this
  walk_at "gs"
  refine ⟨f,a.af,dx,_,_,rfl,hf.ins,T.av,T.aN,rfl,?_⟩
  walk_at "gs"
  by_cases g1:k<=(m:Int)
  ·rw [if_pos g1]
   exact no (by unfold MF.lX;rw [decide_eq_false (fun z=>absurd z.1 (by omega))];rfl) H (aQ.refl _)
  rw [if_neg g1]
  refine ⟨f,dx,_,rfl,hf.ins,rfl,f,dx,pl,kl,m,es,rfl,hf,?_⟩
  walk_at "gs"
  by_cases g2:1+(m:Int)+(es.length:Int)<=k
  ·rw [if_pos g2]
   exact no (by unfold MF.lX;rw [decide_eq_false (fun z=>absurd z.2.1 (by omega))];rfl) H (aQ.refl _)
  rw [if_neg g2]
  refine ⟨_,.inl hX,rfl,ZnZ xs,?_⟩
  rw [YG]
  by_cases g3:k∈xs
  ·rw [decide_eq_true g3,if_pos rfl]
   exact no (by unfold MF.lX;rw [decide_eq_false (fun z=>absurd g3 z.2.2)];rfl) H (aQ.refl _)
  rw [decide_eq_false g3,if_neg (by simp)]
  have h0:decide ((m:Int)<k/\k<1+m+(aA es).length/\k ∉ xs)=true:=decide_eq_true ⟨by omega,by omega,g3⟩
  refine ⟨p,xs,rfl,hX,by omega,fun H1 s1=>?_⟩
  walk_at "gs"
  cases hr:MF.Cf xs with
  | false =>
   walk_at "go"
   exact no (by unfold MF.lX;rw [h0,hr];rfl) H1 s1
  | true =>
   walk_at "go"
   obtain ⟨n,rfl⟩:=Zub (by omega:0<=k)
   refine ⟨f,dx,pl,kl,m,n,es,rfl,hf.same s1,ok,hm,by omega,fun n' e bw cp H2 n2=>?_,fun z=>absurd ⟨by omega,by omega⟩ z⟩
   have en:n'=n:=by omega
   subst en
   rw [Tn] at n2
   have G2:((MF.ku m (aA es) n').map fun j:Nat=>(j:Int)).length<=1950:=by
    rw [Zsh]
    unfold MF.ku MF.bh
    have:=Zs2 (MF.eQ (fun _=>false) m (aA es) [2 * (n':Int)]) (Zsj (1+m+(aA es).length))
    rw [ZsF] at this
    omega
   have pW:MF.lX m (aA es) (n':Int) xs=((xs.map fun x=>decide (x∈(MF.ku m (aA es) n').map fun j:Nat=>(j:Int))).all id && ((MF.bh (MF.eP xs) m (aA es) [2 * (n':Int)]).map fun j=>decide (m<j) || decide ((j:Int)∈xs)).all id):=by
    unfold MF.lX
    rw [h0,hr,Zua]
    rfl
   generalize hC:((MF.ku m (aA es) n').map fun j:Nat=>(j:Int))=CL at *
   have jV:=s1.trans n2.same
   walk_at "gs"
   refine ⟨⟨_,n2.sq⟩,J3 n2.sq rfl (by omega) fun mp H3 us hmp h3 kH s3 hu=>?_⟩
   walk_at "gs"
   refine ⟨us,CL.map fun x=>(.inl x,.bl true),h3,by rw [kH,Zsh],by rw [Zsh];omega,fun j pr hj=>?_,fun wd H4 n4=>?_⟩
   ·rw [Zsu] at hj
    cases hx:CL[j]? with
    | none=>rw [hx] at hj;cases hj
    | some x=>rw [hx] at hj;cases hj;exact hu j x hx
   have mH:=jV.trans (s3.trans n4.same)
   walk_at "gs"
   refine ⟨⟨_,mH.seq hX⟩,qN (fun v=>match v with | .int x=>.bl (decide (x∈CL)) | v=>v) (mH.seq hX) rfl (by rw [Zsh];omega) ?_ ?_⟩
   ·intro x H' Q' hx s' q'
    obtain ⟨y,hy,rfl⟩:=Zsi.mp hx
    walk_at "gs"
    refine ⟨wd,_,rfl,eB.k (k:=.inl y) (s' _ _ n4.at_),?_⟩
    have ev:(bC (eO [] (CL.map fun x=>((.inl x:Key),V.bl true))) (.inl y)).isSome=decide (y∈CL):=by
     have:=Ad CL y []
     simpa [eO,bC] using this
    rw [ev]
    exact q'
   ·intro lp H5 n5
    have e5:(xs.map V.int).map (fun v=>match v with | .int x=>V.bl (decide (x∈CL)) | v=>v)=(xs.map fun x=>decide (x∈CL)).map V.bl:=by rw [Zso,Zso];rfl
    rw [e5] at n5
    have rQ:=mH.trans n5.same
    walk_at "gs"
    refine ⟨_,n5.sq,?_⟩
    cases hc:(xs.map fun x=>decide (x∈CL)).all id with
    | false =>
     walk_at "go"
     exact no (by rw [pW,hc];rfl) H5 rQ
    | true =>
     rw [hc,Zup] at pW
     walk_at "go"
     refine ⟨⟨_,rQ.seq hX⟩,J3 (rQ.seq hX) rfl (by omega) fun mq H6 us2 hmq h6 hus2 s6 hu2=>?_⟩
     walk_at "gs"
     refine ⟨us2,xs.map fun x=>(.inl x,.bl true),h6,by rw [hus2,Zsh],by rw [Zsh];omega,fun j pr hj=>?_,fun sd H7 n7=>?_⟩
     ·rw [Zsu] at hj
      cases hx:xs[j]? with
      | none=>rw [hx] at hj;cases hj
      | some x=>rw [hx] at hj;cases hj;exact hu2 j x hx
     have s07:=rQ.trans (s6.trans n7.same)
     have kj:kY (eO [] (xs.map fun x=>((.inl x:Key),V.bl true)))=MF.eP xs:=by
      funext j
      have:=Ad xs (j:Int) []
      unfold kY MF.eP
      simpa [eO,bC] using this
     walk_at "gs"
     refine ⟨by show 1<=sizeLine;decide,fun kp H8 n8=>?_⟩
     have e1:([V.int (n':Int)]:List V)=[2 * (n':Int)].map fun t=>V.int (t / 2):=by
      show [V.int (n':Int)]=[V.int (2 * (n':Int) / 2)]
      rw [show 2 * (n':Int) / 2=(n':Int) by omega]
     rw [e1] at n8
     have V6:=s07.trans n8.same
     refine ⟨f,dx,pl,kl,kp,sd,m,[2 * (n':Int)],_,es,rfl,hf.same V6,.of n8.at_,n8.same _ _ n7.at_,ok,?_,hm,by omega,by simp,fun rq H9 n9=>?_⟩
     ·intro t ht
      rw [Zsl] at ht
      subst ht
      omega
     rw [kj,Tn] at n9
     have U5:=V6.trans n9.same
     have UQ:((MF.bh (MF.eP xs) m (aA es) [2 * (n':Int)]).map fun j:Nat=>(j:Int)).length<=1950:=by
      rw [Zsh]
      unfold MF.bh
      have:=Zs2 (MF.eQ (MF.eP xs) m (aA es) [2 * (n':Int)]) (Zsj (1+m+(aA es).length))
      rw [ZsF] at this
      omega
     walk_at "gs"
     refine ⟨⟨_,n9.sq⟩,qN (fun v=>match v with | .int x=>.bl (decide ((m:Int)<x) || decide (x∈xs)) | v=>v) n9.sq rfl (by rw [Zsh];omega) ?_ ?_⟩
     ·intro x H' Q' hx s' q'
      obtain ⟨y,hy,rfl⟩:=Zsi.mp hx
      have s0':=U5.trans s'
      walk_at "gs"
      refine ⟨f,a.af,dx,_,_,rfl,(hf.same s0').ins,T.av,T.aN,rfl,?_⟩
      walk_at "gs"
      by_cases g:(m:Int)<y
      ·rw [if_pos g]
       simp only [g,decide_true,Bool.true_or] at q'
       exact q'
      ·rw [if_neg g]
       refine ⟨sd,_,rfl,eB.k (k:=.inl y) (s' _ _ (n9.same _ _ (n8.same _ _ n7.at_))),?_⟩
       have ev:(bC (eO [] (xs.map fun x=>((.inl x:Key),V.bl true))) (.inl y)).isSome=decide (y∈xs):=by
        have:=Ad xs y []
        simpa [eO,bC] using this
       rw [ev]
       simp only [g,decide_false,Zur] at q'
       exact q'
     ·intro fp H10 n10
      have e10:(((MF.bh (MF.eP xs) m (aA es) [2 * (n':Int)]).map fun j:Nat=>(j:Int)).map V.int).map (fun v=>match v with | .int x=>V.bl (decide ((m:Int)<x) || decide (x∈xs)) | v=>v)=((MF.bh (MF.eP xs) m (aA es) [2 * (n':Int)]).map fun j=>decide (m<j) || decide ((j:Int)∈xs)).map V.bl:=by
       rw [Zso,Zso,Zso]
       refine ZsW fun j _=>?_
       show V.bl (decide ((m:Int)<(j:Int)) || _)=V.bl (decide (m<j) || _)
       rw [show decide ((m:Int)<(j:Int))=decide (m<j) by rw [decide_eq_decide];omega]
      rw [e10] at n10
      walk_at "gs"
      refine ⟨_,n10.sq,?_⟩
      have:=q H10 (U5.trans n10.same)
      rw [pW] at this
      exact this
noncomputable def nv (c:Nat):V:=.int (c:Nat)
noncomputable def ov:Option Nat->V
 | none=>.non
 | some u=>nv u
noncomputable def enc (x:Nat × Option Nat):Key × V:=(.inl (x.1:Int),ov x.2)
theorem yF (e:Nat):∀ cs:MZ.Cs,bC (cs.map enc) (.inl (e:Int))=(MZ.aO cs e).map ov
 | []=>rfl
 | x :: r=>by
  rw [Zsw]
  by_cases h:x.1=e
  ·rw [lJ (show (enc x).1=.inl (e:Int) by unfold enc;rw [h])]
   unfold MZ.aO
   rw [ZtE (by simpa using h)]
   rfl
  ·rw [lW (show ¬ (enc x).1=.inl (e:Int) from fun z=>h (by have:=Sum.inl.inj z;omega)),yF e r]
   unfold MZ.aO
   rw [ZtF (by simpa using h)]
theorem Zry (e:Nat) (cs:MZ.Cs):((cs.map enc).any fun kv=>decide (kv.1=(.inl (e:Int):Key)))=(cs.any fun x=>decide (x.1=e)):=by
 rw [List.any_map]
 congr 1
 funext x
 show decide ((.inl (x.1:Int):Key)=.inl (e:Int))=decide (x.1=e)
 rw [decide_eq_decide]
 exact ⟨fun z=>by have:=Sum.inl.inj z;omega,fun z=>by rw [z]⟩
theorem IB (cs:MZ.Cs) (e:Nat) (o:Option Nat):cJ (cs.map enc) (.inl (e:Int)) (ov o)=(MZ.oh cs e o).map enc:=by
 unfold cJ MZ.oh
 rw [Zry]
 by_cases h:(cs.any fun x=>decide (x.1=e))=true
 ·rw [if_pos h,if_pos h,Zso,Zso]
  refine ZsW fun x _=>?_
  show (if (enc x).1=.inl (e:Int) then ((enc x).1,ov o) else enc x)=enc (if x.1=e then (x.1,o) else x)
  by_cases g:x.1=e
  ·rw [if_pos g,if_pos (show (enc x).1=.inl (e:Int) by unfold enc;rw [g])]
   rfl
  ·rw [if_neg g,if_neg (show ¬ (enc x).1=.inl (e:Int) from fun z=>g (by have:=Sum.inl.inj z;omega))]
 ·rw [if_neg h,if_neg h,Zss]
  rfl
theorem Zpp (cs:MZ.Cs) (e:Nat):wk (cs.map enc) (.inl (e:Int))=(MZ.Ah cs e).map enc:=by
 unfold wk MZ.Ah
 rw [Ztd]
 congr 1
 refine List.filter_congr fun x _=>?_
 show decide ((enc x).1≠.inl (e:Int))=decide (x.1≠e)
 rw [decide_eq_decide]
 exact ⟨fun z g=>z (by unfold enc;rw [g]),fun z g=>z (by have:=Sum.inl.inj g;omega)⟩
structure bz (H:Hp) (mp:Addr) (rs:List Addr) (ls:List (List Nat)):Prop where
 lst:H mp=some (.lst (rs.map V.ref))
 len:rs.length=ls.length
 at_:∀ (i:Nat) r l,rs[i]? = some r->ls[i]? = some l->H r=some (.lst (l.map nv))
theorem bz.same {H H':Hp}{mp:Addr}{rs:List Addr}{ls:List (List Nat)} (h:bz H mp rs ls) (s:aQ H H'):bz H' mp rs ls:=⟨s _ _ h.lst,h.len,fun i r l hr hl=>s _ _ (h.at_ i r l hr hl)⟩
noncomputable def aZ (ls:List (List Nat)) (p:Nat):List Nat:=ls.getD p []
theorem bz.get {H:Hp}{mp:Addr}{rs:List Addr}{ls:List (List Nat)} (h:bz H mp rs ls) {i:Nat} (hi:i<ls.length):∃ r,jm (rs.map V.ref) (i:Int)=some (.ref r)/\H r=some (.lst ((aZ ls i).map nv)):=by
 have hr:rs[i]? = some (rs[i]'(by rw [h.len];exact hi)):=Zsn _
 have hl:ls[i]? = some ls[i]:=Zsn hi
 refine ⟨rs[i]'(by rw [h.len];exact hi),?_,?_⟩
 ·rw [rP .non (by omega) (by rw [Zsh,h.len];omega),Zua,Zsy,Zsu,hr]
  rfl
 ·have:=h.at_ i _ _ hr hl
  unfold aZ
  rw [Zsy,hl]
  exact this
noncomputable def AR (_:ZrF):Sp:=fun vs H Q _=>∃ p:Nat,vs=[.int p]/\Q (nv (2 * p)) H
noncomputable def PY (K:ZrF):TS:=(cz (ax mU (tC (.int 2)) (aa 0)))
theorem ZE (T:Txt K mg a):TM P w K mg base 0 "head" G7 Rw a.lM (PY K) :=
 fun hr=>(aL (cC (aX ox aH (cv 0))))
theorem IW (T:Txt K mg a):aG P w K mg base dw 1 a.lM a.p8 ["place"] (AR K):=by
 refine T.jh.n.dO YJ (ZE T) (fun vs H Q E h=>?_) (fun H vs Q E h=>?_)
 ·obtain ⟨p,rfl,_⟩:=h;rfl
 ·obtain ⟨p,rfl,q⟩:=h
  show PY K _ [some (.int p)] H
  unfold PY
  walk_at "gs"
  exact q
noncomputable def so (_:ZrF):Sp:=fun vs H Q _=>∃ p:Nat,vs=[.int p]/\Q (nv (2 * p+1)) H
noncomputable def OG (K:ZrF):TS:=(cz (ax iJ (ax mU (tC (.int 2)) (aa 0)) (tC (.int 1))))
theorem Zqh (T:Txt K mg a):TM P w K mg base 0 "foot" Gj Va a.mh (OG K) :=
 fun hr=>(aL (cC (aX jr (aX ox aH (cv 0)) aH)))
theorem xO (T:Txt K mg a):aG P w K mg base dw 1 a.mh a.pR ["place"] (so K):=by
 refine T.fb.n.dO Zqx (Zqh T) (fun vs H Q E h=>?_) (fun H vs Q E h=>?_)
 ·obtain ⟨p,rfl,_⟩:=h;rfl
 ·obtain ⟨p,rfl,q⟩:=h
  show OG K _ [some (.int p)] H
  unfold OG
  walk_at "gs"
  exact q
noncomputable def AG (ls:List (List Nat)) (gs:List Int):Prop:=∀ g∈gs,0<=g/\g<ls.length/\aZ ls g.toNat≠[]
noncomputable def VA (a:bZ) (_:ZrF):Sp:=fun vs H Q E=>∃ (mp gp:Addr) (rs:List Addr) (ls:List (List Nat)) (gs:List Int),vs=[.ref mp,.ref gp]/\bz H mp rs ls/\H gp=some (.lst (gs.map V.int))/\(AG ls gs->Q .non H)/\(¬ AG ls gs->∀ e,H e=none->E (.ref e) (some a.dR) H)
noncomputable def Oz (a:bZ) (K:ZrF) (E:XK):TS:=(fP (eU K (aa 1)) (aC 2) (du (ki (bW (ax (cV fun i j=>.bl (decide (i<j))) (aa 2) (tC (.int 0)))) (ki (bW (ax (cV fun i j=>.bl (decide (j<=i))) (aa 2) (cH (lj K) (ah (aa 0) ar)))) (bW (ax (jS K) (cH (lj K) (ah (ax (eL K) (aa 0) (aa 2)) ar)) (tC (.int 0)))))) (qp a.dR (ah (tC (.str "a goal is a spring or no place of the maze")) ar) E) dQ))
theorem V8 (T:Txt K mg a):TX P w K mg base 0 "need_goals" EE RE a.dZ (Oz a K) :=
 fun hr=>(aL (jn BL rfl (gw (cv 1)) (cj (i:=2) VT.nd rfl (by walk_at "o")) (aL (dJ (PW.pt (kX (cW qr (cv 2) aH (cU _)) (kX (cW pK (cv 2) (eV lU (by rfl) T.cc PySem.boot_len (ai (cv 0) aw)) (cU _)) (nj (cW (kr (i4 hr)) (eV lU (by rfl) T.cc PySem.boot_len (ai (fB fC (cv 0) (cv 2) (fun _ _=>rfl)) aw)) aH (cU _)))))) (aL (tP Zr8 T.xi_NoGoal (by decide) rfl T.nO rfl pA (ai qO aw))) eE))))
theorem ZiK (T:Txt K mg a):aG P w K mg base (gZ P w) 1 a.dZ a.gF ["maze","goals"] (VA a K):=by
 refine T.cZ.n.iO VT (V8 T) (fun vs H Q E h=>?_) (fun H vs Q E h=>?_)
 ·obtain ⟨mp,gp,rs,ls,gs,rfl,_⟩:=h;rfl
 ·obtain ⟨mp,gp,rs,ls,gs,rfl,hM,hG,q1,q0⟩:=h
  show Oz a K E _ [some (.ref mp),some (.ref gp),none] H
  unfold Oz
  walk_at "gs"
  refine ⟨⟨_,.of hG⟩,qj (xs:=gs.map V.int) (fun i σ H2=>H2=H/\AG ls (gs.take i)/\∃ v2,σ=[some (.ref mp),some (.ref gp),v2]) ⟨rfl,fun g hg=>by simp at hg,_,rfl⟩ ?_ ?_ ?_⟩
  ·rintro i σ H2 _ ⟨rfl,_⟩
   exact .of hG
  ·rintro i v σ H2 hv ⟨rfl,aB,v2,rfl⟩
   obtain ⟨g,hg,rfl⟩:=sW hv
   have bad:¬ (0<=g/\g<ls.length/\aZ ls g.toNat≠[])->∀ e,H2 e=none->E (.ref e) (some a.dR) H2:=fun kd=>q0 fun yL=>kd (yL g (Zsz hg))
   walk_at "gs"
   by_cases c0:g<0
   ·rw [if_pos c0]
    walk_at "gs"
    exact fun e he=>bad (by omega) e he
   rw [if_neg c0]
   refine .inl ⟨_,.inl (.of hM.lst),?_⟩
   rw [Zsh,hM.len]
   by_cases c1:(ls.length:Int)<=g
   ·rw [if_pos c1]
    walk_at "gs"
    exact fun e he=>bad (by omega) e he
   rw [if_neg c1]
   obtain ⟨gn,rfl⟩:=Zub (by omega:0<=g)
   obtain ⟨r,h1,h2⟩:=hM.get (i:=gn) (by omega)
   refine ⟨_,_,.inl (.of hM.lst),h1,?_⟩
   refine .inl ⟨_,.inl (.of h2),?_⟩
   rw [Zsh]
   walk_at "gs"
   by_cases c2:((aZ ls gn).length:Int)=0
   ·rw [if_pos c2]
    walk_at "gs"
    refine fun e he=>bad (fun ⟨_,_,z⟩=>z ?_) e he
    rw [Zua]
    exact Ztz.mp (by omega)
   ·rw [if_neg c2]
    refine ⟨by trivial,fun x hx=>?_,_,rfl⟩
    rw [ZsK,hg] at hx
    rcases Zsq.mp hx with z | z
    ·exact aB x z
    ·simp only [Option.toList_some,Zsl] at z
     subst z
     refine ⟨by omega,by omega,fun z=>c2 ?_⟩
     rw [Zua] at z
     rw [z]
     rfl
  ·rintro σ H2 ⟨rfl,aB,v2,rfl⟩
   rw [Zsh,ZsI] at aB
   walk_at "gs"
   exact q1 aB
noncomputable def M6 (_:ZrF):Sp:=fun vs H Q _=>∃ (mp ap:Addr) (rs:List Addr) (ls:List (List Nat)) (as:MZ.Cs) (e:Nat),vs=[.ref mp,.ref ap,.int e]/\bz H mp rs ls/\H ap=some (.dK (as.map enc))/\e / 2<ls.length/\ls.length<=300/\(aZ ls (e / 2)).length<=300 /\
 ∀ l H',nS H l (.lst ((MZ.gA (aZ ls) (MZ.aO as) e).map nv)) H'->Q (.ref l) H'
noncomputable def KU (K:ZrF):TS:=(aI (bV (ax (cI hJ fun i j=>.int (i / j)) (aa 2) (tC (.int 2))) (aC 3))
  (aI (du (bW (ax (jS K) (aa 2) (cB (so K) [] E0 (ah (aa 3) ar)))) (cz (ax iJ (eN (eU K (ax (eL K) (aa 0) (aa 3))) 1 [] (aC 0) gr (cB (AR K) [] E0 (ah (aa 0) ar))) (jo (ah (cB (AR K) [] E0 (ah (aa 3) ar)) ar)))) dQ)
  (aI (du (bW (oM (aa 3) (aa 1))) (cz (jo (ah (cB (so K) [] E0 (ah (aa 3) ar)) ar))) dQ)
  (cz (EN (bW (ax xU (lO (aa 1) (aa 3)) (tC .non))) (jo ar) (jo (ah (cB (so K) [] E0 (ah (lO (aa 1) (aa 3)) ar)) ar)))))))
theorem W6 (T:Txt K mg a):TM P w K mg base 1 "next_ends" AK Mp a.fj (KU K) :=
 fun hr=>(aK (cA (i:=3) Ue.nd rfl (by walk_at "o") (aX iC (cv 2) aH))
   (aK (dJ (cW (kr (i4 hr)) (cv 2) (cK T.fb (xO T) (hm hr) bE (ai (cv 3) aw)) (cU _)) (aL (cC (aX jr (jl (N:=["lower"]) (k:=1) (sel:=[]) (az.of (aW AK).names (by decide +kernel)) (aF.of Mp (by decide +kernel)) rfl (gw (fB fC (cv 0) (cv 3) (fun _ _=>rfl))) (fun _ _ _ _=>(cj (i:=0) (show Zsv (["lower"]:List Str) by decide +kernel) rfl (by walk_at "o"))) (fun _ _ _ _=>jq) (fun _ _ _ _=>(cK T.jh (IW T) (hm hr) bE (ai (cv 0) aw)))) (kC (ai (cK T.jh (IW T) (hm hr) bE (ai (cv 3) aw)) aw))))) eE)
   (aK (dJ (rA (su (eG hr) (cv 3) (cv 1))) (aL (cC (kC (ai (cK T.fb (xO T) (hm hr) bE (ai (cv 3) aw)) aw)))) eE)
   (aL (cC (Pg (cW oX (nh (eG hr) (cv 1) (cv 3) (fun _ _=>rfl)) ml (cU _)) (kC aw) (kC (ai (cK T.fb (xO T) (hm hr) bE (ai (nh (eG hr) (cv 1) (cv 3) (fun _ _=>rfl)) aw)) aw))))))))
theorem W5 (T:Txt K mg a):aG P w K mg base dw 2 a.fj a.ie ["maze","above","end"] (M6 K):=by
 refine T.il.n.dO Ue (W6 T) (fun vs H Q E h=>?_) (fun H vs Q E h=>?_)
 ·obtain ⟨mp,ap,rs,ls,as,e,rfl,_⟩:=h;rfl
 ·obtain ⟨mp,ap,rs,ls,as,e,rfl,hM,hA,he,hl,HY,q⟩:=h
  show KU K _ [some (.ref mp),some (.ref ap),some (.int e),none] H
  unfold KU
  have big:(20000:Nat)<=sizeLine:=by decide
  have e2:((e:Int) / 2)=((e / 2:Nat):Int):=by omega
  have g1:=eB.k (k:=.inl ((e / 2:Nat):Int)) hA
  rw [yF] at g1
  walk_at "gs"
  rw [e2]
  refine ⟨e / 2,rfl,?_⟩
  unfold nv
  walk_at "gs"
  by_cases c:(e:Int)=((2 * (e / 2)+1:Nat):Int)
  ·rw [if_pos c]
   have Mv:e % 2=1:=by omega
   obtain ⟨r,h1,h2⟩:=hM.get he
   refine ⟨_,_,.inl (.of hM.lst),h1,?_⟩
   refine ⟨⟨_,.of h2⟩,qN (fun v=>match v with | .int l=>.int (2 * l) | _=>.non) (.of h2) rfl (by rw [Zsh];omega) ?_ ?_⟩
   ·intro v H' Q' hv s' q'
    obtain ⟨l,_,rfl⟩:=Zsi.mp hv
    walk_at "gs"
    refine ⟨l,rfl,?_⟩
    have:nv (2 * l)=V.int (2 * (l:Int)):=by unfold nv;congr 1
    rw [this]
    exact q'
   intro l1 H1 n1
   have e1:((aZ ls (e / 2)).map nv).map (fun v=>match v with | .int l=>V.int (2 * l) | _=>.non)=((aZ ls (e / 2)).map fun l=>2 * l).map nv:=by rw [Zso,Zso];rfl
   rw [e1] at n1
   walk_at "gs"
   refine ⟨e / 2,rfl,?_⟩
   refine ⟨by show 1<=sizeLine;decide,fun l2 H2 n2=>?_⟩
   refine ⟨_,_,n2.same _ _ n1.at_,n2.at_,by rw [Zsh,Zsh];show _+1<=_;omega,fun l3 qz=>?_⟩
   have e3:((aZ ls (e / 2)).map fun l=>2 * l).map nv ++ [nv (2 * (e / 2))]=(MZ.gA (aZ ls) (MZ.aO as) e).map nv:=by
    unfold MZ.gA
    rw [if_pos Mv,Zss]
    rfl
   rw [e3]
   have s2:=n1.same.trans n2.same
   exact q l3 _ ⟨s2.nil qz,bR,s2.trans (iy qz)⟩
  rw [if_neg c]
  have GR:¬ e % 2=1:=by omega
  refine ⟨ap,_,rfl,g1,?_⟩
  cases hc:MZ.aO as (e / 2) with
  | none =>
   rw [hc] at g1
   walk_at "gs"
   refine ⟨e / 2,rfl,?_⟩
   refine ⟨by show 1<=sizeLine;decide,fun l2 H2 n2=>?_⟩
   have e3:[nv (2 * (e / 2)+1)]=(MZ.gA (aZ ls) (MZ.aO as) e).map nv:=by
    unfold MZ.gA
    rw [if_neg GR,hc]
    rfl
   rw [e3] at n2
   exact q l2 H2 n2.Nt
  | some o =>
   rw [hc] at g1
   walk_at "gs"
   refine ⟨ap,_,rfl,g1,?_⟩
   cases o with
   | none =>
    show _
    walk_at "gs"
    intro l2 H2 n2
    have e3:([]:List V)=(MZ.gA (aZ ls) (MZ.aO as) e).map nv:=by
     unfold MZ.gA
     rw [if_neg GR,hc]
     rfl
    rw [e3] at n2
    exact q l2 H2 n2.Nt
   | some u =>
    show _
    walk_at "gs"
    refine ⟨ap,_,rfl,g1,?_⟩
    refine ⟨u,rfl,?_⟩
    refine ⟨by show 1<=sizeLine;decide,fun l2 H2 n2=>?_⟩
    have e3:[nv (2 * u+1)]=(MZ.gA (aZ ls) (MZ.aO as) e).map nv:=by
     unfold MZ.gA
     rw [if_neg GR,hc]
     rfl
    rw [e3] at n2
    exact q l2 H2 n2.Nt
noncomputable def nI (gs:List Nat) (g:Nat):Prop:=g∈gs
theorem xm {n:Nat}:∀ {xs:List Nat},xs.Nodup->(∀ x∈xs,x<n)->xs.length<=n:=fun {xs} nd h=>by
 have:=MZ.sZ (R:=fun a b:Nat=>a=b) (fun a a' b h h'=>h.trans h'.symm) (A:=xs) (B:=Zsj n) nd fun a ha=>⟨a,ZsL.mpr (h a ha),rfl⟩
 rwa [ZsF] at this
structure jB (ls:List (List Nat)) (gs:List Nat) (as cs:MZ.Cs) (ws:List Nat):Prop where
 nC:MZ.jZ (aZ ls) (nI gs) (MZ.aO as) cs
 wait:∀ w∈ws,w∈MZ.keys cs
 wnd:ws.Nodup
 bd:∀ e∈MZ.keys cs,e<2 * ls.length
 done:∀ e∈MZ.keys cs,e∈ws\/((∀ t,e=2 * t+1->aZ ls t≠[])/\∀ e'∈MZ.gA (aZ ls) (MZ.aO as) e,e'∈MZ.keys cs)
theorem jB.len {ls:List (List Nat)}{gs:List Nat}{as cs:MZ.Cs}{ws:List Nat} (h:jB ls gs as cs ws):cs.length<=2 * ls.length:=by
 have:=xm h.nC.nd h.bd
 unfold MZ.keys at this
 rwa [Zsh] at this
structure Mz (ls:List (List Nat)):Prop where
 lt:∀ p l,l∈aZ ls p->l<p
 nd:∀ p,(aZ ls p).Nodup
theorem Mz.len {ls:List (List Nat)} (h:Mz ls) (p:Nat):(aZ ls p).length<=p:=xm (h.nd p) (h.lt p)
theorem KD {ls:List (List Nat)}{p l:Nat} (h:l∈aZ ls p):p<ls.length:=by
 refine ZtV fun z=>?_
 unfold aZ at h
 rw [Zsy,ZsR z] at h
 simp at h
theorem wC {ls:List (List Nat)} (mz:Mz ls) {as:MZ.Cs} (ab:∀ p q,MZ.aO as p=some (some q)->q<ls.length) {e e':Nat} (he:e<2 * ls.length) (h:e'∈MZ.gA (aZ ls) (MZ.aO as) e):e'<2 * ls.length:=by
 rcases (by omega:e=2 * (e / 2)\/e=2 * (e / 2)+1) with z | z
 ·rw [z] at h
  rcases MZ.ua h with ⟨_,rfl⟩ | ⟨q,hq,rfl⟩
  ·omega
  ·have:=ab _ _ hq
   omega
 ·rw [z] at h
  rcases MZ.Ag h with ⟨l,hl,rfl⟩ | rfl
  ·have:=mz.lt _ _ hl
   omega
  ·omega
noncomputable def RP (_:ZrF):Sp:=fun vs H Q _=>∃ (mp gp ap:Addr) (rs:List Addr) (ls:List (List Nat)) (gs:List Nat) (as:MZ.Cs),vs=[.ref mp,.ref gp,.ref ap]/\bz H mp rs ls/\H gp=some (.lst (gs.map nv))/\H ap=some (.dK (as.map enc))/\Mz ls/\ls.length<=300/\(∀ g∈gs,g<ls.length)/\(∀ p q,MZ.aO as p=some (some q)->q<ls.length) /\
 (∀ s cs tp cp H',aQ H H'->H cp=none->H' tp=some (.tup [nv s,.ref cp])->H' cp=some (.dK (cs.map enc))->MZ.jZ (aZ ls) (nI gs) (MZ.aO as) cs->aZ ls s=[]->2 * s+1∈MZ.keys cs->s<ls.length->(∀ e∈MZ.keys cs,e<2 * ls.length)->Q (.ref tp) H') /\
 (∀ cs tp cp H',aQ H H'->H' tp=some (.tup [.non,.ref cp])->H' cp=some (.dK (cs.map enc))->jB ls gs as cs []->Q (.ref tp) H')
noncomputable def Jr (K:ZrF):TS:=(aI (bV rC (aC 3))
  (aI (fP (eU K (aa 1)) (aC 4) (fP (eU K (ax (eL K) (aa 0) (aa 4))) (aC 5) (mX (aa 3) (cB (AR K) [] E0 (ah (aa 5) ar)) (tC .non))))
  (aI (bV (cH (NP K) (ah (aa 3) ar)) (aC 6))
  (aI (BY (iU K (aa 6)) (aI (bV (pb K "list" tZ (aa 6)) (aC 7))
  (aI (bV (ax (cI hJ fun i j=>.int (i / j)) (aa 7) (tC (.int 2))) (aC 8))
  (aI (du (nE (bW (ax (jS K) (aa 7) (cB (so K) [] E0 (ah (aa 8) ar)))) (bW (ax (jS K) (cH (lj K) (ah (ax (eL K) (aa 0) (aa 8)) ar)) (tC (.int 0))))) (cz (kq (ah (aa 8) (ah (aa 3) ar)))) dQ)
  (fP (eU K (cB (M6 K) [] E0 (ah (aa 0) (ah (aa 2) (ah (aa 7) ar))))) (aC 9) (du (bW (oM (aa 9) (aa 3))) (aI (mX (aa 3) (aa 9) (aa 7))
  (ix (pG K "list" qm (aa 6) (ah (aa 9) ar)))) dQ))))))
  (cz (kq (ah (tC .non) (ah (aa 3) ar))))))))
theorem ZmH (T:Txt K mg a):TM P w K mg base 2 "search" Be U0 a.iL (Jr K) :=
 fun hr=>(aK (cA (i:=3) tH.nd rfl (by walk_at "o") zZ)
   (aK (jn PassesOwn.never rfl (gw (cv 1)) (cj (i:=4) tH.nd rfl (by walk_at "o")) (aL (jn PassesOwn.never rfl (gw (fB fC (cv 0) (cv 4) (fun _ _=>rfl))) (cj (i:=5) tH.nd rfl (by walk_at "o")) (aL (pJ (eG hr) (cv 3) (cK T.jh (IW T) (hm hr) bE (ai (cv 5) aw)) ml rfl)))))
   (aK (cA (i:=6) tH.nd rfl (by walk_at "o") (lK (Zrp rfl) (by rfl) T.eg PyProof.Rows.boot_list (ai (cv 3) aw)))
   (aK (Pz PassesOwn.never (kE (cv 6)) (aK (cA (i:=7) tH.nd rfl (by walk_at "o") (MU Zr7 PySem.F.slot_list_pop PySem.F.type_list_pop (o6 tY) (cv 6)))
   (aK (cA (i:=8) tH.nd rfl (by walk_at "o") (aX iC (cv 7) aH))
   (aK (dJ (PW.pt (IP (cW (kr (i4 hr)) (cv 7) (cK T.fb (xO T) (hm hr) bE (ai (cv 8) aw)) (cU _)) (HN (cW (kr (i4 hr)) (eV lU (by rfl) T.cc PySem.boot_len (ai (fB fC (cv 0) (cv 8) (fun _ _=>rfl)) aw)) aH (cU _))))) (aL (cC (mF (ai (cv 8) (ai (cv 3) aw))))) eE)
   (aL (jn PassesOwn.never rfl (gw (cK T.il (W5 T) (hm hr) bE (ai (cv 0) (ai (cv 2) (ai (cv 7) aw))))) (cj (i:=9) tH.nd rfl (by walk_at "o")) (aL (dJ (rA (su (eG hr) (cv 9) (cv 3))) (aK (pJ (eG hr) (cv 3) (cv 9) (cv 7) rfl)
   (aL (i0 (tE Zr7 Zr9 Zsa (o6 rH) (cv 6) (ai (cv 9) aw))))) eE))))))))
   (aL (cC (mF (ai ml (ai (cv 3) aw)))))))))
theorem X7 (T:Txt K mg a):aG P w K mg base dw 3 a.iL a.kZ ["maze","goals","above"] (RP K):=by
 refine T.kW.n.dO tH (ZmH T) (fun vs H Q E h=>?_) (fun H vs Q E h=>?_)
 ·obtain ⟨mp,gp,ap,rs,ls,gs,as,rfl,_⟩:=h;rfl
 ·obtain ⟨mp,gp,ap,rs,ls,gs,as,rfl,hM,hG,hA,mz,hn,hgs,gO,q1,q0⟩:=h
  show Jr K _ [some (.ref mp),some (.ref gp),some (.ref ap),none,none,none,none,none,none,none] H
  unfold Jr
  have big:(20000:Nat)<=sizeLine:=by decide
  walk_at "gs"
  intro cp H1 n1
  have fc:H cp=none:=n1.aD
  walk_at "gs"
  refine ⟨⟨_,.of (n1.same _ _ hG)⟩,qj (xs:=gs.map nv) (fun i σ H2=>aQ H H2/\∃ (cs:MZ.Cs) (v4 v5:Option V),H2 cp=some (.dK (cs.map enc))/\(MZ.keys cs).Nodup/\(∀ x∈cs,x.2=none)/\(∀ e,e∈MZ.keys cs ↔ ∃ g∈gs.take i,∃ l∈aZ ls g,e=2 * l)/\σ=[some (.ref mp),some (.ref gp),some (.ref ap),some (.ref cp),v4,v5,none,none,none,none]) ⟨n1.same,[],_,_,n1.at_,Zs8,fun x hx=>by simp at hx,fun e=>by simp [MZ.keys],rfl⟩ ?_ ?_ ?_⟩
  ·rintro i σ H2 _ ⟨s2,_⟩
   exact .of (s2 _ _ hG)
  ·rintro i v σ H2 hv ⟨s2,cs,v4,v5,h2,nd2,all2,key2,rfl⟩
   obtain ⟨g,hg,rfl⟩:=sW hv
   have zW:=hgs g (Zsz hg)
   obtain ⟨r,hr1,hr2⟩:=(hM.same s2).get zW
   have HY:=mz.len g
   unfold nv
   walk_at "gs"
   refine ⟨_,_,.inl (.of (s2 _ _ hM.lst)),hr1,?_⟩
   refine ⟨⟨_,.of hr2⟩,qj (xs:=(aZ ls g).map nv) (fun j σ H3=>aQ H H3/\H3 r=some (.lst ((aZ ls g).map nv))/\∃ (cs:MZ.Cs) (v5:Option V),H3 cp=some (.dK (cs.map enc))/\(MZ.keys cs).Nodup/\(∀ x∈cs,x.2=none)/\(∀ e,e∈MZ.keys cs ↔ (∃ g∈gs.take i,∃ l∈aZ ls g,e=2 * l)\/∃ l∈(aZ ls g).take j,e=2 * l)/\σ=[some (.ref mp),some (.ref gp),some (.ref ap),some (.ref cp),some (.int (g:Nat)),v5,none,none,none,none]) ⟨s2,hr2,cs,_,h2,nd2,all2,fun e=>by rw [key2];simp,rfl⟩ ?_ ?_ ?_⟩
   ·rintro j σ H3 _ ⟨_,h3,_⟩
    exact .of h3
   ·rintro j w σ H3 hw ⟨s3,tO,cs,v5,h3,nd3,all3,key3,rfl⟩
    obtain ⟨l,hl,rfl⟩:=sW hw
    have MT:=Zsz hl
    have mV:cs.length<=2 * ls.length:=by
     have:=xm (n:=2 * ls.length) nd3 fun e he=>by
      rcases (key3 e).mp he with ⟨g',hg',l',hl',rfl⟩ | ⟨l',hl',rfl⟩
      ·have:=mz.lt _ _ hl'
       have:=KD hl'
       omega
      ·have:=mz.lt _ _ (List.mem_of_mem_take hl')
       omega
     unfold MZ.keys at this
     rwa [Zsh] at this
    unfold nv
    walk_at "gs"
    refine ⟨l,rfl,cp,_,rfl,.k (k:=.inl ((2 * l:Nat):Int)) h3 (by rw [Zsh];omega),s3.put fc,?_,MZ.oh cs (2 * l) none,_,?_,MZ.Bt nd3 _ _,fun x hx=>?_,fun e=>?_,rfl⟩
    ·rw [aE (eA tO h3 (fun z=>nomatch z))]
     exact tO
    ·rw [bR]
     exact congrArg (fun z=>some (HO.dK z)) (IB cs (2 * l) none)
    ·have hx':=(MZ.oy (MZ.Bt nd3 _ _)).mpr (show (x.1,x.2)∈_ from hx)
     rw [MZ.O2 nd3] at hx'
     by_cases e:x.1=2 * l
     ·rw [if_pos e] at hx'
      exact (Option.some.inj hx').symm
     ·rw [if_neg e] at hx'
      exact all3 _ ((MZ.oy nd3).mp hx')
    ·rw [MZ.JU]
     have ek:(∃ l'∈(aZ ls g).take (j+1),e=2 * l') ↔ (∃ l'∈(aZ ls g).take j,e=2 * l')\/e=2 * l:=by
      rw [ZsK,hl]
      constructor
      ·rintro ⟨l',hl',rfl⟩
       rcases Zsq.mp hl' with z | z
       ·exact .inl ⟨l',z,rfl⟩
       ·simp only [Option.toList_some,Zsl] at z
        subst z
        exact .inr rfl
      ·rintro (⟨l',hl',rfl⟩ | rfl)
       ·exact ⟨l',ZsG _ hl',rfl⟩
       ·exact ⟨l,ZsE _ (by simp),rfl⟩
     rw [ek,<- or_assoc,<- key3]
     split
     ·rename_i p5
      constructor
      ·exact .inl
      ·rintro (z | rfl)
       ·exact z
       ·exact p5
     ·rw [Zsq,Zsl]
   ·rintro σ H3 ⟨s3,tO,cs,v5,h3,nd3,all3,key3,rfl⟩
    rw [Zsh,ZsI] at key3
    refine ⟨s3,cs,_,_,h3,nd3,all3,fun e=>?_,rfl⟩
    rw [key3,ZsK,hg]
    constructor
    ·rintro (⟨g',hg',l,hl,rfl⟩ | ⟨l,hl,rfl⟩)
     ·exact ⟨g',ZsG _ hg',l,hl,rfl⟩
     ·exact ⟨g,ZsE _ (by simp),l,hl,rfl⟩
    ·rintro ⟨g',hg',l,hl,rfl⟩
     rcases Zsq.mp hg' with z | z
     ·exact .inl ⟨g',z,l,hl,rfl⟩
     ·simp only [Option.toList_some,Zsl] at z
      subst z
      exact .inr ⟨l,hl,rfl⟩
  ·rintro σ H2 ⟨s2,cs0,v4,v5,h2,nd2,all2,key2,rfl⟩
   rw [Zsh,ZsI] at key2
   have XM:MZ.jZ (aZ ls) (nI gs) (MZ.aO as) cs0:=by
    refine ⟨nd2,fun i e u h=>?_,fun e h=>?_,fun g l hg hl=>?_⟩
    ·have:=all2 _ (Zsz h)
     cases this
    ·obtain ⟨g,hg,l,hl,rfl⟩:=(key2 e).mp (Zsi.mpr ⟨_,h,rfl⟩)
     exact ⟨by omega,g,hg,by rw [show 2 * l / 2=l by omega];exact hl⟩
    ·obtain ⟨x,hx,e⟩:=Zsi.mp ((key2 (2 * l)).mpr ⟨g,hg,l,hl,rfl⟩)
     have:=all2 x hx
     rw [<- e,<- this]
     exact hx
   have XA:jB ls gs as cs0 (MZ.keys cs0):=⟨XM,fun w hw=>hw,nd2,fun e he=>by
    obtain ⟨g,hg,l,hl,rfl⟩:=(key2 e).mp he
    have:=mz.lt _ _ hl
    have:=KD hl
    omega,fun e he=>.inl he⟩
   walk_at "gs"
   refine ⟨_,.inl h2,fun wp H3 n3=>?_⟩
   have e3:(cs0.map enc).map (fun kv=>kV kv.1)=(MZ.keys cs0).map nv:=by unfold MZ.keys;rw [Zso,Zso];rfl
   rw [e3] at n3
   have iQ:=s2.trans n3.same
   have fw:H wp=none:=s2.nil n3.aD
   have Le:cp≠wp:=cn h2 n3.aD
   walk_at "gs"
   refine ⟨fun m σ H4=>∃ (cs:MZ.Cs) (ws:List Nat) (v4 v5 v7 v8 v9:Option V),aQ H H4/\H4 cp=some (.dK (cs.map enc))/\H4 wp=some (.lst (ws.map nv))/\jB ls gs as cs ws/\m=2 * (2 * ls.length - cs.length)+ws.length/\σ=[some (.ref mp),some (.ref gp),some (.ref ap),some (.ref cp),v4,v5,some (.ref wp),v7,v8,v9],⟨_,cs0,MZ.keys cs0,_,_,_,_,_,iQ,n3.same _ _ h2,n3.at_,XA,rfl,rfl⟩,?_⟩
   rintro m σ H4 ⟨cs,ws,v4,v5,v7,v8,v9,s4,h4,hw4,sk,rfl,rfl⟩
   simp only [iU,aa,Ztk,Zs9]
   refine ⟨_,.inl ⟨_,.of hw4,rfl⟩,?_⟩
   rcases ZtH ws with rfl | ⟨ws',e,hwe⟩
   ·rw [if_neg (by simp)]
    walk_at "gs"
    refine ⟨by show 2<=sizeLine;decide,fun tp H5 n5=>?_⟩
    exact q0 cs tp cp H5 (s4.trans n5.same) n5.at_ (n5.same _ _ h4) sk
   rw [ZtA] at hwe
   subst hwe
   rw [if_pos (by simp)]
   have Fs:=sk.wait e (by simp)
   have IK:=sk.bd e Fs
   have mV:=sk.len
   have hwn:=Ztl.mp sk.wnd
   refine ⟨fun σ' H'=>∃ (fL:MZ.Cs) (jf:List Nat) (v4 v5 v7 v8 v9:Option V),aQ H H'/\H' cp=some (.dK (fL.map enc))/\H' wp=some (.lst (jf.map nv))/\jB ls gs as fL jf/\2 * (2 * ls.length - fL.length)+jf.length<=2 * (2 * ls.length - cs.length)+ws'.length/\σ'=[some (.ref mp),some (.ref gp),some (.ref ap),some (.ref cp),v4,v5,some (.ref wp),v7,v8,v9],?_,?_⟩
   ·rintro σ' H' ⟨fL,jf,w4,w5,w7,w8,w9,z1,z2,z3,z4,z5,rfl⟩
    exact ⟨_,by rw [Zsm,ZsN];omega,fL,jf,_,_,_,_,_,z1,z2,z3,z4,rfl,rfl⟩
   refine ⟨.inl ⟨by trivial,_,.of hw4⟩,wp,_,nv e,rfl,by trivial,hw4,by rw [Zss];simp,?_⟩
   have Kh:upd H4 wp (.lst (((ws' ++ [e]).map nv).dropLast)) wp=some (.lst (ws'.map nv)):=by rw [bR,Zss];simp
   have h5:upd H4 wp (.lst (((ws' ++ [e]).map nv).dropLast)) cp=some (.dK (cs.map enc)):=by rw [aE Le];exact h4
   have s5:aQ H (upd H4 wp (.lst (((ws' ++ [e]).map nv).dropLast))):=s4.put fw
   generalize upd H4 wp (.lst (((ws' ++ [e]).map nv).dropLast))=H5 at Kh h5 s5 ⊢
   unfold nv
   walk_at "gs"
   have e2:((e:Int) / 2)=((e / 2:Nat):Int):=by omega
   rw [e2]
   refine ⟨e / 2,rfl,?_⟩
   unfold nv
   have Lj:=hM.same s5
   obtain ⟨r,hr1,hr2⟩:=Lj.get (i:=e / 2) (by omega)
   have go:(∀ t,e=2 * t+1->aZ ls t≠[])->∀ D:Ends,D.nx=(fun σ' H'=>∃ (fL:MZ.Cs) (jf:List Nat) (v4 v5 v7 v8 v9:Option V),aQ H H'/\H' cp=some (.dK (fL.map enc))/\H' wp=some (.lst (jf.map nv))/\jB ls gs as fL jf/\2 * (2 * ls.length - fL.length)+jf.length<=2 * (2 * ls.length - cs.length)+ws'.length/\σ'=[some (.ref mp),some (.ref gp),some (.ref ap),some (.ref cp),v4,v5,some (.ref wp),v7,v8,v9])->M6 K [.ref mp,.ref ap,.int (e:Nat)] H5 (fun x H6=>match x with | .ref p=>(∃ xs,bg K H6 p xs)/\oi (kD K p) (aC 9) (du (bW (oM (aa 9) (aa 3))) (aI (mX (aa 3) (aa 9) (aa 7)) (ix (pG K "list" qm (aa 6) (ah (aa 9) ar)))) dQ) D [some (.ref mp),some (.ref gp),some (.ref ap),some (.ref cp),v4,v5,some (.ref wp),some (.int (e:Nat)),some (.int ((e / 2:Nat):Int)),v9] H6 | _=>False) E0:=fun rY D hD=>by
    refine ⟨mp,ap,rs,ls,as,e,rfl,Lj,s5 _ _ hA,by omega,hn,by have:=mz.len (e / 2);omega,fun l6 H6 md=>?_⟩
    obtain ⟨f6,h6,s6⟩:=md
    have ZG:l6≠wp:=(cn Kh f6).symm
    have Yv:l6≠cp:=(cn h5 f6).symm
    refine ⟨⟨_,.of h6⟩,qj (xs:=(MZ.gA (aZ ls) (MZ.aO as) e).map nv) (fun j σ H7=>∃ (fL:MZ.Cs) (jf:List Nat) (v9:Option V),aQ H H7/\H7 l6=some (.lst ((MZ.gA (aZ ls) (MZ.aO as) e).map nv))/\H7 cp=some (.dK (fL.map enc))/\H7 wp=some (.lst (jf.map nv))/\MZ.jZ (aZ ls) (nI gs) (MZ.aO as) fL/\(∀ x∈MZ.keys cs,x∈MZ.keys fL)/\(∀ x∈MZ.keys fL,x<2 * ls.length/\(x∈MZ.keys cs\/x∈jf))/\(∀ x∈jf,x∈MZ.keys fL)/\(∀ x∈ws',x∈jf)/\jf.Nodup/\cs.length<=fL.length/\(∀ x∈(MZ.gA (aZ ls) (MZ.aO as) e).take j,x∈MZ.keys fL)/\jf.length+cs.length=ws'.length+fL.length/\σ=[some (.ref mp),some (.ref gp),some (.ref ap),some (.ref cp),v4,v5,some (.ref wp),some (.int (e:Nat)),some (.int ((e / 2:Nat):Int)),v9]) ⟨cs,ws',_,s5.trans s6,h6,s6 _ _ h5,s6 _ _ Kh,sk.nC,fun x hx=>hx,fun x hx=>⟨sk.bd x hx,.inl hx⟩,fun x hx=>sk.wait x (ZsG _ hx),fun x hx=>hx,hwn.1,ZtJ _,fun x hx=>by simp at hx,rfl,rfl⟩ ?_ ?_ ?_⟩
    ·rintro j σ H7 _ ⟨_,_,_,_,h7,_⟩
     exact .of h7
    ·rintro j v σ H7 hv ⟨fL,jf,w9,s7,hl7,h7,hw7,cm7,sub7,bd7,wt7,ws7,wn7,le7,nx7,ln7,rfl⟩
     obtain ⟨x,hx,rfl⟩:=sW hv
     have Jh:=Zsz hx
     have IA:=wC mz gO IK Jh
     have hcl':fL.length<=2 * ls.length:=by
      have:=xm cm7.nd fun y hy=>(bd7 y hy).1
      unfold MZ.keys at this
      rwa [Zsh] at this
     have hwl':jf.length<=2 * ls.length:=xm wn7 fun y hy=>(bd7 y (wt7 y hy)).1
     have g1:=eB.k (k:=.inl (x:Int)) h7
     rw [yF] at g1
     unfold nv
     walk_at "gs"
     refine ⟨cp,_,rfl,g1,?_⟩
     have VD:∀ y∈(MZ.gA (aZ ls) (MZ.aO as) e).take (j+1),y∈(MZ.gA (aZ ls) (MZ.aO as) e).take j\/y=x:=fun y hy=>by
      rw [ZsK,hx] at hy
      rcases Zsq.mp hy with z | z
      ·exact .inl z
      ·exact .inr (by simpa using z)
     cases hc:MZ.aO fL x with
     | some f =>
      have p5:=MZ.qV.mp (by rw [hc];simp)
      walk_at "go"
      refine ⟨fL,jf,_,s7,hl7,h7,hw7,cm7,sub7,bd7,wt7,ws7,wn7,le7,fun y hy=>?_,ln7,rfl⟩
      rcases VD y hy with z | rfl
      ·exact nx7 y z
      ·exact p5
     | none =>
      have kd:=MZ.AE.mp hc
      walk_at "gs"
      refine ⟨cp,_,rfl,.k (k:=.inl (x:Int)) h7 (by rw [Zsh];omega),?_⟩
      have TK:upd H7 cp (.dK (cJ (fL.map enc) (.inl (x:Int)) (.int (e:Nat)))) wp=some (.lst (jf.map nv)):=by rw [aE Le.symm];exact hw7
      walk_at "gs"
      refine ⟨.inl ⟨by trivial,_,.of TK⟩,wp,_,_,rfl,rfl,TK,by rw [Zsh];omega,?_⟩
      have Kc:cJ (fL.map enc) (.inl (x:Int)) (.int (e:Nat))=(fL ++ [(x,some e)]).map enc:=by
       have:=IB fL x (some e)
       unfold MZ.oh at this
       rw [if_neg (fun z=>kd ((MZ.Dq fL x).mp z))] at this
       exact this
      have ek:MZ.keys (fL ++ [(x,some e)])=MZ.keys fL ++ [x]:=by unfold MZ.keys;rw [Zss];rfl
      refine ⟨fL ++ [(x,some e)],jf ++ [x],_,(s7.put fc).put fw,?_,?_,?_,cm7.snoc (sub7 e Fs) kd Jh rY,fun y hy=>?_,fun y hy=>?_,fun y hy=>?_,fun y hy=>ZsG _ (ws7 y hy),?_,by rw [Zsm];omega,fun y hy=>?_,by rw [Zsm,Zsm];simp only [ZsN];omega,rfl⟩
      ·rw [aE ZG,aE Yv];exact hl7
      ·rw [aE Le,bR,Kc]
      ·rw [bR,Zss];rfl
      ·rw [ek];exact ZsG _ (sub7 y hy)
      ·rw [ek] at hy
       rcases Zsq.mp hy with z | z
       ·exact ⟨(bd7 y z).1,(bd7 y z).2.elim .inl fun w=>.inr (ZsG _ w)⟩
       ·rw [Zsl] at z
        subst z
        exact ⟨IA,.inr (by simp)⟩
      ·rw [ek]
       rcases Zsq.mp hy with z | z
       ·exact ZsG _ (wt7 y z)
       ·exact ZsE _ z
      ·rw [Ztl]
       refine ⟨wn7,by simp,fun y hy z hz w=>?_⟩
       rw [Zsl] at hz
       subst hz w
       exact kd (wt7 y hy)
      ·rw [ek]
       rcases VD y hy with z | rfl
       ·exact ZsG _ (nx7 y z)
       ·simp
    ·rintro σ H7 ⟨fL,jf,w9,s7,hl7,h7,hw7,cm7,sub7,bd7,wt7,ws7,wn7,le7,nx7,ln7,rfl⟩
     rw [Zsh,ZsI] at nx7
     have hcl':fL.length<=2 * ls.length:=by
      have:=xm cm7.nd fun y hy=>(bd7 y hy).1
      unfold MZ.keys at this
      rwa [Zsh] at this
     rw [hD]
     refine ⟨fL,jf,_,_,_,_,_,s7,h7,hw7,⟨cm7,wt7,wn7,fun y hy=>(bd7 y hy).1,fun y hy=>?_⟩,by omega,rfl⟩
     ·rcases (bd7 y hy).2 with z | z
      ·rcases sk.done y z with w | ⟨w1,w2⟩
       ·rcases Zsq.mp w with u | u
        ·exact .inl (ws7 y u)
        ·rw [Zsl] at u
         subst u
         exact .inr ⟨rY,fun e' he'=>nx7 e' he'⟩
       ·exact .inr ⟨w1,fun e' he'=>sub7 e' (w2 e' he')⟩
      ·exact .inl z
   walk_at "gs"
   by_cases c:(e:Int)=((2 * (e / 2)+1:Nat):Int)
   ·rw [if_pos c]
    refine ⟨_,_,.inl (.of Lj.lst),hr1,?_⟩
    refine .inl ⟨_,.inl (.of hr2),?_⟩
    rw [Zsh]
    by_cases c0:((aZ ls (e / 2)).length:Int)=0
    ·rw [if_pos c0]
     refine ⟨by show 2<=sizeLine;decide,fun tp H6 n6=>?_⟩
     refine q1 (e / 2) cs tp cp H6 (s5.trans n6.same) fc n6.at_ (n6.same _ _ h5) sk.nC (Ztz.mp (by omega)) (by rw [show 2 * (e / 2)+1=e by omega];exact Fs) (by omega) sk.bd
    ·rw [if_neg c0]
     refine go (fun t ht z=>c0 (by rw [show e / 2=t by omega,z];rfl)) _ ?_
     rfl
   ·rw [if_neg c]
    refine go (fun t ht z=>c (by omega)) _ ?_
    rfl
theorem OX {as:MZ.Cs} (nd:(MZ.keys as).Nodup) {n:Nat} (h:∀ p∈MZ.keys as,p<n):as.length<=n:=by
 have:=xm nd h
 unfold MZ.keys at this
 rwa [Zsh] at this
noncomputable def Rj (_:ZrF):Sp:=fun vs H Q _=>∃ (ap cp:Addr) (lo:Nat->List Nat) (goal:Nat->Prop) (as cs:MZ.Cs) (s n:Nat),vs=[.ref ap,.ref cp,.int s]/\H ap=some (.dK (as.map enc))/\H cp=some (.dK (cs.map enc))/\ap≠cp/\(MZ.keys as).Nodup/\(∀ p∈MZ.keys as,p<n)/\(∀ e∈MZ.keys cs,e<2 * n)/\n<=300/\MZ.Flow lo goal (MZ.aO as)/\MZ.Path lo goal (MZ.aO as) (MZ.aO cs) (MZ.On (MZ.aO cs) (2 * s+1)) s /\
 ∀ jz H',(∀ b o,b≠ap->H b=some o->H' b=some o)->H' ap=some (.dK (jz.map enc))->(MZ.keys jz).Nodup->(∀ p∈MZ.keys jz,p<n)->MZ.aO jz=MZ.lead (MZ.aO as) (MZ.aO cs) (MZ.On (MZ.aO cs) (2 * s+1))->Q .non H'
noncomputable def O4 (K:ZrF):TS:=(aI (bV (cB (so K) [] E0 (ah (aa 2) ar)) (aC 3))
  (BY (bW (ax Cq (aa 3) (tC .non))) (aI (bV (ax (cI hJ fun i j=>.int (i / j)) (aa 3) (tC (.int 2))) (aC 4))
  (aI (bV (lO (aa 1) (aa 3)) (aC 5))
  (oJ (du (bW (ax (jS K) (aa 3) (cB (AR K) [] E0 (ah (aa 4) ar)))) (du (bW (ax xU (aa 5) (tC .non))) (mX (aa 0) (aa 4) (tC .non)) (du (bW (ax (jS K) (aa 5) (cB (so K) [] E0 (ah (aa 4) ar)))) (ix (Nq (aa 0) (aa 4))) (mX (aa 0) (aa 4) (ax (cI hJ fun i j=>.int (i / j)) (aa 5) (tC (.int 2)))))) dQ)
  (bV (aa 5) (aC 3)))))))
theorem Zqe (T:Txt K mg a):TM P w K mg base 1 "lead" GI SW a.lQ (O4 K) :=
 fun hr=>(aK (cA (i:=3) BB.nd rfl (by walk_at "o") (cK T.fb (xO T) (hm hr) bE (ai (cv 2) aw)))
   (aL (Pz PassesOwn.never (cW MD (cv 3) ml (cU _)) (aK (cA (i:=4) BB.nd rfl (by walk_at "o") (aX iC (cv 3) aH))
   (aK (cA (i:=5) BB.nd rfl (by walk_at "o") (nh (eG hr) (cv 1) (cv 3) (fun _ _=>rfl)))
   (U6 (dJ (cW (kr (i4 hr)) (cv 3) (cK T.jh (IW T) (hm hr) bE (ai (cv 4) aw)) (cU _)) (aL (dJ (cW oX (cv 5) ml (cU _)) (aL (pJ (eG hr) (cv 0) (cv 4) ml rfl)) (aL (dJ (cW (kr (i4 hr)) (cv 5) (cK T.fb (xO T) (hm hr) bE (ai (cv 4) aw)) (cU _)) (aL (i0 (ZoT (cv 0) (cv 4) ⟨rfl,rfl,rfl,rfl⟩))) (aL (pJ (eG hr) (cv 0) (cv 4) (aX iC (cv 5) aH) rfl)))))) eE)
   (aL (cA (i:=3) BB.nd rfl (by walk_at "o") (cv 5)))))))))
theorem ZqY (T:Txt K mg a):aG P w K mg base dw 2 a.lQ a.pT ["above","came","spring"] (Rj K):=by
 refine T.oI.n.dO BB (Zqe T) (fun vs H Q E h=>?_) (fun H vs Q E h=>?_)
 ·obtain ⟨ap,cp,lo,goal,as,cs,s,n,rfl,_⟩:=h;rfl
 ·obtain ⟨ap,cp,lo,goal,as,cs,s,n,rfl,hA,hC,Pj,nda,ba,bc,hn,F,P,q⟩:=h
  show O4 K _ [some (.ref ap),some (.ref cp),some (.int s),none,none,none] H
  unfold O4
  have big:(20000:Nat)<=sizeLine:=by decide
  obtain ⟨r,hr⟩:=P.rk
  have onI:∀ {i e},MZ.it (MZ.aO cs) (2 * s+1) i=some e->MZ.On (MZ.aO cs) (2 * s+1) e:=fun {i}=>by
   induction i with
   | zero=>intro e he;cases he;exact .here
   | succ i ih =>
    intro e he
    have he:(MZ.it (MZ.aO cs) (2 * s+1) i).bind (fun e=>(MZ.aO cs e).join)=some e:=he
    cases hj:MZ.it (MZ.aO cs) (2 * s+1) i with
    | none=>rw [hj] at he;cases he
    | some b =>
     rw [hj] at he
     have he:(MZ.aO cs b).join=some e:=he
     refine (ih hj).up ?_
     cases hc:MZ.aO cs b with
     | none=>rw [hc] at he;cases he
     | some o=>rw [hc] at he;rw [show o=some e from he]
  walk_at "gs"
  refine ⟨s,rfl,?_⟩
  refine ⟨fun m σ H2=>∃ (i:Nat) (jz:MZ.Cs) (v4 v5:Option V),(∀ b o,b≠ap->H b=some o->H2 b=some o)/\H2 ap=some (.dK (jz.map enc))/\(MZ.keys jz).Nodup/\(∀ p∈MZ.keys jz,p<n)/\MZ.aO jz=MZ.lead (MZ.aO as) (MZ.aO cs) (MZ.nG (MZ.aO cs) (2 * s+1) i)/\m=(match MZ.it (MZ.aO cs) (2 * s+1) i with | some e=>r e+1 | none=>0)/\σ=[some (.ref ap),some (.ref cp),some (.int s),some (ov (MZ.it (MZ.aO cs) (2 * s+1) i)),v4,v5],⟨_,0,as,_,_,fun _ _ _ e=>e,hA,nda,ba,MZ.YH.symm,rfl,rfl⟩,?_⟩
  rintro m σ H2 ⟨i,jz,v4,v5,s2,h2,nd2,ba2,cm2,rfl,rfl⟩
  cases hi:MZ.it (MZ.aO cs) (2 * s+1) i with
  | none =>
   show _
   walk_at "gs"
   refine q jz H2 s2 h2 nd2 ba2 (cm2.trans (MZ.Xh fun e=>MZ.Zqc hi))
  | some e =>
   have QN:=onI hi
   have sO:=OX nd2 ba2
   show _
   walk_at "gs"
   obtain ⟨f,hf⟩:∃ f,MZ.aO cs e=some f:=by
    rcases P.pred e QN with z | ⟨u,_,z⟩
    ·exact ⟨_,z⟩
    ·exact ⟨_,z⟩
   have Fs:e∈MZ.keys cs:=MZ.qV.mp (by rw [hf];simp)
   have IK:=bc e Fs
   have e2:((e:Int) / 2)=((e / 2:Nat):Int):=by omega
   have Iq:MZ.it (MZ.aO cs) (2 * s+1) (i+1)=f:=by
    show (MZ.it (MZ.aO cs) (2 * s+1) i).bind (fun e=>(MZ.aO cs e).join)=f
    rw [hi]
    show (MZ.aO cs e).join=f
    rw [hf]
    rfl
   have Wg:H2 cp=some (.dK (cs.map enc)):=s2 _ _ Pj.symm hC
   have g1:=eB.k (k:=.inl (e:Int)) Wg
   rw [yF,hf] at g1
   have uo:¬ MZ.nG (MZ.aO cs) (2 * s+1) i e:=fun ⟨j,hj,hj2⟩=>by
    have:=MZ.Ly hr hj hj2 hi
    omega
   refine ⟨fun σ' H'=>∃ (j6:MZ.Cs) (v4 v5:Option V),(∀ b o,b≠ap->H b=some o->H' b=some o)/\H' ap=some (.dK (j6.map enc))/\(MZ.keys j6).Nodup/\(∀ p∈MZ.keys j6,p<n)/\MZ.aO j6=MZ.lead (MZ.aO as) (MZ.aO cs) (MZ.nG (MZ.aO cs) (2 * s+1) (i+1))/\σ'=[some (.ref ap),some (.ref cp),some (.int s),some (ov f),v4,v5],?_,?_⟩
   ·rintro σ' H' ⟨j6,w4,w5,z1,z2,z3,z4,z5,rfl⟩
    refine ⟨_,?_,i+1,j6,w4,w5,z1,z2,z3,z4,z5,rfl,by rw [Iq]⟩
    rw [Iq]
    cases f with
    | none=>exact Nat.succ_pos _
    | some u=>have:=hr e u hf;show r u+1<r e+1;omega
   rw [show ov (some e)=V.int (e:Nat) from rfl]
   walk_at "gs"
   rw [e2]
   refine ⟨cp,_,rfl,g1,?_⟩
   refine mid (fun σ' H'=>∃ j6:MZ.Cs,(∀ b o,b≠ap->H b=some o->H' b=some o)/\H' ap=some (.dK (j6.map enc))/\(MZ.keys j6).Nodup/\(∀ p∈MZ.keys j6,p<n)/\MZ.aO j6=MZ.lead (MZ.aO as) (MZ.aO cs) (MZ.nG (MZ.aO cs) (2 * s+1) (i+1))/\σ'=[some (.ref ap),some (.ref cp),some (.int s),some (.int (e:Nat)),some (.int ((e / 2:Nat):Int)),some (ov f)]) ?_ ?_
   ·intro N hN
    walk_at "gs"
    refine ⟨e / 2,rfl,?_⟩
    unfold nv
    walk_at "gs"
    by_cases c:(e:Int)=((2 * (e / 2):Nat):Int)
    ·rw [if_pos c]
     have ee:2 * (e / 2)=e:=by omega
     have key:∀ j6:MZ.Cs,(MZ.keys j6).Nodup->(∀ p,MZ.aO j6 p=if p=e / 2 then MZ.lead (MZ.aO as) (MZ.aO cs) (MZ.nG (MZ.aO cs) (2 * s+1) (i+1)) (e / 2) else MZ.aO jz p)->∀ H',(∀ b o,b≠ap->H b=some o->H' b=some o)->H' ap=some (.dK (j6.map enc))->N [some (.ref ap),some (.ref cp),some (.int s),some (.int (e:Nat)),some (.int ((e / 2:Nat):Int)),some (ov f)] H':=fun j6 nd3 Ny H' s3 h3=>by
      refine hN _ _ ⟨j6,s3,h3,nd3,fun p hp=>?_,funext fun p=>?_,rfl⟩
      ·by_cases z:p=e / 2
       ·omega
       ·have:=MZ.qV.mpr hp
        rw [Ny,if_neg z] at this
        exact ba2 p (MZ.qV.mp this)
      ·rw [Ny]
       by_cases z:p=e / 2
       ·rw [if_pos z,z]
       ·rw [if_neg z,cm2,MZ.SY hi (by omega)]
     have self:=MZ.ZY hi
     cases f with
     | none =>
      walk_at "gs"
      refine ⟨ap,_,rfl,.k (k:=.inl ((e / 2:Nat):Int)) h2 (by rw [Zsh];omega),?_⟩
      refine key (MZ.oh jz (e / 2) none) (MZ.Bt nd2 _ _) (fun p=>?_) _ (fun b o nb z=>by rw [aE nb];exact s2 b o nb z) ?_
      ·rw [MZ.O2 nd2]
       by_cases z:p=e / 2
       ·rw [if_pos z,if_pos z,MZ.zk (by rw [ee];exact self) (by rw [ee];exact hf)]
       ·rw [if_neg z,if_neg z]
      ·rw [bR]
       exact congrArg (fun z=>some (HO.dK z)) (IB jz (e / 2) none)
     | some u =>
      rw [show ov (some u)=V.int (u:Nat) from rfl] at key ⊢
      walk_at "gs"
      refine ⟨e / 2,rfl,?_⟩
      unfold nv
      walk_at "gs"
      by_cases cu:(u:Int)=((2 * (e / 2)+1:Nat):Int)
      ·rw [if_pos cu]
       have eu:u=2 * (e / 2)+1:=by omega
       walk_at "gs"
       have gK:MZ.aO jz (e / 2)≠none:=by
        rw [cm2,MZ.pd (by rw [ee];exact uo)]
        have hpu:MZ.On (MZ.aO cs) (2 * s+1) (2 * (e / 2)+1):=eu ▸ QN.up hf
        rcases MZ.Hm P hpu with ⟨_,z2,_⟩ | ⟨p',_,_,z⟩
        ·exact (MZ.SA P (p:=e / 2) (by rw [ee,hf,show u=e+1 by omega]) z2).elim
        ·exact (F.up _ _ z).2
       obtain ⟨o,ho⟩:=Option.ne_none_iff_exists'.mp gK
       refine ⟨ap,rfl,.inl ⟨_,.inl h2⟩,?_⟩
       refine ⟨_,.inl ((e / 2:Nat):Int),ov o,h2,rfl,by rw [yF,ho];rfl,?_⟩
       refine key (MZ.Ah jz (e / 2)) (MZ.TJ nd2 _) (fun p=>?_) _ (fun b o nb z=>by rw [aE nb];exact s2 b o nb z) ?_
       ·rw [MZ.Xo nd2]
        by_cases z:p=e / 2
        ·rw [if_pos z,if_pos z,MZ.Fv (by rw [ee];exact self) (by rw [ee,hf,show u=e+1 by omega])]
        ·rw [if_neg z,if_neg z]
       ·rw [bR,Zpp]
      ·rw [if_neg cu]
       have eu2:((u:Int) / 2)=((u / 2:Nat):Int):=by omega
       walk_at "gs"
       rw [eu2]
       refine ⟨ap,_,rfl,.k (k:=.inl ((e / 2:Nat):Int)) h2 (by rw [Zsh];omega),?_⟩
       refine key (MZ.oh jz (e / 2) (some (u / 2))) (MZ.Bt nd2 _ _) (fun p=>?_) _ (fun b o nb z=>by rw [aE nb];exact s2 b o nb z) ?_
       ·rw [MZ.O2 nd2]
        by_cases z:p=e / 2
        ·rw [if_pos z,if_pos z,MZ.rf (u:=u) (by rw [ee];exact self) (by rw [ee];exact hf) (by omega)]
        ·rw [if_neg z,if_neg z]
       ·rw [bR]
        exact congrArg (fun z=>some (HO.dK z)) (IB jz (e / 2) (some (u / 2)))
    ·rw [if_neg c]
     refine hN _ _ ⟨jz,s2,h2,nd2,ba2,?_,rfl⟩
     rw [cm2]
     funext p
     exact (MZ.SY hi (by omega)).symm
   ·rintro σ' H' ⟨j6,z1,z2,z3,z4,z5,rfl⟩
    walk_at "gs"
    exact ⟨j6,_,_,z1,z2,z3,z4,z5,rfl⟩
structure kS (ab:MZ.Ab) (s:Nat) (w:List Nat):Prop where
 hd:∃ r,w=s :: r
 st:∀ (i a b:Nat),w[i]? = some a->w[i+1]? = some b->ab a=some (some b)
 tp:∃ v x,w=v ++ [x]/\ab x=some none
theorem LZ {v:List Nat}{x:Nat}:jm ((v ++ [x]).map nv) (-1)=some (nv x):=by
 rw [Zss]
 unfold jm qc
 simp
 rw [if_pos (by omega),show (-1+((v.length:Int)+1)).toNat=v.length by omega]
 simp
noncomputable def SN (_:ZrF):Sp:=fun vs H Q _=>∃ (ap:Addr) (lo:Nat->List Nat) (goal:Nat->Prop) (as:MZ.Cs) (s n:Nat),vs=[.ref ap,.int s]/\H ap=some (.dK (as.map enc))/\(∀ p∈MZ.keys as,p<n)/\n<=300/\MZ.Flow lo goal (MZ.aO as)/\(∀ p l,l∈lo p->l<p)/\MZ.aO as s≠none /\
 ∀ l w H',nS H l (.lst (w.map nv)) H'->kS (MZ.aO as) s w->Q (.ref l) H'
noncomputable def Ma (K:ZrF):TS:=(aI (bV (jo (ah (aa 1) ar)) (aC 2))
  (aI (BY (bW (ax Cq (lO (aa 0) (ax (eL K) (aa 2) (vT xu (tC (.int 1))))) (tC .non))) (ix (pG K "list" qm (aa 2) (ah (lO (aa 0) (ax (eL K) (aa 2) (vT xu (tC (.int 1))))) ar))))
  (cz (aa 2))))
theorem Wq (T:Txt K mg a):TM P w K mg base 0 "way_from" Eg Rv a.gk (Ma K) :=
 fun hr=>(aK (cA (i:=2) RO.nd rfl (by walk_at "o") (kC (ai (cv 1) aw)))
   (aK (Pz PassesOwn.never (cW MD (nh (eG hr) (cv 0) (fB fC (cv 2) (Ft AU aH) (fun _ _=>rfl)) (fun _ _=>rfl)) ml (cU _)) (aL (i0 (tE Zr7 Zr9 Zsa (o6 rH) (cv 2) (ai (nh (eG hr) (cv 0) (fB fC (cv 2) (Ft AU aH) (fun _ _=>rfl)) (fun _ _=>rfl)) aw)))))
   (aL (cC (cv 2)))))
theorem Zk (T:Txt K mg a):aG P w K mg base dw 1 a.gk a.je ["above","spring"] (SN K):=by
 refine T.i9.n.dO RO (Wq T) (fun vs H Q E h=>?_) (fun H vs Q E h=>?_)
 ·obtain ⟨ap,lo,goal,as,s,n,rfl,_⟩:=h;rfl
 ·obtain ⟨ap,lo,goal,as,s,n,rfl,hA,ba,hn,F,bw,hs,q⟩:=h
  show Ma K _ [some (.ref ap),some (.int s),none] H
  unfold Ma
  have big:(20000:Nat)<=sizeLine:=by decide
  walk_at "gs"
  refine ⟨by show 1<=sizeLine;decide,fun l H1 n1=>?_⟩
  walk_at "gs"
  refine ⟨fun m σ H2=>∃ (v:List Nat) (x:Nat),aQ H H2/\H2 l=some (.lst ((v ++ [x]).map nv))/\(∃ r,v ++ [x]=s :: r)/\(∀ (i a b:Nat),(v ++ [x])[i]? = some a->(v ++ [x])[i+1]? = some b->MZ.aO as a=some (some b))/\MZ.aO as x≠none/\v.length<=x/\m=n - x/\σ=[some (.ref ap),some (.int s),some (.ref l)],⟨_,[],s,n1.same,n1.at_,⟨[],rfl⟩,fun i a b h1 h2=>by simp at h2,hs,ZtN _,rfl,rfl⟩,?_⟩
  rintro m σ H2 ⟨v,x,s2,h2,hd2,st2,rn,iE,rfl,rfl⟩
  have IA:=ba x (MZ.qV.mp rn)
  obtain ⟨o,ho⟩:=Option.ne_none_iff_exists'.mp rn
  have g1:=eB.k (k:=.inl (x:Int)) (s2 _ _ hA)
  rw [yF,ho] at g1
  walk_at "gs"
  refine ⟨_,_,.inl (.of h2),LZ,?_⟩
  refine ⟨ap,_,rfl,g1,?_⟩
  cases o with
  | none =>
   show _
   walk_at "gs"
   exact q l (v ++ [x]) H2 ⟨n1.aD,h2,s2⟩ ⟨hd2,st2,v,x,rfl,ho⟩
  | some y =>
   have hxy:=bw _ _ (F.up _ _ ho).1
   have g1:eB H2 ap (kV (.inl (x:Int))) (some (V.int (y:Nat))):=g1
   rw [if_pos (fun z=>nomatch z)]
   refine ⟨fun σ' H'=>∃ H3,H3=upd H2 l (.lst ((v ++ [x]).map nv ++ [nv y]))/\H'=H3/\σ'=[some (.ref ap),some (.int s),some (.ref l)],?_,?_⟩
   ·rintro σ' H' ⟨H3,rfl,rfl,rfl⟩
    refine ⟨n - y,by omega,v ++ [x],y,s2.put n1.aD,by rw [bR,Zss (l₁:=v ++ [x])];rfl,?_,fun i a b h1 h2=>?_,(F.up _ _ ho).2,by rw [Zsm];simp;omega,rfl,rfl⟩
    ·obtain ⟨r,hr⟩:=hd2
     exact ⟨r ++ [y],by rw [hr];rfl⟩
    ·rcases ZtO (i+1) (v ++ [x]).length with g | g
     ·rw [ZsA (by omega)] at h1
      rw [ZsA g] at h2
      exact st2 i a b h1 h2
     ·have Tw:i+1<(v ++ [x] ++ [y]).length:=(Zsk.mp h2).1
      rw [Zsm] at Tw
      simp only [ZsN] at Tw
      have hi:i+1=(v ++ [x]).length:=by omega
      rw [hi,ZsC (ZtJ _),ZtQ] at h2
      rw [ZsA (by omega),show i=v.length by rw [Zsm] at hi;simp at hi;omega,ZsC (ZtJ _),ZtQ] at h1
      cases h1
      cases h2
      exact ho
   ·refine ⟨.inl ⟨by trivial,_,.of h2⟩,?_⟩
    refine ⟨_,_,.inl (.of h2),LZ,?_⟩
    refine ⟨ap,_,rfl,g1,?_⟩
    refine ⟨l,_,_,rfl,rfl,h2,by rw [Zsh,Zsm];simp;omega,?_⟩
    exact ⟨_,rfl,rfl,rfl⟩
noncomputable def cX (xs:List Nat):List Int:=xs.map fun x:Nat=>(x:Int)
theorem zY (xs:List Nat):(cX xs).map V.int=xs.map nv:=by unfold cX;rw [Zso];rfl
theorem R6 (cs:MZ.Cs):(cs.map enc).map (·.1)=(cX (MZ.keys cs)).map Sum.inl:=by unfold cX MZ.keys;rw [Zso,Zso,Zso];rfl
theorem Vf {iN:List Int}{ks:List Nat} (hp:iN.Perm (cX ks)) (hs:iN.Pairwise (· <= ·)) (nd:ks.Nodup):∃ xs:List Nat,iN=cX xs/\xs.Perm ks/\xs.Pairwise (· < ·):=by
 have h1:iN=cX (iN.map Zuc):=by
  unfold cX
  rw [Zso]
  refine (Zs5 _).symm.trans (ZsW fun x hx=>?_)
  obtain ⟨k,_,rfl⟩:=Zsi.mp (hp.mem_iff.mp hx)
  rfl
 have h2:(iN.map Zuc).Perm ks:=by
  have:=hp.map Zuc
  unfold cX at this
  rw [Zso] at this
  have e:ks.map (Zuc ∘ fun x:Nat=>(x:Int))=ks:=by
   refine (ZsW fun x _=>?_).trans (Zs5 _)
   rfl
  rwa [e] at this
 refine ⟨_,h1,h2,?_⟩
 have hle:(iN.map Zuc).Pairwise (· <= ·):=by
  rw [Ztq]
  exact hs.imp fun h=>by omega
 exact Ztw.imp₂ (fun a b g1 g2=>by omega) hle (h2.nodup_iff.mpr nd)
noncomputable def Qt (_:ZrF):Sp:=fun vs H Q _=>∃ (cp:Addr) (cs:MZ.Cs),vs=[.ref cp]/\H cp=some (.dK (cs.map enc))/\(MZ.keys cs).Nodup/\cs.length<64 /\
 ∀ l (es:List Nat) H',nS H l (.lst ((es.map fun e:Nat=>e / 2).map nv)) H'->es.Pairwise (· < ·)->(∀ e,e∈es ↔ e∈MZ.keys cs/\2 * (e / 2)+1 ∉ MZ.keys cs)->Q (.ref l) H'
noncomputable def NR (K:ZrF):TS:=(cz (eN (eU K (cH (Hz K) (ah (aa 0) ar))) 1 [0] (aC 0) (bW (oM (cB (so K) [] E0 (ah (ax (cI hJ fun i j=>.int (i / j)) (aa 0) (tC (.int 2))) ar)) (aa 1))) (ax (cI hJ fun i j=>.int (i / j)) (aa 0) (tC (.int 2)))))
theorem Zkq (T:Txt K mg a):TM P w K mg base 1 "stops_of" Ao Ke a.gm (NR K) :=
 fun hr=>(aL (cC (jl (N:=["end","came"]) (k:=1) (sel:=[0]) (az.of (aW Ao).names (by decide +kernel)) (aF.of Ke (by decide +kernel)) rfl (gw (eV (Uj rfl) (by rfl) T.jQ PyProof.Rows.boot_sorted (ai (cv 0) aw))) (fun _ _ _ _=>(cj (i:=0) (show Zsv (["end","came"]:List Str) by decide +kernel) rfl (by walk_at "o"))) (fun _ _ _ _=>(Ap (rA (su (eG hr) (cK T.fb (xO T) (hm hr) bE (ai (aX iC (cv 0) aH) aw)) (cv 1))))) (fun _ _ _ _=>(aX iC (cv 0) aH)))))
theorem ZkF (T:Txt K mg a):aG P w K mg base dw 2 a.gm a.iR ["came"] (Qt K):=by
 refine T.iZ.n.dO WI (Zkq T) (fun vs H Q E h=>?_) (fun H vs Q E h=>?_)
 ·obtain ⟨cp,cs,rfl,_⟩:=h;rfl
 ·obtain ⟨cp,cs,rfl,hC,nd,Jk,q⟩:=h
  show NR K _ [some (.ref cp)] H
  unfold NR
  have big:(20000:Nat)<=sizeLine:=by decide
  have B0:(MZ.keys cs).length=cs.length:=by unfold MZ.keys;rw [Zsh]
  walk_at "gs"
  refine ⟨_,cX (MZ.keys cs),.inl hC,R6 cs,by unfold cX;rw [Zsh];omega,fun iN l H1 hp hs n1=>?_⟩
  obtain ⟨xs,rfl,hxp,hxs⟩:=Vf hp hs nd
  rw [zY] at n1
  have Uz:xs.length<64:=by rw [hxp.length_eq];omega
  refine ⟨⟨_,n1.sq⟩,Hd (fun v=>match v with | .int e=>decide (2 * (e.toNat / 2)+1 ∉ MZ.keys cs) | _=>false) (fun v=>match v with | .int e=>nv (e.toNat / 2) | _=>.non) n1.sq rfl (by rw [Zsh];omega) ?_ ?_ ?_⟩
  ·intro v H' Q' hv s' q'
   obtain ⟨e,he,rfl⟩:=Zsi.mp hv
   have e2:((e:Int) / 2)=((e / 2:Nat):Int):=by omega
   have g1:=eB.k (k:=.inl ((2 * (e / 2)+1:Nat):Int)) (s' _ _ (n1.same _ _ hC))
   rw [yF] at g1
   unfold nv
   walk_at "gs"
   rw [e2]
   refine ⟨e / 2,rfl,?_⟩
   refine ⟨cp,_,rfl,g1,?_⟩
   have q':Q' (decide (2 * (e / 2)+1 ∉ MZ.keys cs)) H':=q'
   have:(!((MZ.aO cs (2 * (e / 2)+1)).map ov).isSome)=decide (2 * (e / 2)+1 ∉ MZ.keys cs):=by
    cases hc:MZ.aO cs (2 * (e / 2)+1) with
    | none=>rw [decide_eq_true (MZ.AE.mp hc)];rfl
    | some f=>rw [decide_eq_false (fun z=>z (MZ.qV.mp (by rw [hc];simp)))];rfl
   rw [this]
   exact q'
  ·intro v H' Q' hv _ s' q'
   obtain ⟨e,he,rfl⟩:=Zsi.mp hv
   have e2:((e:Int) / 2)=((e / 2:Nat):Int):=by omega
   unfold nv
   walk_at "gs"
   rw [e2]
   exact q'
  intro l2 H2 n2
  have e3:(((xs.map nv).filter fun v=>match v with | .int e=>decide (2 * (e.toNat / 2)+1 ∉ MZ.keys cs) | _=>false).map fun v=>match v with | .int e=>nv (e.toNat / 2) | _=>.non)=((xs.filter fun e=>decide (2 * (e / 2)+1 ∉ MZ.keys cs)).map fun e:Nat=>e / 2).map nv:=by
   rw [Ztd,Zso,Zso]
   rfl
  rw [e3] at n2
  refine q l2 _ H2 ⟨n1.same.nil n2.aD,n2.at_,n1.same.trans n2.same⟩ (hxs.filter _) fun e=>?_
  rw [ZsS,hxp.mem_iff,decide_eq_true_iff]
structure dE (H:Hp) (l:Addr) (rs:List Addr) (ws:List (List Nat)):Prop where
 lst:H l=some (.lst (rs.map V.ref))
 len:rs.length=ws.length
 at_:∀ (i:Nat) r w,rs[i]? = some r->ws[i]? = some w->H r=some (.lst (w.map nv))
noncomputable def JC (_:ZrF):Sp:=fun vs H Q _=>∃ (mp ap:Addr) (rs:List Addr) (ls:List (List Nat)) (goal:Nat->Prop) (as:MZ.Cs),vs=[.ref mp,.ref ap]/\bz H mp rs ls/\H ap=some (.dK (as.map enc))/\(MZ.keys as).Nodup/\as.length<64/\(∀ p∈MZ.keys as,p<ls.length)/\ls.length<=300/\MZ.Flow (aZ ls) goal (MZ.aO as)/\Mz ls /\
 ∀ l us (ss:List Nat) ws H',aQ H H'->H l=none->dE H' l us ws->(∀ u∈us,H u=none/\u≠l)->ss.Pairwise (· < ·)->(∀ t,t∈ss ↔ aZ ls t=[]/\MZ.aO as t≠none)->ws.length=ss.length->(∀ (i:Nat) t w,ss[i]? = some t->ws[i]? = some w->kS (MZ.aO as) t w)->Q (.ref l) H'
noncomputable def Jq (K:ZrF):TS:=(aI (bV (eN (eU K (cH (Hz K) (ah (aa 1) ar))) 1 [0] (aC 0) (bW (ax (jS K) (cH (lj K) (ah (ax (eL K) (aa 1) (aa 0)) ar)) (tC (.int 0)))) (aa 0)) (aC 2))
  (cz (eN (eU K (aa 2)) 1 [1] (aC 0) gr (cB (SN K) [] E0 (ah (aa 1) (ah (aa 0) ar))))))
theorem Wl (T:Txt K mg a):TM P w K mg base 1 "ways_of" uh HG a.g7 (Jq K) :=
 fun hr=>(aK (A6 (i:=2) (N:=["place","maze"]) (k:=1) (sel:=[0]) (az.of (aW uh).names (by decide +kernel)) (aF.of HG (by decide +kernel)) rfl (gw (eV (Uj rfl) (by rfl) T.jQ PyProof.Rows.boot_sorted (ai (cv 1) aw))) (fun _ _ _ _=>(cj (i:=0) (show Zsv (["place","maze"]:List Str) by decide +kernel) rfl (by walk_at "o"))) (fun _ _ _ _=>(Ap (cW (kr (i4 hr)) (eV lU (by rfl) T.cc PySem.boot_len (ai (fB fC (cv 1) (cv 0) (fun _ _=>rfl)) aw)) aH (cU _)))) (fun _ _ _ _=>(cv 0)) Vv.nd rfl (by walk_at "o") rfl)
   (aL (cC (jl (N:=["spring","above"]) (k:=1) (sel:=[1]) (az.of (aW uh).names (by decide +kernel)) (aF.of HG (by decide +kernel)) rfl (gw (cv 2)) (fun _ _ _ _=>(cj (i:=0) (show Zsv (["spring","above"]:List Str) by decide +kernel) rfl (by walk_at "o"))) (fun _ _ _ _=>jq) (fun _ _ _ _=>(cK T.i9 (Zk T) (hm hr) bE (ai (cv 1) (ai (cv 0) aw))))))))
theorem T6 (T:Txt K mg a):aG P w K mg base dw 2 a.g7 a.jO ["maze","above"] (JC K):=by
 refine T.gU.n.dO Vv (Wl T) (fun vs H Q E h=>?_) (fun H vs Q E h=>?_)
 ·obtain ⟨mp,ap,rs,ls,goal,as,rfl,_⟩:=h;rfl
 ·obtain ⟨mp,ap,rs,ls,goal,as,rfl,hM,hA,nd,Jk,ba,hn,F,mz,q⟩:=h
  show Jq K _ [some (.ref mp),some (.ref ap),none] H
  unfold Jq
  have big:(20000:Nat)<=sizeLine:=by decide
  have B0:(MZ.keys as).length=as.length:=by unfold MZ.keys;rw [Zsh]
  walk_at "gs"
  refine ⟨_,cX (MZ.keys as),.inl hA,R6 as,by unfold cX;rw [Zsh];omega,fun iN l1 H1 hp hs n1=>?_⟩
  obtain ⟨xs,rfl,hxp,hxs⟩:=Vf hp hs nd
  rw [zY] at n1
  have Uz:xs.length<64:=by rw [hxp.length_eq];omega
  refine ⟨⟨_,n1.sq⟩,Hd (fun v=>match v with | .int e=>decide ((aZ ls e.toNat).length=0) | _=>false) id n1.sq rfl (by rw [Zsh];omega) ?_ ?_ ?_⟩
  ·intro v H' Q' hv s' q'
   obtain ⟨e,he,rfl⟩:=Zsi.mp hv
   have IK:=ba e (hxp.mem_iff.mp he)
   obtain ⟨r,h1,h2⟩:=(hM.same (n1.same.trans s')).get IK
   unfold nv
   walk_at "gs"
   refine ⟨_,_,.inl (.of (s' _ _ (n1.same _ _ hM.lst))),h1,?_⟩
   refine .inl ⟨_,.inl (.of h2),?_⟩
   rw [Zsh]
   walk_at "gs"
   have q':Q' (decide ((aZ ls e).length=0)) H':=q'
   rw [show decide (((aZ ls e).length:Int)=0)=decide ((aZ ls e).length=0) by rw [decide_eq_decide];omega]
   exact q'
  ·intro v H' Q' hv _ s' q'
   walk_at "gs"
   exact q'
  intro l2 H2 n2
  have e3:(((xs.map nv).filter fun v=>match v with | .int e=>decide ((aZ ls e.toNat).length=0) | _=>false).map id)=(xs.filter fun e=>decide ((aZ ls e).length=0)).map nv:=by
   rw [Zs5,Ztd]
   rfl
  rw [e3] at n2
  have jV:=n1.same.trans n2.same
  obtain ⟨ss,hss⟩:∃ ss,ss=xs.filter fun e=>decide ((aZ ls e).length=0):=⟨_,rfl⟩
  rw [<- hss] at n2
  have zI:∀ t,t∈ss ↔ aZ ls t=[]/\MZ.aO as t≠none:=fun t=>by
   rw [hss,ZsS,hxp.mem_iff,<- MZ.qV,decide_eq_true_iff,Ztz,and_comm]
  have E7:ss.length<64:=by rw [hss];exact Nat.lt_of_le_of_lt (Zs2 ..) Uz
  walk_at "gs"
  refine ⟨⟨_,n2.sq⟩,fun cp hcp=>G6 (n:=(ss.map nv).length) (item:=fun i=>(ss.map nv).getD i .non) (fun σ=>∃ v0,σ=[v0,some (.ref ap)]) (fun i H3=>aQ H2 H3/\∃ (us:List Addr) (ws:List (List Nat)),H3 cp=some (.lst (us.map V.ref))/\us.length=i/\ws.length=i/\(∀ u∈us,H2 u=none/\u≠cp)/\(∀ (j:Nat) u w,us[j]? = some u->ws[j]? = some w->H3 u=some (.lst (w.map nv)))/\∀ (j:Nat) t w,ss[j]? = some t->ws[j]? = some w->kS (MZ.aO as) t w) ⟨_,rfl⟩ ⟨iy hcp,[],[],bR,rfl,rfl,fun u hu=>by simp at hu,fun j u w hu=>by simp at hu,fun j t w _ hw=>by simp at hw⟩ (Aq (xs:=ss.map nv) ?_) ?_ ?_ ?_⟩
  ·rintro i H3 _ ⟨s3,_⟩
   exact .of (s3 _ _ n2.at_)
  ·rintro H3 ⟨s3,_⟩
   exact ⟨_,.of (s3 _ _ n2.at_),ZtJ _⟩
  ·rintro i σ3 H3 R hi ⟨v0,rfl⟩ ⟨s3,us,ws,h3,hul,o9,hun,hat,hway⟩ hR
   rw [Zsh] at hi
   have Vs:ss[i]? = some ss[i]:=Zsn hi
   have r6:=(zI _).mp (ZsV hi)
   rw [show (ss.map nv).getD i .non=nv ss[i] by rw [Zsy,Zsu,Vs];rfl]
   generalize ss[i]=t at *
   unfold nv
   walk_at "gs"
   refine ⟨ap,aZ ls,goal,as,t,ls.length,rfl,s3 _ _ (jV _ _ hA),ba,hn,F,mz.lt,r6.2,fun l4 w H4 md hw=>?_⟩
   obtain ⟨f4,h4,s4⟩:=md
   have xi:l4≠cp:=(cn h3 f4).symm
   refine ⟨_,s4 _ _ h3,by rw [Zsh];omega,hR _ _ ⟨_,rfl⟩ ⟨(s3.trans s4).put hcp,us ++ [l4],ws ++ [w],by rw [bR,Zss];rfl,by rw [Zsm,hul];rfl,by rw [Zsm,o9];rfl,fun u hu=>?_,fun j u w' hu hw'=>?_,fun j t' w' oA hw'=>?_⟩⟩
   ·rcases Zsq.mp hu with z | z
    ·exact hun u z
    ·rw [Zsl] at z
     subst z
     exact ⟨s3.nil f4,xi⟩
   ·by_cases mf:j<i
    ·rw [ZsA (by omega)] at hu hw'
     rw [aE (hun u (Zsz hu)).2]
     exact s4 _ _ (hat j u w' hu hw')
    ·have nV:j<us.length+1:=by have:=(Zsk.mp hu).1;rwa [Zsm] at this
     have hj:j=us.length:=by omega
     subst hj
     rw [ZsC (ZtJ _),ZtQ] at hu
     rw [show us.length=ws.length by omega,ZsC (ZtJ _),ZtQ] at hw'
     cases hu
     cases hw'
     rw [aE xi]
     exact h4
   ·by_cases mf:j<i
    ·rw [ZsA (by omega)] at hw'
     exact hway j t' w' oA hw'
    ·have nV:j<ws.length+1:=by have:=(Zsk.mp hw').1;rwa [Zsm] at this
     have hj:j=i:=by omega
     subst hj
     rw [Vs] at oA
     rw [<- o9,ZsC (ZtJ _),ZtQ] at hw'
     cases oA
     cases hw'
     exact hw
  rintro H3 ⟨s3,us,ws,h3,hul,o9,hun,hat,hway⟩
  rw [Zsh] at hul o9
  exact q cp us ss ws H3 (jV.trans s3) (jV.nil hcp) ⟨h3,by omega,hat⟩ (fun u hu=>⟨jV.nil (hun u hu).1,(hun u hu).2⟩) (by rw [hss];exact hxs.filter _) zI o9 hway
noncomputable def NW (ls:List (List Nat)) (as:MZ.Cs) (i:Nat):Prop:=∃ A:List Nat,A.Nodup/\(∀ t,t∈A ↔ aZ ls t=[]/\MZ.aO as t≠none)/\A.length=i
theorem NW.eq {ls:List (List Nat)}{as:MZ.Cs}{i:Nat} (h:NW ls as i) {B:List Nat} (nB:B.Nodup) (hB:∀ t,t∈B ↔ aZ ls t=[]/\MZ.aO as t≠none):B.length=i:=by
 obtain ⟨A,nA,hA,rfl⟩:=h
 exact Zt4 (MZ.sZ (R:=fun a b:Nat=>a=b) (fun a a' b h h'=>h.trans h'.symm) nB fun b hb=>⟨b,(hA b).mpr ((hB b).mp hb),rfl⟩) (MZ.sZ (R:=fun a b:Nat=>a=b) (fun a a' b h h'=>h.trans h'.symm) nA fun b hb=>⟨b,(hB b).mpr ((hA b).mp hb),rfl⟩)
theorem HU {xs:List Nat} (h:xs.Pairwise (· < ·)):xs.Nodup:=h.imp fun h=>ZtK h
theorem Zq3 {ls:List (List Nat)} (mz:Mz ls):aZ ls 0=[]:=by
 cases h:aZ ls 0 with
 | nil=>rfl
 | cons x r=>have:=mz.lt 0 x (by rw [h];exact ZsJ ..);omega
theorem Rg {ls:List (List Nat)}{gs:List Nat}{as cs:MZ.Cs} (h:jB ls gs as cs []):MZ.kh (aZ ls) (nI gs) (MZ.aO as) (fun e=>e∈MZ.keys cs):=by
 refine ⟨fun g l hg hl=>Zsi.mpr ⟨_,h.nC.all g l hg hl,rfl⟩,fun e e' he hn=>?_,fun t ht=>?_⟩
 ·rcases h.done e he with z | z
  ·simp at z
  ·exact z.2 e' hn
 ·rcases h.done _ ht with z | z
  ·simp at z
  ·exact z.1 t rfl
theorem Zqv {ls:List (List Nat)}{gs:List Nat}{as cs:MZ.Cs} (mz:Mz ls) (h:jB ls gs as cs []) (hn:ls.length<=32):cs.length<64:=by
 have h1:1 ∉ MZ.keys cs:=fun z=>(Rg h).oF 0 z (Zq3 mz)
 have:=MZ.sZ (R:=fun a b:Nat=>a=b) (fun a a' b h h'=>h.trans h'.symm) (A:=MZ.keys cs) (B:=(Zsj 64).erase 1) h.nC.nd fun e he=>⟨e,(List.mem_erase_of_ne (fun z=>h1 (by rw [<- z];exact he))).mpr (ZsL.mpr (by have:=h.bd e he;omega)),rfl⟩
 rw [ZtG (by decide),ZsF] at this
 unfold MZ.keys at this
 rw [Zsh] at this
 omega
structure Told (ls:List (List Nat)) (gs:List Nat) (most:Nat) (H:Hp) (wl:Addr) (v:V) (us:List Addr) (ss:List Nat) (ws:List (List Nat)) (as:MZ.Cs):Prop where
 fN:dE H wl us ws
 qS:MZ.Flow (aZ ls) (nI gs) (MZ.aO as)
 bd:∀ p∈MZ.keys as,p<ls.length
 jD:ss.Pairwise (· < ·)
 mem:∀ t,t∈ss ↔ aZ ls t=[]/\MZ.aO as t≠none
 len:ws.length=ss.length
 way:∀ (i:Nat) t w,ss[i]? = some t->ws[i]? = some w->kS (MZ.aO as) t w
 rest:(v=.non/\ss.length=most+1)\/∃ (sl:Addr) (es:List Nat) (cs:MZ.Cs),v=.ref sl/\H sl=some (.lst ((es.map fun e:Nat=>e / 2).map nv))/\sl≠wl/\sl ∉ us/\jB ls gs as cs []/\es.Pairwise (· < ·)/\(∀ e,e∈es ↔ e∈MZ.keys cs/\2 * (e / 2)+1 ∉ MZ.keys cs)/\ss.length<=most
noncomputable def VH (a:bZ) (_:ZrF):Sp:=fun vs H Q E=>∃ (mp gp:Addr) (rs:List Addr) (ls:List (List Nat)) (gi:List Int) (most:Nat),vs=[.ref mp,.ref gp,.int most]/\bz H mp rs ls/\H gp=some (.lst (gi.map V.int))/\Mz ls/\ls.length<=32/\most<=10 /\
 (∀ gs tp wl v us ss ws as H',gi=cX gs->AG ls gi->aQ H H'->H tp=none->H wl=none->(∀ u∈us,H u=none)->(∀ b,v=.ref b->H b=none)->H' tp=some (.tup [.ref wl,v])->Told ls gs most H' wl v us ss ws as->Q (.ref tp) H')/\(¬ AG ls gi->∀ e,H e=none->E (.ref e) (some a.dR) H)
noncomputable def Nf (a:bZ) (K:ZrF) (E:XK):TS:=(aI (ix (cB (VA a K) [] E (ah (aa 0) (ah (aa 1) ar))))
  (aI (bV rC (aC 3))
  (aI (fP (om (ah (ax iJ (aa 2) (tC (.int 1))) ar)) (aC 4) (aI (bV (cB (RP K) [] E0 (ah (aa 0) (ah (aa 1) (ah (aa 3) ar)))) (aC 5))
  (aI (du (bW (ax xU (ax (eL K) (aa 5) (tC (.int 0))) (tC .non))) (cz (kq (ah (cB (JC K) [] E0 (ah (aa 0) (ah (aa 3) ar))) (ah (cB (Qt K) [] E0 (ah (ax (eL K) (aa 5) (tC (.int 1))) ar)) ar)))) dQ)
  (ix (cB (Rj K) [] E0 (ah (aa 3) (ah (ax (eL K) (aa 5) (tC (.int 1))) (ah (ax (eL K) (aa 5) (tC (.int 0))) ar))))))))
  (cz (kq (ah (cB (JC K) [] E0 (ah (aa 0) (ah (aa 3) ar))) (ah (tC .non) ar)))))))
theorem ZoE (T:Txt K mg a):TX P w K mg base 3 "apart" CN QM a.j3 (Nf a K) :=
 fun hr=>(aK (i0 (JL (ZiK T) (hm hr) rfl T.cZ.m T.cZ.n.kp T.cZ.b .nil (K1 pA) (ai (cv 0) (ai (cv 1) aw))))
   (aK (cA (i:=3) Ig.nd rfl (by walk_at "o") zZ)
   (aK (PS.qA (jn PassesOwn.never rfl (uC rfl T.bu (ai (aX jr (cv 2) aH) aw)) (cj (i:=4) Ig.nd rfl (by walk_at "o")) (aK (cA (i:=5) Ig.nd rfl (by walk_at "o") (cK T.kW (X7 T) (hm hr) bE (ai (cv 0) (ai (cv 1) (ai (cv 3) aw)))))
   (aK (dJ (cW oX (fB fC (cv 5) aH (fun _ _=>rfl)) ml (cU _)) (aL (cC (mF (ai (cK T.gU (T6 T) (hm hr) bE (ai (cv 0) (ai (cv 3) aw))) (ai (cK T.iZ (ZkF T) (hm hr) bE (ai (fB fC (cv 5) aH (fun _ _=>rfl)) aw)) aw))))) eE)
   (aL (i0 (cK T.oI (ZqY T) (hm hr) bE (ai (cv 3) (ai (fB fC (cv 5) aH (fun _ _=>rfl)) (ai (fB fC (cv 5) aH (fun _ _=>rfl)) aw))))))))))
   (aL (cC (mF (ai (cK T.gU (T6 T) (hm hr) bE (ai (cv 0) (ai (cv 3) aw))) (ai ml aw))))))))
theorem ZoX (T:Txt K mg a):aG P w K mg base (gZ P w) 4 a.j3 a.m4 ["maze","goals","most"] (VH a K):=by
 refine T.mG.n.iO Ig (ZoE T) (fun vs H Q E h=>?_) (fun H vs Q E h=>?_)
 ·obtain ⟨mp,gp,rs,ls,gi,most,rfl,_⟩:=h;rfl
 ·obtain ⟨mp,gp,rs,ls,gi,most,rfl,hM,hG,mz,hn,hmo,q1,q0⟩:=h
  show Nf a K E _ [some (.ref mp),some (.ref gp),some (.int most),none,none,none] H
  unfold Nf
  have big:(20000:Nat)<=sizeLine:=by decide
  walk_at "gs"
  refine ⟨mp,gp,rs,ls,gi,rfl,hM,hG,fun aB=>?_,q0⟩
  obtain ⟨gs,hgs⟩:∃ gs,gi=cX gs:=⟨gi.map Zuc,by
   unfold cX
   rw [Zso]
   refine (Zs5 _).symm.trans (ZsW fun x hx=>?_)
   have:=(aB x hx).1
   show x=((x.toNat:Nat):Int)
   omega⟩
  have hG':=hG
  rw [hgs,zY] at hG'
  have Tp:∀ g∈gs,g<ls.length/\aZ ls g≠[]:=fun g hg=>by
   obtain ⟨_,h2,h3⟩:=aB (g:Int) (by rw [hgs];exact Zsi.mpr ⟨g,hg,rfl⟩)
   rw [Zua] at h3
   exact ⟨by omega,h3⟩
  walk_at "gs"
  intro ap H1 n1
  have fa:H ap=none:=n1.aD
  have F7:MZ.Flow (aZ ls) (nI gs) (MZ.aO []):=⟨fun p q h=>(nomatch h),fun p h=>(nomatch h),fun p p' q h=>(nomatch h),fun p h=>absurd rfl h,fun p h=>absurd rfl h⟩
  walk_at "gs"
  rw [show ((most:Int)+1).toNat=most+1 by omega]
  refine tS (fun i σ H2=>aQ H H2/\∃ (as:MZ.Cs) (v4 v5:Option V),H2 ap=some (.dK (as.map enc))/\(MZ.keys as).Nodup/\(∀ p∈MZ.keys as,p<ls.length)/\MZ.Flow (aZ ls) (nI gs) (MZ.aO as)/\NW ls as i/\σ=[some (.ref mp),some (.ref gp),some (.int most),some (.ref ap),v4,v5]) ⟨n1.same,[],_,_,n1.at_,Zs8,fun p hp=>by simp [MZ.keys] at hp,F7,⟨[],Zs8,fun t=>⟨fun z=>by simp at z,fun z=>absurd rfl z.2⟩,rfl⟩,rfl⟩ ?_ ?_
  ·rintro i σ H2 hi ⟨s2,as,v4,v5,h2,nd2,ba2,F2,c2,rfl⟩
   have hal:=OX nd2 ba2
   walk_at "gs"
   refine ⟨mp,gp,ap,rs,ls,gs,as,rfl,hM.same s2,s2 _ _ hG',h2,mz,by omega,fun g hg=>(Tp g hg).1,fun p q hpq=>ba2 q (MZ.qV.mp (F2.up p q hpq).2),fun s cs tp cp H3 s3 fc3 h3 hc3 cm3 hls hk3 hsb hcb=>?_,fun cs tp cp H3 s3 h3 hc3 sk=>?_⟩
   ·-- a eh aD come to
    have P:=cm3.path F2 (fun g hg=>(Tp g hg).2) hls hk3
    have Pj:ap≠cp:=cn h2 fc3
    walk_at "gs"
    refine ⟨_,_,.inr (.of h3),rfl,?_⟩
    unfold nv
    walk_at "gs"
    refine ⟨_,_,.inr (.of h3),rfl,?_⟩
    refine ⟨_,_,.inr (.of h3),rfl,?_⟩
    refine ⟨ap,cp,aZ ls,nI gs,as,cs,s,ls.length,rfl,s3 _ _ h2,hc3,Pj,nd2,ba2,hcb,by omega,F2,P,fun jz H4 s4 h4 nd4 ba4 cm4=>?_⟩
    ·have F4:=MZ.Yn F2 P mz.lt
     rw [<- cm4] at F4
     obtain ⟨l1,l2,l3⟩:=MZ.WA F2 P mz.lt
     rw [<- cm4] at l2 l3
     refine ⟨fun b o e=>?_,jz,_,_,h4,nd4,ba4,F4,?_,rfl⟩
     ·exact s4 b o (cn e fa) (s3 _ _ (s2 _ _ e))
     ·obtain ⟨A,nA,hA,rfl⟩:=c2
      refine ⟨s :: A,ZsX.mpr ⟨fun z=>((hA s).mp z).2 l1,nA⟩,fun t=>?_,rfl⟩
      rw [Zst,hA]
      constructor
      ·rintro (rfl | ⟨z1,z2⟩)
       ·exact ⟨hls,l2⟩
       ·refine ⟨z1,?_⟩
        by_cases e:t=s
        ·subst e;exact l2
        ·exact (l3 t z1 e).mpr z2
      ·rintro ⟨z1,z2⟩
       by_cases e:t=s
       ·exact .inl e
       ·exact .inr ⟨z1,(l3 t z1 e).mp z2⟩
   ·walk_at "gs"
    refine ⟨_,_,.inr (.of h3),rfl,?_⟩
    walk_at "gs"
    refine ⟨mp,ap,rs,ls,nI gs,as,rfl,hM.same (s2.trans s3),s3 _ _ h2,nd2,by omega,ba2,by omega,F2,mz,fun wl us ss ws H4 s4 f4 hW hun jD mem len way=>?_⟩
    refine ⟨_,_,.inr (.of (s4 _ _ h3)),rfl,?_⟩
    refine ⟨cp,cs,rfl,s4 _ _ hc3,sk.nC.nd,Zqv mz sk hn,fun sl es H5 md hes hem=>?_⟩
    obtain ⟨f5,h5,s5⟩:=md
    refine ⟨by show 2<=sizeLine;decide,fun tp' H6 n6=>?_⟩
    have iQ:=s2.trans s3
    have mH:=iQ.trans s4
    have rQ:=mH.trans s5
    have Vu:=s5.trans n6.same
    refine q1 gs tp' wl (.ref sl) us ss ws as H6 hgs aB (rQ.trans n6.same) (rQ.nil n6.aD) (iQ.nil f4) (fun u hu=>iQ.nil (hun u hu).1) (fun b e=>by cases e;exact mH.nil f5) n6.at_ ⟨⟨Vu _ _ hW.lst,hW.len,fun i r w hr hw=>Vu _ _ (hW.at_ i r w hr hw)⟩,F2,ba2,jD,mem,len,way,.inr ⟨sl,es,cs,rfl,n6.same _ _ h5,(cn hW.lst f5).symm,fun z=>?_,sk,hes,hem,?_⟩⟩
    ·obtain ⟨j,hj⟩:=Ztc.mp z
     have nV:j<ws.length:=by rw [<- hW.len];exact (Zsk.mp hj).1
     have:=hW.at_ j sl _ hj (Zsn nV)
     rw [f5] at this
     cases this
    ·have:=c2.eq (HU jD) mem
     omega
  ·rintro σ H2 ⟨s2,as,v4,v5,h2,nd2,ba2,F2,c2,rfl⟩
   have hal:=OX nd2 ba2
   walk_at "gs"
   refine ⟨mp,ap,rs,ls,nI gs,as,rfl,hM.same s2,h2,nd2,by omega,ba2,by omega,F2,mz,fun wl us ss ws H4 s4 f4 hW hun jD mem len way=>?_⟩
   refine ⟨by show 2<=sizeLine;decide,fun tp' H6 n6=>?_⟩
   have mH:=s2.trans s4
   exact q1 gs tp' wl .non us ss ws as H6 hgs aB (mH.trans n6.same) (mH.nil n6.aD) (s2.nil f4) (fun u hu=>s2.nil (hun u hu).1) (fun b e=>nomatch e) n6.at_ ⟨⟨n6.same _ _ hW.lst,hW.len,fun i r w hr hw=>n6.same _ _ (hW.at_ i r w hr hw)⟩,F2,ba2,jD,mem,len,way,.inl ⟨rfl,c2.eq (HU jD) mem⟩⟩
noncomputable def qT (H:Hp):V->Prop
 | .int _=>True
 | .bl _=>True
 | .str _=>True
 | .non=>True
 | .ref a=>(∃ xs,H a=some (.lst xs))\/∃ xs,H a=some (.tup xs)
 | _=>False
noncomputable def whole:V->Bool
 | .int _=>true
 | _=>false
noncomputable def D1 (_:ZrF):Sp:=fun vs H Q _=>∃ v:V,vs=[v]/\qT H v/\Q (.bl (whole v)) H
noncomputable def Ol (K:ZrF):TS:=(cz (uZ (cH (vW K) (ah (aa 0) (ah (tC (.ty "int")) ar))) (FN (cH (vW K) (ah (aa 0) (ah (tC (.ty "bool")) ar))))))
theorem YE (T:Txt K mg a):TM P w K mg base 0 "is_whole" Fo VG a.gq (Ol K) :=
 fun hr=>(aL (cC (JN (eV AO (by rfl) T.bX PyProof.Rows.boot_isinstance (ai (cv 0) (ai (DQ (v:=.ty "int") rfl T.px PyProof.Rows.boot_int rfl) aw))) (Iw (Eb (eV AO (by rfl) T.bX PyProof.Rows.boot_isinstance (ai (cv 0) (ai (DQ (v:=.ty "bool") rfl T.mR PyProof.Rows.boot_bool rfl) aw))))))))
theorem Pf (T:Txt K mg a):aG P w K mg base dw 1 a.gq a.i6 ["thing"] (D1 K):=by
 refine T.ez.n.dO Zkx (YE T) (fun vs H Q E h=>?_) (fun H vs Q E h=>?_)
 ·obtain ⟨v,rfl,_⟩:=h;rfl
 ·obtain ⟨v,rfl,hv,q⟩:=h
  show Ol K _ [some v] H
  unfold Ol
  walk_at "gs"
  cases v with
  | int i =>
   refine ⟨_,true,.int _,rfl,?_⟩
   walk_at "gs"
   refine ⟨_,false,.int _,rfl,?_⟩
   walk_at "gs"
   exact q
  | bl x =>
   refine ⟨_,true,.bl _,rfl,?_⟩
   walk_at "gs"
   refine ⟨_,true,.bl _,rfl,?_⟩
   walk_at "gs"
   exact q
  | str z =>
   refine ⟨_,false,.str _,rfl,?_⟩
   walk_at "gs"
   exact q
  | non =>
   refine ⟨_,false,.non,rfl,?_⟩
   walk_at "gs"
   exact q
  | ref r =>
   rcases hv with ⟨xs,e⟩ | ⟨xs,e⟩
   ·refine ⟨_,false,.lst e,rfl,?_⟩
    walk_at "gs"
    exact q
   ·refine ⟨_,false,.tup e,rfl,?_⟩
    walk_at "gs"
    exact q
  | _=>exact hv.elim
noncomputable def zO (v:V) (l g:Int):Bool:=match v with
 | .int i=>decide (l<=i/\i<=g)
 | _=>false
theorem Wh {v:V} (h:whole v=false) (l g:Int):zO v l g=false:=by
 cases v with
 | int i=>cases h
 | _=>rfl
theorem vR {v:V} (h:whole v=true):∃ i,v=.int i:=by
 cases v with
 | int i=>exact ⟨i,rfl⟩
 | _=>cases h
noncomputable def zQ (_:ZrF):Sp:=fun vs H Q _=>∃ (v:V) (l g:Int),vs=[v,.int l,.int g]/\qT H v/\Q (.bl (zO v l g)) H
noncomputable def MK (K:ZrF):TS:=(cz (uZ (cB (D1 K) [] E0 (ah (aa 0) ar)) (zV (cV fun i j=>.bl (decide (i<=j))) (cV fun i j=>.bl (decide (i<=j))) (aa 1) (aa 0) (aa 2))))
theorem Ziq (T:Txt K mg a):TM P w K mg base 1 "is_between" Dt Qx a.dY (MK K) :=
 fun hr=>(aL (cC (JN (cK T.ez (Pf T) (hm hr) bE (ai (cv 0) aw)) (Iw (TV pw pw (cv 1) (cv 0) (cv 2))))))
theorem Ik (T:Txt K mg a):aG P w K mg base dw 2 a.dY a.gH ["thing","least","greatest"] (zQ K):=by
 refine T.cy.n.dO Wm (Ziq T) (fun vs H Q E h=>?_) (fun H vs Q E h=>?_)
 ·obtain ⟨v,l,g,rfl,_⟩:=h;rfl
 ·obtain ⟨v,l,g,rfl,hv,q⟩:=h
  show MK K _ [some v,some (.int l),some (.int g)] H
  unfold MK
  walk_at "gs"
  refine ⟨v,rfl,hv,?_⟩
  cases hw:whole v with
  | false =>
   rw [Wh hw] at q
   walk_at "gs"
   exact q
  | true =>
   obtain ⟨i,rfl⟩:=vR hw
   have q:Q (.bl (decide (l<=i/\i<=g))) H:=q
   walk_at "gs"
   by_cases h:l<=i
   ·rw [if_pos h]
    rw [show decide (l<=i/\i<=g)=decide (i<=g) by rw [decide_eq_decide];omega] at q
    exact q
   ·rw [if_neg h]
    rw [decide_eq_false (fun z=>h z.1)] at q
    exact q
noncomputable def yV (v:V):Bool:=zO v 2 6
noncomputable def VZ (a:bZ) (_:ZrF):Sp:=fun vs H Q E=>∃ v:V,vs=[v]/\qT H v/\(yV v=true->Q .non H)/\(yV v=false->∀ e,H e=none->E (.ref e) (some a.eZ) H)
noncomputable def Mj (a:bZ) (K:ZrF) (E:XK):TS:=(du (lA (iU K (cB (zQ K) [] E0 (ah (aa 0) (ah (tC (Pb a)) (ah (tC (KH a)) ar)))))) (qp a.eZ (ah (tC (.str "not a whole number from 2 to 6")) ar) E) dQ)
theorem XO (T:Txt K mg a):TX P w K mg base 2 "need_size" Em VC a.eX (Mj a K) :=
 fun hr=>(aL (dJ (mC (kE (cK T.cy (Ik T) (hm hr) bE (ai (cv 0) (ai (rD rfl T.jw) (ai (rD rfl T.hV) aw)))))) (aL (tP Zr8 T.xi_NoSize (by decide) rfl T.m9 rfl pA (ai qO aw))) eE))
theorem Y5 (T:Txt K mg a):aG P w K mg base (gZ P w) 3 a.eX a.iu ["size"] (VZ a K):=by
 refine T.dA.n.iO Yz (XO T) (fun vs H Q E h=>?_) (fun H vs Q E h=>?_)
 ·obtain ⟨v,rfl,_⟩:=h;rfl
 ·obtain ⟨v,rfl,hv,q1,q0⟩:=h
  show Mj a K E _ [some v] H
  unfold Mj Pb KH
  walk_at "gs"
  refine ⟨v,_,_,rfl,hv,?_⟩
  have e:zO v 2 6=yV v:=rfl
  rw [e]
  cases h:yV v with
  | true =>
   walk_at "gs"
   exact q1 h
  | false =>
   walk_at "gs"
   exact q0 h
noncomputable def dM (m:Nat) (P:List MF.Pr):List (List Nat):=Zsp (m+1) [] ++ P.map fun p=>[(p.1 / 2).toNat,(p.2 / 2).toNat]
theorem sg (m:Nat) (P:List MF.Pr):(dM m P).length=m+1+P.length:=by
 unfold dM
 rw [Zsm,ZsM,Zsh]
theorem SV {m:Nat}{P:List MF.Pr}{k:Nat} (h:k<=m):(dM m P)[k]? = some []:=by
 unfold dM
 rw [ZsA (by rw [ZsM];omega),Ztf,if_pos (by omega)]
theorem Uw {m:Nat}{P:List MF.Pr}{j:Nat}{p:MF.Pr} (h:P[j]? = some p):(dM m P)[m+1+j]? = some [(p.1 / 2).toNat,(p.2 / 2).toNat]:=by
 unfold dM
 rw [ZsC (by rw [ZsM];omega),ZsM,show m+1+j - (m+1)=j by omega,Zsu,h]
 rfl
theorem OZ {m:Nat}{P:List MF.Pr}{k:Nat} (h:k<=m):aZ (dM m P) k=[]:=by
 unfold aZ
 rw [Zsy,SV h]
 rfl
theorem ue {m:Nat}{P:List MF.Pr}{j:Nat}{p:MF.Pr} (h:P[j]? = some p):aZ (dM m P) (m+1+j)=[(p.1 / 2).toNat,(p.2 / 2).toNat]:=by
 unfold aZ
 rw [Zsy,Uw h]
 rfl
theorem Jg {m:Nat}{P:List MF.Pr}{k l:Nat} (h:l∈aZ (dM m P) k):∃ j p,k=m+1+j/\P[j]? = some p/\(l=(p.1 / 2).toNat\/l=(p.2 / 2).toNat):=by
 have hk:=KD h
 rw [sg] at hk
 rcases ZtO m k with z | z
 ·have hj:k - m - 1<P.length:=by omega
  refine ⟨k - m - 1,P[k - m - 1],by omega,Zsn hj,?_⟩
  rw [show k=m+1+(k - m - 1) by omega,ue (Zsn hj)] at h
  simpa using h
 ·rw [OZ z] at h
  simp at h
theorem zX {m:Nat}{P:List MF.Pr} (ok:MF.Ok m P):Mz (dM m P):=by
 refine ⟨fun k l h=>?_,fun k=>?_⟩
 ·obtain ⟨j,p,rfl,hp,e⟩:=Jg h
  have:=ok j p hp
  omega
 ·rcases ZtO m k with z | z
  ·rcases ZtO (k - m - 1) P.length with y | y
   ·rw [show k=m+1+(k - m - 1) by omega,ue (Zsn y)]
    have:=ok _ _ (Zsn y)
    simp
    omega
   ·unfold aZ
    rw [Zsy,ZsR (by rw [sg];omega)]
    exact Zs8
  ·rw [OZ z];exact Zs8
theorem bz.snoc {H:Hp}{mp bp:Addr}{rs:List Addr}{ls:List (List Nat)}{bs:List Nat} (h:bz H mp rs ls) (hb:H bp=some (.lst (bs.map nv))) (nr:mp ∉ rs) (nb:mp≠bp):bz (upd H mp (.lst (rs.map V.ref ++ [.ref bp]))) mp (rs ++ [bp]) (ls ++ [bs]):=by
 refine ⟨by rw [bR,Zss];rfl,by rw [Zsm,Zsm,h.len];rfl,fun i r l hr hl=>?_⟩
 have gK:mp≠r:=fun z=>by
  have:=Zsz hr
  rcases Zsq.mp this with g | g
  ·exact nr (z ▸ g)
  ·rw [Zsl] at g;exact nb (z.trans g)
 rw [aE gK.symm]
 rcases Zt9 i ls.length with z | z | z
 ·rw [ZsA (by rw [h.len];exact z)] at hr
  rw [ZsA z] at hl
  exact h.at_ i r l hr hl
 ·subst z
  rw [ZsC (by rw [h.len];exact ZtJ _),h.len,ZtQ] at hr
  rw [ZsC (ZtJ _),ZtQ] at hl
  cases hr;cases hl
  exact hb
 ·rw [ZsR (by rw [Zsm,ZsN];omega)] at hl
  cases hl
noncomputable def SU (a:bZ) (_:ZrF):Sp:=fun vs H Q _=>∃ (f dx pl kl:Addr) (m:Nat) (es:List En),vs=[.ref f]/\aS a.af H f m es dx pl kl/\MF.Ok m (aA es)/\m<=10/\es.length<=4000 /\
 ∀ mp rs H',aQ H H'->H mp=none->(∀ r∈rs,H r=none/\mp≠r)->bz H' mp rs (dM m (aA es))->Q (.ref mp) H'
noncomputable def Np (a:bZ) (K:ZrF):TS:=(aI (bV (jo ar) (aC 1))
  (aI (fP (om (ah (d9 a.af "total" (mK a K) [] E0 (aa 0) ar) ar)) (aC 2) (aI (bV (d9 a.af "pair" (Hr a K) [] E0 (aa 0) (ah (aa 2) ar)) (aC 3))
  (ix (pG K "list" qm (aa 1) (ah (EN (bW (ax xU (aa 3) (tC .non))) (jo ar) (jo (ah (ax (cI hJ fun i j=>.int (i / j)) (ax (eL K) (aa 3) (tC (.int 0))) (tC (.int 2))) (ah (ax (cI hJ fun i j=>.int (i / j)) (ax (eL K) (aa 3) (tC (.int 1))) (tC (.int 2))) ar)))) ar)))))
  (cz (aa 1))))
theorem Zl1 (T:Txt K mg a):TM P w K mg base 2 "maze_of" Fj VX a.g8 (Np a K) :=
 fun hr=>(aK (cA (i:=1) IQ.nd rfl (by walk_at "o") (kC aw))
   (aK (jn PassesOwn.never rfl (uC rfl T.bu (ai (kz (cv 0) T.av T.aj.e (ny T) (hm hr) T.aj.b .nil bE) aw)) (cj (i:=2) IQ.nd rfl (by walk_at "o")) (aK (cA (i:=3) IQ.nd rfl (by walk_at "o") (kB (cv 0) T.av T.bQ.e (OI T) (hm hr) T.bQ.b .nil lC (ai (cv 2) aw)))
   (aL (i0 (tE Zr7 Zr9 Zsa (o6 rH) (cv 1) (ai (Pg (cW oX (cv 3) ml (cU _)) (kC aw) (kC (ai (aX iC (fB fC (cv 3) aH (fun _ _=>rfl)) aH) (ai (aX iC (fB fC (cv 3) aH (fun _ _=>rfl)) aH) aw)))) aw))))))
   (aL (cC (cv 1)))))
theorem Zmh (T:Txt K mg a):aG P w K mg base dw 3 a.g8 a.jU ["fold"] (SU a K):=by
 refine T.jP.n.dO IQ (Zl1 T) (fun vs H Q E h=>?_) (fun H vs Q E h=>?_)
 ·obtain ⟨f,dx,pl,kl,m,es,rfl,_⟩:=h;rfl
 ·obtain ⟨f,dx,pl,kl,m,es,rfl,hf,ok,hm,hz,q⟩:=h
  show Np a K _ [some (.ref f),none,none,none] H
  unfold Np
  have big:(20000:Nat)<=sizeLine:=by decide
  have mr:(aA es).length=es.length:=Zsh ..
  walk_at "gs"
  intro mp H1 n1
  have f1:=hf.same n1.same
  walk_at "gs"
  refine ⟨f,dx,_,rfl,f1.ins,rfl,f,dx,pl,kl,m,es,rfl,f1,?_⟩
  walk_at "gs"
  rw [show (1+(m:Int)+(es.length:Int)).toNat=m+1+es.length by omega]
  refine tS (fun i σ H2=>aQ H H2/\∃ (rs:List Addr) (v2 v3:Option V),(∀ r∈rs,H r=none/\mp≠r)/\bz H2 mp rs ((dM m (aA es)).take i)/\σ=[some (.ref f),some (.ref mp),v2,v3]) ⟨n1.same,[],_,_,fun r hr=>by simp at hr,⟨n1.at_,rfl,fun i r l hr=>by simp at hr⟩,rfl⟩ ?_ ?_
  ·rintro i σ H2 hi ⟨s2,rs,v2,v3,hrs,hM,rfl⟩
   have f2:=hf.same s2
   have hrl:rs.length=i:=by rw [hM.len,Zs6,sg];omega
   have nr:mp ∉ rs:=fun z=>(hrs mp z).2 rfl
   walk_at "gs"
   refine ⟨f,dx,_,rfl,f2.ins,rfl,f,dx,pl,kl,m,_,es,rfl,f2,fun _=>⟨fun hle=>?_,fun e bw he=>?_⟩,fun z=>absurd ⟨by omega,by omega⟩ z⟩
   ·walk_at "gs"
    refine ⟨.inl ⟨by trivial,_,.of hM.lst⟩,by show 0<=sizeLine;omega,fun r3 H3 n3=>?_⟩
    have zN:=hM.same n3.same
    have nm:mp≠r3:=cn hM.lst n3.aD
    refine ⟨mp,_,_,rfl,rfl,zN.lst,by rw [Zsh];omega,(s2.trans n3.same).put n1.aD,rs ++ [r3],_,_,fun r hr=>?_,?_,rfl⟩
    ·rcases Zsq.mp hr with z | z
     ·exact hrs r z
     ·rw [Zsl] at z;subst z;exact ⟨s2.nil n3.aD,nm⟩
    ·rw [ZsK,SV (by omega)]
     exact zN.snoc (bs:=[]) n3.at_ nr nm
   ·obtain ⟨j,hj⟩:∃ j,i=m+1+j:=⟨i - m - 1,by omega⟩
    have he':es[j]? = some e:=by rw [<- he];congr 1;omega
    have hp:(aA es)[j]? = some e.2:=by rw [Zsu,he'];rfl
    obtain ⟨o1,o2,o3,o4⟩:=ok _ _ hp
    have te:=f2.gM.tup _ (Zsz he')
    walk_at "gs"
    refine ⟨.inl ⟨by trivial,_,.of hM.lst⟩,?_⟩
    refine ⟨_,_,.inr (.of te),rfl,?_⟩
    walk_at "gs"
    refine ⟨_,_,.inr (.of te),rfl,?_⟩
    walk_at "gs"
    refine ⟨by show 2<=sizeLine;decide,fun r3 H3 n3=>?_⟩
    have zN:=hM.same n3.same
    have nm:mp≠r3:=cn hM.lst n3.aD
    refine ⟨mp,_,_,rfl,rfl,zN.lst,by rw [Zsh];omega,(s2.trans n3.same).put n1.aD,rs ++ [r3],_,_,fun r hr=>?_,?_,rfl⟩
    ·rcases Zsq.mp hr with z | z
     ·exact hrs r z
     ·rw [Zsl] at z;subst z;exact ⟨s2.nil n3.aD,nm⟩
    ·rw [ZsK,hj,Uw hp,<- hj]
     refine zN.snoc (bs:=[(e.2.1 / 2).toNat,(e.2.2 / 2).toNat]) ?_ nr nm
     rw [n3.at_]
     show some (HO.lst [V.int (e.2.1 / 2),V.int (e.2.2 / 2)])=some (HO.lst [nv _,nv _])
     unfold nv
     rw [show ((e.2.1 / 2).toNat:Int)=e.2.1 / 2 by omega,show ((e.2.2 / 2).toNat:Int)=e.2.2 / 2 by omega]
  ·rintro σ H2 ⟨s2,rs,v2,v3,hrs,hM,rfl⟩
   rw [Ztn (by rw [sg];omega)] at hM
   walk_at "gs"
   exact q mp rs H2 s2 n1.aD hrs hM
theorem Lf {m:Nat}{P:List MF.Pr} (ok:MF.Ok m P) {n:Nat} (hn:n<1+m+P.length) {k:Nat}:k∈MF.ku m P n ↔ ML.Dn (aZ (dM m P)) n k:=by
 unfold MF.ku
 rw [MF.vO]
 constructor
 ·intro h
  refine MF.OU (S:=ML.Dn (aZ (dM m P)) n) (fun t ht=>?_) (fun j p hp hS _=>?_) h
  ·rw [Zsl] at ht
   subst ht
   rw [MF.Ck]
   exact .here
  ·exact ⟨hS.low (by rw [ue hp];simp),hS.low (by rw [ue hp];simp)⟩
 ·intro h
  induction h with
  | here=>exact MF.Hv hn
  | low h hx ih =>
   obtain ⟨j,p,rfl,hp,e⟩:=Jg hx
   have:=MF.VQ ok [2 * (n:Int)] hp ih rfl
   rcases e with rfl | rfl
   ·exact this.1
   ·exact this.2
theorem Zob {m:Nat}{P:List MF.Pr} (ok:MF.Ok m P) {n:Nat} (hn:n<1+m+P.length):∃ v,MF.ku m P n=v ++ [n]:=by
 rw [MF.Zpv ok hn,Zs4,Zs0]
 refine ⟨(Zsj n).filter (MF.eQ (fun _=>false) m P [2 * (n:Int)]),?_⟩
 rw [ZsO,if_pos (MF.Hv hn)]
 rfl
theorem W2 (m:Nat) (P:List MF.Pr) (n:Nat):(MF.ku m P n).length<=1+m+P.length:=by
 unfold MF.ku MF.bh
 refine ZtL (Zs2 ..) ?_
 rw [ZsF]
 exact ZtJ _
noncomputable def gN:Nat->List Addr->List (Key × V)
 | _,[]=>[]
 | n,c :: r=>(.inl (n:Int),.ref c) :: gN (n+1) r
theorem Hw:∀ (n:Nat) (cs:List Addr) (k:Int),bC (gN n cs) (.inl k)=if (n:Int)<=k then (cs[(k - n).toNat]?).map V.ref else none
 | n,[],k=>by
  show none=_
  split <;> simp
 | n,c :: r,k=>by
  show bC ((.inl (n:Int),.ref c) :: gN (n+1) r) (.inl k)=_
  by_cases e:k=n
  ·subst e
   rw [lJ rfl,if_pos (Int.le_refl _),show ((n:Int) - (n:Int)).toNat=0 by omega]
   rfl
  ·rw [lW (fun z=>e (by have:=Sum.inl.inj z;omega)),Hw (n+1) r k]
   by_cases h:(n:Int)<=k
   ·rw [if_pos (by omega),if_pos h,show (k - (n:Int)).toNat=(k - ((n+1:Nat):Int)).toNat+1 by omega,Zs9]
   ·rw [if_neg (by omega),if_neg h]
theorem Rc:∀ (n:Nat) (cs:List Addr) (c:Addr),gN n (cs ++ [c])=gN n cs ++ [(.inl ((n+cs.length:Nat):Int),.ref c)]
 | n,[],c=>rfl
 | n,x :: r,c=>by
  show (.inl (n:Int),.ref x) :: gN (n+1) (r ++ [c])=(.inl (n:Int),.ref x) :: (gN (n+1) r ++ _)
  rw [Rc (n+1) r c,ZsB,show n+1+r.length=n+(r.length+1) by omega]
theorem RX:∀ (n:Nat) (cs:List Addr) (k:Nat),n+cs.length<=k->((gN n cs).any fun kv=>decide (kv.1=(.inl (k:Int):Key)))=false
 | n,[],k,_=>rfl
 | n,c :: r,k,h=>by
  rw [ZsB] at h
  show (decide ((.inl (n:Int):Key)=.inl (k:Int)) || _)=false
  rw [decide_eq_false (fun z=>by have:=Sum.inl.inj z;omega),Zur]
  exact RX (n+1) r k (by omega)
theorem Qp (n:Nat) (cs:List Addr) (c:Addr):cJ (gN n cs) (.inl ((n+cs.length:Nat):Int)) (.ref c)=gN n (cs ++ [c]):=by
 unfold cJ
 rw [RX n cs _ (ZtJ _),if_neg (by simp),Rc]
theorem MQ:∀ (n:Nat) (cs:List Addr),(gN n cs).length=cs.length
 | _,[]=>rfl
 | n,c :: r=>by
  show (gN (n+1) r).length+1=r.length+1
  rw [MQ]
structure gc (C:Addr) (H:Hp) (x dx ll fc fw:Addr) (m:Nat) (aJ:List Nat) (aU aD:List Addr):Prop where
 ins:H x=some (.ins C dx [("levels",.ref ll),("found_cuts",.ref fc),("found_ways",.ref fw)])
 lst:H ll=some (.lst (aJ.map nv))
 gu:H fc=some (.dK (gN (m+1) aU))
 fN:H fw=some (.dK (gN (m+1) aD))
noncomputable def mP (ll fc fw:Addr) (H H':Hp):Prop:=∀ b o,b≠ll->b≠fc->b≠fw->H b=some o->H' b=some o
theorem mP.trans {ll fc fw:Addr}{H H' H1:Hp} (u:mP ll fc fw H H') (v:mP ll fc fw H' H1):mP ll fc fw H H1:=fun b o n1 n2 n3 e=>v b o n1 n2 n3 (u b o n1 n2 n3 e)
theorem Il {ll fc fw:Addr}{H H':Hp} (s:aQ H H'):mP ll fc fw H H':=fun b o _ _ _ e=>s b o e
theorem gc.same {C:Addr}{H H':Hp}{x dx ll fc fw:Addr}{m:Nat}{aJ:List Nat}{aU aD:List Addr} (h:gc C H x dx ll fc fw m aJ aU aD) (s:aQ H H'):gc C H' x dx ll fc fw m aJ aU aD:=⟨s _ _ h.ins,s _ _ h.lst,s _ _ h.gu,s _ _ h.fN⟩
noncomputable def Jc (a:bZ) (_:ZrF):Sp:=fun vs H Q _=>∃ (x dx ll fc fw c w:Addr) (m k gv:Nat) (aJ:List Nat) (aU aD:List Addr),vs=[.ref x,.int k,.int gv,.ref c,.ref w]/\gc a.ae H x dx ll fc fw m aJ aU aD/\k=m+1+aU.length/\aU.length=aD.length/\aJ.length<=10000/\k<=10000/\fc≠fw /\
 ∀ H',mP ll fc fw H H'->gc a.ae H' x dx ll fc fw m (aJ ++ [gv]) (aU ++ [c]) (aD ++ [w])->Q .non H'
noncomputable def M4 (K:ZrF):TS:=(aI (ix (pG K "list" qm (fG K (aa 0) "levels") (ah (aa 2) ar)))
  (aI (mX (fG K (aa 0) "found_cuts") (aa 1) (aa 3))
  (mX (fG K (aa 0) "found_ways") (aa 1) (aa 4))))
theorem Zo (T:Txt K mg a):TM P w K mg base 0 "Labels.keep" GO Ry a.dG (M4 K) :=
 fun hr=>(aK (i0 (tE Zr7 Zr9 Zsa (o6 rH) (fU (cv 0) rfl) (ai (cv 2) aw)))
   (aK (pJ (eG hr) (fU (cv 0) rfl) (cv 1) (cv 3) rfl)
   (aL (pJ (eG hr) (fU (cv 0) rfl) (cv 1) (cv 4) rfl))))
theorem Md (T:Txt K mg a):aG P w K mg base dw 1 a.dG a.fW ["self","knot","level","cut","ways"] (Jc a K):=by
 refine T.bq.n.dO WM (Zo T) (fun vs H Q E h=>?_) (fun H vs Q E h=>?_)
 ·obtain ⟨x,dx,ll,fc,fw,c,w,m,k,gv,aJ,aU,aD,rfl,_⟩:=h;rfl
 ·obtain ⟨x,dx,ll,fc,fw,c,w,m,k,gv,aJ,aU,aD,rfl,hL,hk,hcw,hz,hkz,nf,q⟩:=h
  show M4 K _ [some (.ref x),some (.int k),some (.int gv),some (.ref c),some (.ref w)] H
  unfold M4
  have big:(20000:Nat)<=sizeLine:=by decide
  have n1:ll≠x:=eA hL.lst hL.ins (fun z=>nomatch z)
  have n2:fc≠x:=eA hL.gu hL.ins (fun z=>nomatch z)
  have n3:fw≠x:=eA hL.fN hL.ins (fun z=>nomatch z)
  have n4:ll≠fc:=eA hL.lst hL.gu (fun z=>nomatch z)
  have n5:ll≠fw:=eA hL.lst hL.fN (fun z=>nomatch z)
  walk_at "gs"
  refine ⟨x,a.ae,dx,_,_,rfl,hL.ins,T.ay,T.aP,rfl,?_⟩
  walk_at "gs"
  refine ⟨.inl ⟨by trivial,_,.of hL.lst⟩,ll,_,_,rfl,rfl,hL.lst,by rw [Zsh];omega,?_⟩
  have UI:upd H ll (.lst (aJ.map nv ++ [.int gv])) x=some (.ins a.ae dx [("levels",.ref ll),("found_cuts",.ref fc),("found_ways",.ref fw)]):=by rw [aE n1.symm];exact hL.ins
  have Yg:upd H ll (.lst (aJ.map nv ++ [.int gv])) fc=some (.dK (gN (m+1) aU)):=by rw [aE n4.symm];exact hL.gu
  have WS:upd H ll (.lst (aJ.map nv ++ [.int gv])) fw=some (.dK (gN (m+1) aD)):=by rw [aE n5.symm];exact hL.fN
  have my:upd H ll (.lst (aJ.map nv ++ [.int gv])) ll=some (.lst ((aJ ++ [gv]).map nv)):=by rw [bR,Zss];rfl
  have u1:mP ll fc fw H (upd H ll (.lst (aJ.map nv ++ [.int gv]))):=fun b o g1 _ _ e=>by rw [aE g1];exact e
  generalize upd H ll (.lst (aJ.map nv ++ [.int gv]))=H1 at *
  walk_at "gs"
  refine ⟨x,a.ae,dx,_,_,rfl,UI,T.ay,T.bj,rfl,fc,_,rfl,pO.k (k:=.inl (k:Int)) Yg (by rw [MQ];omega),?_⟩
  have e2:cJ (gN (m+1) aU) (.inl (k:Int)) (.ref c)=gN (m+1) (aU ++ [c]):=by rw [hk];exact Qp _ _ _
  rw [e2]
  walk_at "gs"
  have rn:upd H1 fc (.dK (gN (m+1) (aU ++ [c]))) x=some (.ins a.ae dx [("levels",.ref ll),("found_cuts",.ref fc),("found_ways",.ref fw)]):=by rw [aE n2.symm];exact UI
  have Yk:upd H1 fc (.dK (gN (m+1) (aU ++ [c]))) fw=some (.dK (gN (m+1) aD)):=by rw [aE nf.symm];exact WS
  refine ⟨x,a.ae,dx,_,_,rfl,rn,T.ay,T.bJ,rfl,fw,_,rfl,pO.k (k:=.inl (k:Int)) Yk (by rw [MQ];omega),?_⟩
  have e3:cJ (gN (m+1) aD) (.inl (k:Int)) (.ref w)=gN (m+1) (aD ++ [w]):=by rw [hk,hcw];exact Qp _ _ _
  rw [e3]
  refine q _ (fun b o g1 g2 g3 e=>?_) ⟨?_,?_,?_,bR⟩
  ·rw [aE g3,aE g2];exact u1 b o g1 g2 g3 e
  ·rw [aE n3.symm];exact rn
  ·rw [aE n5,aE n4];exact my
  ·rw [aE nf,bR]
noncomputable def Fb (a:bZ) (_:ZrF):Sp:=fun vs H Q E=>∃ (x dx ll fc fw:Addr) (m:Nat) (k:Int) (aJ:List Nat) (aU aD:List Addr),vs=[.ref x,.int k]/\gc a.ae H x dx ll fc fw m aJ aU aD/\(∀ n:Nat,k=n->n<aJ.length->Q (nv (aJ.getD n 0)) H)/\(¬ (0<=k/\k<aJ.length)->∀ e,H e=none->E (.ref e) (some a.bO) H)
theorem IT {xs:List Nat}{n:Nat} (h:n<xs.length):jm (xs.map nv) (n:Int)=some (nv (xs.getD n 0)):=by
 rw [rP .non (by omega) (by rw [Zsh];omega),Zua,Zsy,Zsy,Zsu,Zsn h]
 rfl
noncomputable def JI (a:bZ) (K:ZrF) (E:XK):TS:=(aI (du (ki (bW (ax (cV fun i j=>.bl (decide (i<j))) (aa 1) (tC (.int 0)))) (bW (ax (cV fun i j=>.bl (decide (j<=i))) (aa 1) (cH (lj K) (ah (fG K (aa 0) "levels") ar))))) (qp a.bO (ah (tC (.str "no knot of these labels")) ar) E) dQ)
  (cz (ax (eL K) (fG K (aa 0) "levels") (aa 1))))
theorem We (T:Txt K mg a):TX P w K mg base 0 "Labels.label" G9 Vx a.dg (JI a K) :=
 fun hr=>(aK (dJ (PW.pt (kX (cW qr (cv 1) aH (cU _)) (nj (cW pK (cv 1) (eV lU (by rfl) T.cc PySem.boot_len (ai (fU (cv 0) rfl) aw)) (cU _))))) (aL (tP Zr8 T.xi_NoKnot (by decide) rfl T.fI rfl pA (ai qO aw))) eE)
   (aL (cC (fB fC (fU (cv 0) rfl) (cv 1) (fun _ _=>rfl)))))
theorem OD (T:Txt K mg a):aG P w K mg base (gZ P w) 1 a.dg a.eT ["self","knot"] (Fb a K):=by
 refine T.aY.n.iO ZM (We T) (fun vs H Q E h=>?_) (fun H vs Q E h=>?_)
 ·obtain ⟨x,dx,ll,fc,fw,m,k,aJ,aU,aD,rfl,_⟩:=h;rfl
 ·obtain ⟨x,dx,ll,fc,fw,m,k,aJ,aU,aD,rfl,hL,q1,q0⟩:=h
  show JI a K E _ [some (.ref x),some (.int k)] H
  unfold JI
  walk_at "gs"
  by_cases h0:k<0
  ·rw [if_pos h0]
   exact ⟨by show 1<=sizeLine;decide,q0 (by omega)⟩
  rw [if_neg h0]
  refine ⟨x,a.ae,dx,_,_,rfl,hL.ins,T.ay,T.aP,rfl,.inl ⟨_,.inl (.of hL.lst),?_⟩⟩
  rw [Zsh]
  by_cases h1:(aJ.length:Int)<=k
  ·rw [if_pos h1]
   exact ⟨by show 1<=sizeLine;decide,q0 (by omega)⟩
  rw [if_neg h1]
  obtain ⟨n,rfl⟩:=Zub (by omega:0<=k)
  refine ⟨x,a.ae,dx,_,_,rfl,hL.ins,T.ay,T.aP,rfl,_,_,.inl (.of hL.lst),IT (by omega),q1 n rfl (by omega)⟩
noncomputable def Ql (a:bZ) (_:ZrF):Sp:=fun vs H Q E=>∃ (x dx ll fc fw:Addr) (m:Nat) (k:Int) (aJ:List Nat) (aU aD:List Addr),vs=[.ref x,.int k]/\gc a.ae H x dx ll fc fw m aJ aU aD/\(m<k/\k<m+1+aU.length->Q .non H)/\(¬ (m<k/\k<m+1+aU.length)->∀ e,H e=none->E (.ref e) (some a.bO) H)
theorem Zrd {m:Nat}{aU:List Addr}{k:Int}:(bC (gN (m+1) aU) (.inl k)).isSome=decide (m<k/\k<m+1+aU.length):=by
 rw [Hw]
 by_cases h:((m+1:Nat):Int)<=k
 ·rw [if_pos h,Option.isSome_map]
  by_cases g:(k - ((m+1:Nat):Int)).toNat<aU.length
  ·rw [Zsn g,decide_eq_true (by omega)];rfl
  ·rw [ZsR (by omega),decide_eq_false (by omega)];rfl
 ·rw [if_neg h,decide_eq_false (by omega)];rfl
noncomputable def MB (a:bZ) (K:ZrF) (E:XK):TS:=(du (bW (oM (aa 1) (fG K (aa 0) "found_cuts"))) (qp a.bO (ah (tC (.str "no and-knot of these labels")) ar) E) dQ)
theorem Z8 (T:Txt K mg a):TX P w K mg base 0 "Labels.need_and_knot" Bw RC a.bA (MB a K) :=
 fun hr=>(aL (dJ (rA (su (eG hr) (cv 1) (fU (cv 0) rfl))) (aL (tP Zr8 T.xi_NoKnot (by decide) rfl T.fI rfl pA (ai qO aw))) eE))
theorem W0 (T:Txt K mg a):aG P w K mg base (gZ P w) 1 a.bA a.cw ["self","knot"] (Ql a K):=by
 refine T.bB.n.iO V9 (Z8 T) (fun vs H Q E h=>?_) (fun H vs Q E h=>?_)
 ·obtain ⟨x,dx,ll,fc,fw,m,k,aJ,aU,aD,rfl,_⟩:=h;rfl
 ·obtain ⟨x,dx,ll,fc,fw,m,k,aJ,aU,aD,rfl,hL,q1,q0⟩:=h
  show MB a K E _ [some (.ref x),some (.int k)] H
  unfold MB
  walk_at "gs"
  refine ⟨x,a.ae,dx,_,_,rfl,hL.ins,T.ay,T.bj,rfl,fc,_,rfl,eB.k (k:=.inl k) hL.gu,?_⟩
  rw [Zrd]
  by_cases h:m<k/\k<m+1+aU.length
  ·rw [decide_eq_true h]
   walk_at "gs"
   exact q1 h
  ·rw [decide_eq_false h]
   walk_at "gs"
   exact q0 h
noncomputable def Q0 (a:bZ) (_:ZrF):Sp:=fun vs H Q E=>∃ (x dx ll fc fw:Addr) (m:Nat) (k:Int) (aJ:List Nat) (aU aD:List Addr) (dk:List (List Nat)),vs=[.ref x,.int k]/\gc a.ae H x dx ll fc fw m aJ aU aD/\aU.length=dk.length/\(∀ (i:Nat) c C,aU[i]? = some c->dk[i]? = some C->H c=some (.lst (C.map nv))) /\
 (∀ (i:Nat) C,k=((m+1+i:Nat):Int)->dk[i]? = some C->∀ q H',fM H q (.lst (C.map nv)) H'->Q (.ref q) H')/\(¬ (m<k/\k<m+1+aU.length)->∀ e,H e=none->E (.ref e) (some a.bO) H)
noncomputable def Ll (a:bZ) (K:ZrF) (E:XK):TS:=(aI (ix (d9 a.ae "need_and_knot" (Ql a K) [] E (aa 0) (ah (aa 1) ar)))
  (cz (cH (tf K) (ah (lO (fG K (aa 0) "found_cuts") (aa 1)) ar))))
theorem Zir (T:Txt K mg a):TX P w K mg base 1 "Labels.cut" A4 Tx a.d6 (Ll a K) :=
 fun hr=>(aK (i0 (kB (cv 0) T.ay T.bB.e (W0 T) (hm hr) T.bB.b .nil (K1 pA) (ai (cv 1) aw)))
   (aL (cC (lK Fg (by rfl) T.eg PyProof.Rows.boot_list (ai (nh (eG hr) (fU (cv 0) rfl) (cv 1) (fun _ _=>rfl)) aw)))))
theorem ZiN (T:Txt K mg a):aG P w K mg base (gZ P w) 2 a.d6 a.gJ ["self","knot"] (Q0 a K):=by
 refine T.ed.n.iO ZK (Zir T) (fun vs H Q E h=>?_) (fun H vs Q E h=>?_)
 ·obtain ⟨x,dx,ll,fc,fw,m,k,aJ,aU,aD,dk,rfl,_⟩:=h;rfl
 ·obtain ⟨x,dx,ll,fc,fw,m,k,aJ,aU,aD,dk,rfl,hL,mV,hat,q1,q0⟩:=h
  show Ll a K E _ [some (.ref x),some (.int k)] H
  unfold Ll
  walk_at "gs"
  refine ⟨x,dx,_,rfl,hL.ins,rfl,x,dx,ll,fc,fw,m,k,aJ,aU,aD,rfl,hL,fun hk=>?_,q0⟩
  obtain ⟨i,rfl⟩:∃ i:Nat,k=((m+1+i:Nat):Int):=⟨(k - m - 1).toNat,by omega⟩
  have hi:i<aU.length:=by omega
  have hv:bC (gN (m+1) aU) (.inl ((m+1+i:Nat):Int))=some (.ref aU[i]):=by
   rw [Hw,if_pos (by omega),show (((m+1+i:Nat):Int) - ((m+1:Nat):Int)).toNat=i by omega,Zsn hi]
   rfl
  have hC:dk[i]? = some (dk[i]'(by omega)):=Zsn _
  have hc:=hat i _ _ (Zsn hi) hC
  walk_at "gs"
  have g:=eB.k (k:=.inl ((m+1+i:Nat):Int)) hL.gu
  rw [hv] at g
  refine ⟨x,a.ae,dx,_,_,rfl,hL.ins,T.ay,T.bj,rfl,fc,_,rfl,g,?_⟩
  walk_at "gs"
  exact ⟨_,.inl (.of hc),fun l H' n'=>q1 i _ rfl hC l H' n'⟩
noncomputable def qE (lo:Nat->List Nat) (lv:Nat->Nat) (s k:Nat) (ws:List (List Nat)):Prop :=
 (lv k=1/\ws=[])\/(2<=lv k/\ws.length=s+1/\∃ (goal:Nat->Prop) (ab:MZ.Ab) (ss:List Nat),MZ.Flow lo goal ab/\(∀ z,goal z->ML.Dn lo k z/\lv k<=lv z+1)/\(∀ p,ab p≠none->ML.Dn lo k p/\lv p+2<=lv k)/\ss.Pairwise (· < ·)/\(∀ t,t∈ss ↔ lo t=[]/\ab t≠none)/\ws.length=ss.length/\∀ (i:Nat) t w,ss[i]? = some t->ws[i]? = some w->kS ab t w)
theorem qE.pos {lo:Nat->List Nat}{lv:Nat->Nat}{s k:Nat}{ws:List (List Nat)} (h:qE lo lv s k ws):0<ws.length ↔ 1<lv k:=by
 rcases h with ⟨h1,h2⟩ | ⟨h1,h2,_⟩
 ·rw [h2,h1];simp
 ·omega
theorem qE.ext {lo:Nat->List Nat}{lv oE:Nat->Nat}{s k:Nat}{ws:List (List Nat)} (bw:∀ p l,l∈lo p->l<p) (h:qE lo lv s k ws) (he:∀ x,x<=k->oE x=lv x):qE lo oE s k ws:=by
 have ek:=he k (ZtJ _)
 rcases h with ⟨h1,h2⟩ | ⟨h1,h2,goal,ab,ss,F,hg,hp,rest⟩
 ·exact .inl ⟨by rw [ek];exact h1,h2⟩
 ·exact .inr ⟨by rw [ek];exact h1,h2,goal,ab,ss,F,fun z hz=>⟨(hg z hz).1,by rw [ek,he z ((hg z hz).1.le bw)];exact (hg z hz).2⟩,fun p hd=>⟨(hp p hd).1,by rw [ek,he p ((hp p hd).1.le bw)];exact (hp p hd).2⟩,rest⟩
theorem qE.up {lo:Nat->List Nat}{lv:Nat->Nat}{s k l:Nat}{ws:List (List Nat)} (h:qE lo lv s l ws) (hl:l∈lo k) (e:lv k=lv l):qE lo lv s k ws:=by
 have d:ML.Dn lo k l:=.low .here hl
 rcases h with ⟨h1,h2⟩ | ⟨h1,h2,goal,ab,ss,F,hg,hp,rest⟩
 ·exact .inl ⟨by rw [e];exact h1,h2⟩
 ·exact .inr ⟨by rw [e];exact h1,h2,goal,ab,ss,F,fun z hz=>⟨d.trans (hg z hz).1,by rw [e];exact (hg z hz).2⟩,fun p hd=>⟨d.trans (hp p hd).1,by rw [e];exact (hp p hd).2⟩,rest⟩
structure dv (C:Addr) (S:Addr->Prop) (H:Hp) (x dx ll fc fw:Addr) (m:Nat) (P:List MF.Pr) (s:Nat) (aJ:List Nat) (aU aD:List Addr) (dk:List (List Nat)) (fh:List (List (List Nat))):Prop where
 at_:gc C H x dx ll fc fw m aJ aU aD
 nf:fc≠fw
 HB:S ll
 tD:∀ b,S b->∃ o,H b=some o
 len:aJ.length=m+1+aU.length
 wl:aU.length=aD.length
 cl:aU.length=dk.length
 sl:aD.length=fh.length
 low:∀ k,k<=m->aJ.getD k 0=0
 cut:∀ (i:Nat) c C,aU[i]? = some c->dk[i]? = some C->H c=some (.lst (C.map nv))/\¬ S c
 way:∀ (i:Nat) w ws,aD[i]? = some w->fh[i]? = some ws->∃ us,dE H w us ws/\¬ S w/\∀ u∈us,¬ S u
 m5:∀ (i:Nat) C,dk[i]? = some C->ML.kG (aZ (dM m P)) (fun k=>aJ.getD k 0) s (m+1+i) C
 Jm:∀ (i:Nat) ws,fh[i]? = some ws->qE (aZ (dM m P)) (fun k=>aJ.getD k 0) s (m+1+i) ws
theorem mP.lst {ll fc fw b:Addr}{H H':Hp}{xs:List V}{ks Fw:List (Key × V)} (u:mP ll fc fw H H') (hc:H fc=some (.dK ks)) (hw:H fw=some (.dK Fw)) (e:H b=some (.lst xs)) (n:b≠ll):H' b=some (.lst xs) :=
 u b _ n (eA e hc (fun z=>nomatch z)) (eA e hw (fun z=>nomatch z)) e
theorem dE.Gk {ll fc fw w:Addr}{H H':Hp}{us:List Addr}{ws:List (List Nat)}{ks Fw:List (Key × V)} (h:dE H w us ws) (u:mP ll fc fw H H') (hc:H fc=some (.dK ks)) (hw:H fw=some (.dK Fw)) (n:w≠ll) (nu:∀ u∈us,u≠ll):dE H' w us ws :=
 ⟨u.lst hc hw h.lst n,h.len,fun i r y hr hy=>u.lst hc hw (h.at_ i r y hr hy) (nu r (Zsz hr))⟩
theorem bz.Gk {ll fc fw w:Addr}{H H':Hp}{us:List Addr}{ws:List (List Nat)}{ks Fw:List (Key × V)} (h:bz H w us ws) (u:mP ll fc fw H H') (hc:H fc=some (.dK ks)) (hw:H fw=some (.dK Fw)) (n:w≠ll) (nu:∀ u∈us,u≠ll):bz H' w us ws :=
 ⟨u.lst hc hw h.lst n,h.len,fun i r y hr hy=>u.lst hc hw (h.at_ i r y hr hy) (nu r (Zsz hr))⟩
theorem dE.same {H H':Hp}{w:Addr}{us:List Addr}{ws:List (List Nat)} (h:dE H w us ws) (s:aQ H H'):dE H' w us ws :=
 ⟨s _ _ h.lst,h.len,fun i r y hr hy=>s _ _ (h.at_ i r y hr hy)⟩
theorem p6 {xs:List Nat}{y k:Nat} (h:k<xs.length):(xs ++ [y]).getD k 0=xs.getD k 0:=by
 rw [Zsy,Zsy,ZsA h]
theorem ZjW {xs:List Nat}{y k:Nat} (h:k=xs.length):(xs ++ [y]).getD k 0=y:=by
 subst h
 rw [Zsy,ZsC (ZtJ _),ZtQ]
 rfl
theorem Qm {xs:List Nat}{y k:Nat}:xs.getD k 0<=(xs ++ [y]).getD k 0:=by
 rcases ZtO k xs.length with z | z
 ·rw [p6 z];exact ZtJ _
 ·rw [Zsy,ZsR z];exact ZtN _
theorem pC {α:Type}{xs:List α}{y z:α}{i:Nat} (h:(xs ++ [y])[i]? = some z):xs[i]? = some z\/(i=xs.length/\z=y):=by
 rcases Zt9 i xs.length with w | w | w
 ·rw [ZsA w] at h;exact .inl h
 ·subst w
  rw [ZsC (ZtJ _),ZtQ] at h
  cases h
  exact .inr ⟨rfl,rfl⟩
 ·rw [ZsR (by rw [Zsm,ZsN];omega)] at h
  cases h
theorem dv.same {C:Addr}{S:Addr->Prop}{H H':Hp}{x dx ll fc fw:Addr}{m:Nat}{P:List MF.Pr}{s:Nat}{aJ:List Nat}{aU aD:List Addr}{dk:List (List Nat)}{fh:List (List (List Nat))} (h:dv C S H x dx ll fc fw m P s aJ aU aD dk fh) (st:aQ H H'):dv C S H' x dx ll fc fw m P s aJ aU aD dk fh :=
 ⟨h.at_.same st,h.nf,h.HB,fun b hb=>by obtain ⟨o,ho⟩:=h.tD b hb;exact ⟨o,st _ _ ho⟩,h.len,h.wl,h.cl,h.sl,h.low,fun i c C hc hC=>⟨st _ _ (h.cut i c C hc hC).1,(h.cut i c C hc hC).2⟩,fun i w ws hw hs=>by
  obtain ⟨us,h1,h2,h3⟩:=h.way i w ws hw hs
  exact ⟨us,h1.same st,h2,h3⟩,h.m5,h.Jm⟩
theorem dv.more {C:Addr}{S:Addr->Prop}{H H':Hp}{x dx ll fc fw c w:Addr}{m:Nat}{P:List MF.Pr}{s gv:Nat}{aJ:List Nat}{aU aD:List Addr}{dk:List (List Nat)}{fh:List (List (List Nat))}{Cn:List Nat}{ws:List (List Nat)} (h:dv C S H x dx ll fc fw m P s aJ aU aD dk fh) (ok:MF.Ok m P)
  (u:mP ll fc fw H H') (h':gc C H' x dx ll fc fw m (aJ ++ [gv]) (aU ++ [c]) (aD ++ [w])) (hc:H' c=some (.lst (Cn.map nv))) (nc:¬ S c) (hw:∃ us,dE H' w us ws/\¬ S w/\∀ u∈us,¬ S u)
  (NK:ML.kG (aZ (dM m P)) (fun k=>(aJ ++ [gv]).getD k 0) s (m+1+aU.length) Cn) (Jz:qE (aZ (dM m P)) (fun k=>(aJ ++ [gv]).getD k 0) s (m+1+aU.length) ws) :
  dv C S H' x dx ll fc fw m P s (aJ ++ [gv]) (aU ++ [c]) (aD ++ [w]) (dk ++ [Cn]) (fh ++ [ws]):=by
 have mz:=zX ok
 have hl:=h.len
 have mV:=h.cl
 have o9:=h.wl
 have E7:=h.sl
 have nl:∀ {b:Addr},¬ S b->b≠ll:=fun nb e=>nb (e ▸ h.HB)
 refine ⟨h',h.nf,h.HB,fun b hb=>?_,?_,?_,?_,?_,fun k hk=>?_,fun i c' C' hc' hC'=>?_,fun i w' ws' hw' oN=>?_,fun i C' hC'=>?_,fun i ws' oN=>?_⟩
 ·by_cases e1:b=ll
  ·exact ⟨_,e1 ▸ h'.lst⟩
  by_cases e2:b=fc
  ·exact ⟨_,e2 ▸ h'.gu⟩
  by_cases e3:b=fw
  ·exact ⟨_,e3 ▸ h'.fN⟩
  obtain ⟨o,ho⟩:=h.tD b hb
  exact ⟨o,u b o e1 e2 e3 ho⟩
 ·simp only [Zsm,ZsN];omega
 ·simp only [Zsm,ZsN];omega
 ·simp only [Zsm,ZsN];omega
 ·simp only [Zsm,ZsN];omega
 ·rw [p6 (by omega)];exact h.low k hk
 ·rcases pC hc' with z | ⟨z,rfl⟩
  ·have:=(Zsk.mp z).1
   rcases pC hC' with y | ⟨y,_⟩
   ·have:=h.cut i c' C' z y
    exact ⟨u.lst h.at_.gu h.at_.fN this.1 (nl this.2),this.2⟩
   ·omega
  ·rcases pC hC' with y | ⟨_,rfl⟩
   ·have:=(Zsk.mp y).1;omega
   ·exact ⟨hc,nc⟩
 ·rcases pC hw' with z | ⟨z,rfl⟩
  ·have:=(Zsk.mp z).1
   rcases pC oN with y | ⟨y,_⟩
   ·obtain ⟨us,h1,h2,h3⟩:=h.way i w' ws' z y
    exact ⟨us,h1.Gk u h.at_.gu h.at_.fN (nl h2) (fun u hu=>nl (h3 u hu)),h2,h3⟩
   ·omega
  ·rcases pC oN with y | ⟨_,rfl⟩
   ·have:=(Zsk.mp y).1;omega
   ·exact hw
 ·rcases pC hC' with y | ⟨rfl,rfl⟩
  ·have:=(Zsk.mp y).1
   exact (h.m5 i C' y).ext mz.lt (fun k hk=>p6 (by omega)) (fun k=>Qm)
  ·rw [<- mV];exact NK
 ·rcases pC oN with y | ⟨rfl,rfl⟩
  ·have:=(Zsk.mp y).1
   exact (h.Jm i ws' y).ext mz.lt (fun k hk=>p6 (by omega))
  ·rw [<- E7,<- o9];exact Jz
theorem dv.less {C:Addr}{S S':Addr->Prop}{H:Hp}{x dx ll fc fw:Addr}{m:Nat}{P:List MF.Pr}{s:Nat}{aJ:List Nat}{aU aD:List Addr}{dk:List (List Nat)}{fh:List (List (List Nat))} (h:dv C S H x dx ll fc fw m P s aJ aU aD dk fh) (hl:S' ll) (hs:∀ b,S' b->S b):dv C S' H x dx ll fc fw m P s aJ aU aD dk fh :=
 ⟨h.at_,h.nf,hl,fun b hb=>h.tD b (hs b hb),h.len,h.wl,h.cl,h.sl,h.low,fun i c C hc hC=>⟨(h.cut i c C hc hC).1,fun z=>(h.cut i c C hc hC).2 (hs _ z)⟩,fun i w ws hw oN=>by
  obtain ⟨us,h1,h2,h3⟩:=h.way i w ws hw oN
  exact ⟨us,h1,fun z=>h2 (hs _ z),fun u hu z=>h3 u hu (hs _ z)⟩,h.m5,h.Jm⟩
theorem Zu {v:Nat}{r:List Nat}:jm ((v :: r).map nv) 0=some (nv v):=by
 rw [rP .non (by omega) (by rw [Zsh,ZsB];omega)]
 rfl
theorem Mx:∀ l:List Nat,(cX l).map Zuc=l
 | []=>rfl
 | x :: r=>by
  show (Zuc (x:Int)) :: (cX r).map Zuc=x :: r
  rw [Mx r,Zua]
theorem Wa {xs ys:List Nat} (h:cX xs=cX ys):xs=ys:=by rw [<- Mx xs,h,Mx]
theorem dv.mono {C:Addr}{S:Addr->Prop}{H:Hp}{x dx ll fc fw:Addr}{m:Nat}{P:List MF.Pr}{s:Nat}{aJ:List Nat}{aU aD:List Addr}{dk:List (List Nat)}{fh:List (List (List Nat))} (h:dv C S H x dx ll fc fw m P s aJ aU aD dk fh):∀ y,y<m+1+aU.length->∀ l∈aZ (dM m P) y,aJ.getD l 0<=aJ.getD y 0:=by
 intro y hy l hl
 obtain ⟨j,p,rfl,hp,_⟩:=Jg hl
 have hj:j<dk.length:=by have:=h.cl;omega
 exact (h.m5 j _ (Zsn hj)).mono l hl
noncomputable def Uk (a:bZ) (_:ZrF):Sp:=fun vs H Q _=>∃ (S:Addr->Prop) (x dx ll fc fw mp ip:Addr) (rs:List Addr) (m s:Nat) (P:List MF.Pr) (aJ:List Nat) (aU aD:List Addr) (dk:List (List Nat)) (fh:List (List (List Nat))),vs=[.ref x,.ref mp,.ref ip,.int s]/\dv a.ae S H x dx ll fc fw m P s aJ aU aD dk fh/\aU.length<P.length/\MF.Ok m P/\m+1+P.length<=32/\2<=s/\s<=6/\bz H mp rs (dM m P)/\mp≠ll/\(∀ r∈rs,¬ S r)/\H ip=some (.lst ((MF.ku m P (m+1+aU.length)).map nv)) /\
 ∀ H' lvs' cas' was' css' wss',mP ll fc fw H H'->dv a.ae S H' x dx ll fc fw m P s lvs' cas' was' css' wss'->cas'.length=aU.length+1->Q .non H'
noncomputable def Pa (a:bZ) (K:ZrF):TS:=(aI (bV (ax (eL K) (aa 2) (vT xu (tC (.int 1)))) (aC 4))
  (aI (bV (ax (eL K) (aa 1) (aa 4)) (aC 5))
  (aI (bV (cH (Ax K) (ah (eN (eU K (aa 5)) 1 [0] (aC 0) gr (ax (eL K) (fG K (aa 1) "levels") (aa 0))) ar)) (aC 6))
  (aI (du (bW (ax (jS K) (aa 6) (tC (.int 0)))) (aI (ix (d9 a.ae "keep" (Jc a K) [] E0 (aa 0) (ah (aa 4) (ah (tC (.int 1)) (ah (aa 5) (ah (jo ar) ar))))))
  OJ) dQ)
  (aI (bV (eN (eU K (aa 2)) 1 [4,0,6] (aC 0) (ki (bW (ax (jS K) (aa 0) (aa 1))) (bW (ax (jS K) (ax (eL K) (fG K (aa 2) "levels") (aa 0)) (aa 3)))) (aa 0)) (aC 7))
  (aI (bV (cB (VH a K) [] E0 (ah (aa 1) (ah (aa 7) (ah (aa 3) ar)))) (aC 8))
  (du (bW (ax xU (ax (eL K) (aa 8) (tC (.int 1))) (tC .non))) (ix (d9 a.ae "keep" (Jc a K) [] E0 (aa 0) (ah (aa 4) (ah (ax iJ (aa 6) (tC (.int 1))) (ah (aa 5) (ah (ax (eL K) (aa 8) (tC (.int 0))) ar)))))) (aI (bV (eN (eU K (aa 5)) 1 [0,6] (aC 0) (bW (ax (jS K) (ax (eL K) (fG K (aa 1) "levels") (aa 0)) (aa 2))) (aa 0)) (aC 9))
  (ix (d9 a.ae "keep" (Jc a K) [] E0 (aa 0) (ah (aa 4) (ah (aa 6) (ah (ax (eL K) (aa 8) (tC (.int 1))) (ah (lO (fG K (aa 0) "found_ways") (ax (eL K) (aa 9) (tC (.int 0)))) ar))))))))))))))
theorem W3 (T:Txt K mg a):TM P w K mg base 4 "Labels.settle" sG Hg a.cP (Pa a K) :=
 fun hr=>(aK (cA (i:=4) wA.nd rfl (by walk_at "o") (fB fC (cv 2) (Ft AU aH) (fun _ _=>rfl)))
   (aK (cA (i:=5) wA.nd rfl (by walk_at "o") (fB fC (cv 1) (cv 4) (fun _ _=>rfl)))
   (aK (cA (i:=6) wA.nd rfl (by walk_at "o") (eV (II rfl) (by rfl) T.i8 PyProof.Rows.boot_max (ai (jl (N:=["lower","self"]) (k:=1) (sel:=[0]) (az.of (aW sG).names (by decide +kernel)) (aF.of Hg (by decide +kernel)) rfl (gw (cv 5)) (fun _ _ _ _=>(cj (i:=0) (show Zsv (["lower","self"]:List Str) by decide +kernel) rfl (by walk_at "o"))) (fun _ _ _ _=>jq) (fun _ _ _ _=>(fB fC (fU (cv 1) rfl) (cv 0) (fun _ _=>rfl)))) aw)))
   (aK (dJ (cW (kr (i4 hr)) (cv 6) aH (cU _)) (aK (i0 (kB (cv 0) T.ay T.bq.e (Md T) (hm hr) T.bq.b .nil bE (ai (cv 4) (ai aH (ai (cv 5) (ai (kC aw) aw))))))
   (aL X2)) eE)
   (aK (A6 (i:=7) (N:=["lower","knot","self","greatest"]) (k:=1) (sel:=[4,0,6]) (az.of (aW sG).names (by decide +kernel)) (aF.of Hg (by decide +kernel)) rfl (gw (cv 2)) (fun _ _ _ _=>(cj (i:=0) (show Zsv (["lower","knot","self","greatest"]:List Str) by decide +kernel) rfl (by walk_at "o"))) (fun _ _ _ _=>(Ap (PW.pt (kX (cW (kr (i4 hr)) (cv 0) (cv 1) (cU _)) (nj (cW (kr (i4 hr)) (fB fC (fU (cv 2) rfl) (cv 0) (fun _ _=>rfl)) (cv 3) (cU _))))))) (fun _ _ _ _=>(cv 0)) wA.nd rfl (by walk_at "o") rfl)
   (aK (cA (i:=8) wA.nd rfl (by walk_at "o") (cK T.mG (ZoX T) (hm hr) lC (ai (cv 1) (ai (cv 7) (ai (cv 3) aw)))))
   (aL (dJ (cW oX (fB fC (cv 8) aH (fun _ _=>rfl)) ml (cU _)) (aL (i0 (kB (cv 0) T.ay T.bq.e (Md T) (hm hr) T.bq.b .nil bE (ai (cv 4) (ai (aX jr (cv 6) aH) (ai (cv 5) (ai (fB fC (cv 8) aH (fun _ _=>rfl)) aw))))))) (aK (A6 (i:=9) (N:=["lower","self","greatest"]) (k:=1) (sel:=[0,6]) (az.of (aW sG).names (by decide +kernel)) (aF.of Hg (by decide +kernel)) rfl (gw (cv 5)) (fun _ _ _ _=>(cj (i:=0) (show Zsv (["lower","self","greatest"]:List Str) by decide +kernel) rfl (by walk_at "o"))) (fun _ _ _ _=>(Ap (cW (kr (i4 hr)) (fB fC (fU (cv 1) rfl) (cv 0) (fun _ _=>rfl)) (cv 2) (cU _)))) (fun _ _ _ _=>(cv 0)) wA.nd rfl (by walk_at "o") rfl)
   (aL (i0 (kB (cv 0) T.ay T.bq.e (Md T) (hm hr) T.bq.b .nil bE (ai (cv 4) (ai (cv 6) (ai (fB fC (cv 8) aH (fun _ _=>rfl)) (ai (nh (eG hr) (fU (cv 0) rfl) (fB fC (cv 9) aH (fun _ _=>rfl)) (fun _ _=>rfl)) aw))))))))))))))))
theorem Wj (T:Txt K mg a):aG P w K mg base dw 5 a.cP a.eK ["self","maze","inner","size"] (Uk a K):=by
 refine T.cR.n.dO wA (W3 T) (fun vs H Q E h=>?_) (fun H vs Q E h=>?_)
 ·obtain ⟨S0,x,dx,ll,fc,fw,mp,ip,rs,m,s,P,aJ,aU,aD,dk,fh,rfl,_⟩:=h;rfl
 ·obtain ⟨S0,x,dx,ll,fc,fw,mp,ip,rs,m,s,P',aJ,aU,aD,dk,fh,rfl,hL,bw,ok,hn,s2,s6,hM,Kg,Mw,hI,q⟩:=h
  show Pa a K _ [some (.ref x),some (.ref mp),some (.ref ip),some (.int s),none,none,none,none,none,none] H
  unfold Pa
  have big:(20000:Nat)<=sizeLine:=by decide
  have mz:=zX ok
  have hlen:=hL.len
  have hN:m+1+aU.length<1+m+P'.length:=by omega
  obtain ⟨cv,hcv⟩:=Zob ok hN
  have hI':=hI
  rw [hcv] at hI'
  obtain ⟨p,hp⟩:∃ p,P'[aU.length]? = some p:=⟨_,Zsn bw⟩
  obtain ⟨o1,o2,o3,o4⟩:=ok _ _ hp
  have oo:=ue (m:=m) hp
  obtain ⟨r,hr1,hr2⟩:=hM.get (i:=m+1+aU.length) (by rw [sg];omega)
  rw [oo] at hr2
  obtain ⟨lowa,hla⟩:∃ l:Nat,l=(p.1 / 2).toNat:=⟨_,rfl⟩
  obtain ⟨lowb,BX⟩:∃ l:Nat,l=(p.2 / 2).toNat:=⟨_,rfl⟩
  rw [<- hla,<- BX] at hr2 oo
  have la:lowa<m+1+aU.length:=by omega
  have lb:lowb<m+1+aU.length:=by omega
  have m5:lowa<lowb:=by omega
  walk_at "gs"
  refine ⟨_,_,.inl (.of hI'),LZ,?_⟩
  generalize hNN:m+1+aU.length=N at *
  unfold nv
  walk_at "gs"
  refine ⟨_,_,.inl (.of hM.lst),hr1,?_⟩
  walk_at "gs"
  refine ⟨⟨_,.of hr2⟩,qN (fun v=>match v with | .int l=>nv (aJ.getD l.toNat 0) | _=>.non) (.of hr2) rfl (by rw [Zsh];show 2<=_;omega) ?_ ?_⟩
  ·intro v H' Q' hv s' q'
   obtain ⟨l,hl,rfl⟩:=Zsi.mp hv
   have hl':l<aJ.length:=by
    rcases Zst.mp hl with z | z
    ·omega
    ·rw [Zsl] at z;omega
   have q':Q' (nv (aJ.getD l 0)) H':=q'
   unfold nv
   walk_at "gs"
   exact ⟨x,a.ae,dx,_,_,rfl,s' _ _ hL.at_.ins,T.ay,T.aP,rfl,_,_,.inl (.of (s' _ _ hL.at_.lst)),IT hl',q'⟩
  intro l1 H1 n1
  have zT:=hL.same n1.same
  have hM1:=hM.same n1.same
  have VU:=n1.same _ _ hI
  refine ⟨[(aJ.getD lowa 0:Nat),(aJ.getD lowb 0:Nat)],.of n1.at_,by simp,fun M hMm hMx=>?_⟩
  obtain ⟨g,rfl⟩:∃ g:Nat,M=g:=by
   rcases Zst.mp hMm with z | z
   ·exact ⟨_,z⟩
   ·rw [Zsl] at z;exact ⟨_,z⟩
  have ga:aJ.getD lowa 0<=g:=by have:=hMx _ (ZsJ ..);omega
  have gb:aJ.getD lowb 0<=g:=by have:=hMx _ (ZsD _ (Zsl.mpr rfl));omega
  have gg:aJ.getD lowa 0=g\/aJ.getD lowb 0=g:=by
   rcases Zst.mp hMm with z | z
   ·exact .inl (by omega)
   ·rw [Zsl] at z;exact .inr (by omega)
  have gK:aZ (dM m P') N≠[]:=by rw [oo];simp
  have rT:(aZ (dM m P') N).Pairwise (· < ·):=by rw [oo];simpa using m5
  have iE:(aZ (dM m P') N).length<=s:=by rw [oo];exact s2
  have zW:∀ gv:Nat,∀ l∈aZ (dM m P') N,(aJ ++ [gv]).getD l 0<=g:=fun gv l hl=>by
   rw [oo] at hl
   rcases Zst.mp hl with z | z
   ·subst z;rw [p6 (by omega)];exact ga
   ·rw [Zsl] at z;subst z;rw [p6 (by omega)];exact gb
  have oV:∀ gv:Nat,∀ y,y<N->∀ l∈aZ (dM m P') y,(aJ ++ [gv]).getD l 0<=(aJ ++ [gv]).getD y 0:=fun gv y hy l hl=>by
   have:=mz.lt y l hl
   rw [p6 (by omega),p6 (by omega)]
   exact hL.mono y (by omega) l hl
  have AH:∀ gv:Nat,(aJ ++ [gv]).getD N 0=gv:=fun gv=>ZjW (by omega)
  have nl:∀ {b:Addr},¬ S0 b->b≠ll:=fun nb e=>nb (e ▸ hL.HB)
  have nrl':¬ S0 r:=by
   have hi:N<rs.length:=by rw [hM.len,sg];omega
   rw [rP .non (by omega) (by rw [Zsh];omega),Zua,Zsy,Zsu,Zsn hi] at hr1
   have:rs[N]=r:=by simpa using hr1
   rw [<- this]
   exact Mw _ (ZsV hi)
  by_cases h0:(g:Int)=0
  ·rw [if_pos h0]
   have g0:g=0:=by omega
   subst g0
   refine ⟨x,dx,_,rfl,zT.at_.ins,rfl,by show 0<=sizeLine;omega,fun wp H2 n2=>?_⟩
   have pY:=zT.same n2.same
   have jV:=n1.same.trans n2.same
   refine ⟨x,dx,ll,fc,fw,r,wp,m,N,1,aJ,aU,aD,rfl,pY.at_,hNN.symm,hL.wl,by omega,by omega,hL.nf,fun H3 u3 h3=>?_⟩
   have Fc:¬ S0 wp:=fun z=>by obtain ⟨o,ho⟩:=zT.tD wp z;rw [n2.aD] at ho;cases ho
   have tO:=u3.lst pY.at_.gu pY.at_.fN (jV _ _ hr2) (nl nrl')
   have YS:=u3.lst pY.at_.gu pY.at_.fN n2.at_ (nl Fc)
   refine q H3 _ _ _ _ _ ((Il jV).trans u3) (dv.more (Cn:=[lowa,lowb]) (ws:=[]) pY ok u3 h3 tO nrl' ⟨[],⟨YS,rfl,fun i r y hr=>by simp at hr⟩,Fc,fun u hu=>by simp at hu⟩ ?_ ?_) (by rw [Zsm];rfl)
   ·rw [hNN,<- oo]
    exact ML.Zq7 mz.lt gK rT iE (fun l hl=>by have:=zW 1 l hl;omega) (AH 1)
   ·rw [hNN]
    exact .inl ⟨AH 1,rfl⟩
  rw [if_neg h0]
  obtain ⟨gs,hgs⟩:∃ gs,gs=(MF.ku m P' N).filter fun k=>decide (k=N\/aJ.getD k 0=g):=⟨_,rfl⟩
  have Uy:∀ z,z∈gs ↔ z=N\/(ML.Dn (aZ (dM m P')) N z/\aJ.getD z 0=g):=fun z=>by
   rw [hgs,ZsS,decide_eq_true_iff,Lf ok hN]
   constructor
   ·rintro ⟨h1,h2 | h2⟩
    ·exact .inl h2
    ·exact .inr ⟨h1,h2⟩
   ·rintro (rfl | ⟨h1,h2⟩)
    ·exact ⟨.here,.inl rfl⟩
    ·exact ⟨h1,.inr h2⟩
  refine ⟨⟨_,.of VU⟩,Hd (rest:=[some (.int (N:Nat)),some (.ref x),some (.int (g:Nat))]) (fun v=>match v with | .int e=>decide (e.toNat=N\/aJ.getD e.toNat 0=g) | _=>false) id (.of VU) rfl (by rw [Zsh];have:=W2 m P' N;omega) ?_ ?_ ?_⟩
  ·intro v H' Q' hv s' q'
   obtain ⟨e,he,rfl⟩:=Zsi.mp hv
   have hle:=((Lf ok hN).mp he).le mz.lt
   have q':Q' (decide (e=N\/aJ.getD e 0=g)) H':=q'
   unfold nv
   walk_at "gs"
   by_cases hen:(e:Int)=(N:Int)
   ·rw [if_pos hen]
    rw [decide_eq_true (.inl (by omega))] at q'
    exact q'
   ·rw [if_neg hen]
    rw [show decide (e=N\/aJ.getD e 0=g)=decide ((aJ.getD e 0:Int)=(g:Int)) by rw [decide_eq_decide];omega] at q'
    exact ⟨x,a.ae,dx,_,_,rfl,s' _ _ zT.at_.ins,T.ay,T.aP,rfl,_,_,.inl (.of (s' _ _ zT.at_.lst)),IT (by omega),q'⟩
  ·intro v H' Q' hv _ s' q'
   walk_at "gs"
   exact q'
  intro gp H2 n2
  have e2:(((MF.ku m P' N).map nv).filter fun v=>match v with | .int e=>decide (e.toNat=N\/aJ.getD e.toNat 0=g) | _=>false).map id=(cX gs).map V.int:=by
   rw [Zs5,Ztd,zY,hgs]
   rfl
  rw [e2] at n2
  have pY:=zT.same n2.same
  have RW:=hM1.same n2.same
  have jV:=n1.same.trans n2.same
  have aB:AG (dM m P') (cX gs):=fun z hz=>by
   obtain ⟨k,hk,rfl⟩:=Zsi.mp hz
   have hkN:m<k/\k<=N:=by
    rcases (Uy k).mp hk with rfl | ⟨h1,h2⟩
    ·omega
    ·refine ⟨ZtV fun z=>?_,h1.le mz.lt⟩
     have:=hL.low k z
     omega
   refine ⟨by omega,by rw [sg];omega,?_⟩
   rw [Zua]
   obtain ⟨j,rfl⟩:∃ j,k=m+1+j:=⟨k - m - 1,by omega⟩
   rw [ue (Zsn (show j<P'.length by omega))]
   simp
  refine ⟨mp,gp,rs,dM m P',cX gs,s,rfl,RW,n2.at_,mz,by rw [sg];omega,by omega,fun gs' tp wl v us ss ws as H3 egs _ s3 ft Jl fus fsl AF told=>?_,fun kd=>absurd aB kd⟩
  rw [<- Wa egs] at told
  have qq:=pY.same s3
  have zN:=RW.same s3
  have iQ:=jV.trans s3
  have Fc:¬ S0 wl:=fun z=>by obtain ⟨o,ho⟩:=pY.tD wl z;rw [Jl] at ho;cases ho
  have To:∀ u∈us,¬ S0 u:=fun u hu z=>by obtain ⟨o,ho⟩:=pY.tD u z;rw [fus u hu] at ho;cases ho
  have LY:∀ p,MZ.aO as p≠none->p<(dM m P').length:=fun p hp=>told.bd p (MZ.qV.mp hp)
  have mI:∀ gv:Nat,∀ z,nI gs z ↔ z=N\/(ML.Dn (aZ (dM m P')) N z/\(aJ ++ [gv]).getD z 0=g):=fun gv z=>by
   refine (Uy z).trans ?_
   constructor
   ·rintro (h1 | ⟨h1,h2⟩)
    ·exact .inl h1
    ·by_cases e:z=N
     ·exact .inl e
     ·have:=h1.le mz.lt
      exact .inr ⟨h1,by rw [p6 (by omega)];exact h2⟩
   ·rintro (h1 | ⟨h1,h2⟩)
    ·exact .inl h1
    ·by_cases e:z=N
     ·exact .inl e
     ·have:=h1.le mz.lt
      rw [p6 (by omega)] at h2
      exact .inr ⟨h1,h2⟩
  refine ⟨_,_,.inr (.of AF),rfl,?_⟩
  rcases told.rest with ⟨rfl,hss⟩ | ⟨sl,es,cs,rfl,E7,nsw,nsu,sk,hes,hem,hss⟩
  ·rw [if_pos rfl]
   refine ⟨x,dx,_,rfl,qq.at_.ins,rfl,?_⟩
   refine ⟨_,_,.inr (.of AF),rfl,?_⟩
   refine ⟨x,dx,ll,fc,fw,r,wl,m,N,g+1,aJ,aU,aD,rfl,qq.at_,hNN.symm,hL.wl,by omega,by omega,hL.nf,fun H4 u4 h4=>?_⟩
   have Wb:=u4.lst qq.at_.gu qq.at_.fN (iQ _ _ hr2) (nl nrl')
   refine q H4 _ _ _ _ _ ((Il iQ).trans u4) (dv.more (Cn:=[lowa,lowb]) (ws:=ws) qq ok u4 h4 Wb nrl' ⟨us,told.fN.Gk u4 qq.at_.gu qq.at_.fN (nl Fc) (fun u hu=>nl (To u hu)),Fc,To⟩ ?_ ?_) (by rw [Zsm];rfl)
   ·rw [hNN,<- oo]
    exact ML.Zx mz.lt gK rT iE (oV (g+1)) (zW (g+1)) (AH (g+1)) told.qS (fun z hz=>(mI (g+1) z).mp hz) LY (HU told.jD) told.mem hss
   ·rw [hNN]
    have e1:=AH (g+1)
    refine .inr ⟨by show 2<=(aJ ++ [g+1]).getD N 0;omega,by rw [told.len,hss],nI gs,MZ.aO as,ss,told.qS,fun z hz=>?_,fun c hc=>?_,told.jD,told.mem,told.len,told.way⟩
    ·rcases (mI (g+1) z).mp hz with rfl | ⟨h1,h2⟩
     ·exact ⟨.here,by omega⟩
     ·exact ⟨h1,by show (aJ ++ [g+1]).getD N 0<=(aJ ++ [g+1]).getD z 0+1;omega⟩
    ·have:=ML.MY mz.lt gK (oV (g+1)) (zW (g+1)) told.qS (mI (g+1)) LY hc
     exact ⟨this.1,by show (aJ ++ [g+1]).getD c 0+2<=(aJ ++ [g+1]).getD N 0;omega⟩
  ·rw [if_neg (by simp)]
   walk_at "gs"
   have tO:=iQ _ _ hr2
   refine ⟨⟨_,.of tO⟩,Hd (rest:=[some (.ref x),some (.int (g:Nat))]) (fun v=>match v with | .int e=>decide (aJ.getD e.toNat 0=g) | _=>false) id (.of tO) rfl (by rw [Zsh];show 2<=_;omega) ?_ ?_ ?_⟩
   ·intro v H' Q' hv s' q'
    obtain ⟨l,hl,rfl⟩:=Zsi.mp hv
    have hl':l<aJ.length:=by
     rcases Zst.mp hl with z | z
     ·omega
     ·rw [Zsl] at z;omega
    have q':Q' (decide (aJ.getD l 0=g)) H':=q'
    unfold nv
    walk_at "gs"
    rw [show decide (aJ.getD l 0=g)=decide ((aJ.getD l 0:Int)=(g:Int)) by rw [decide_eq_decide];omega] at q'
    exact ⟨x,a.ae,dx,_,_,rfl,s' _ _ qq.at_.ins,T.ay,T.aP,rfl,_,_,.inl (.of (s' _ _ qq.at_.lst)),IT hl',q'⟩
   ·intro v H' Q' hv _ s' q'
    walk_at "gs"
    exact q'
   intro sp H4 n4
   have e4:(([lowa,lowb].map nv).filter fun v=>match v with | .int e=>decide (aJ.getD e.toNat 0=g) | _=>false).map id=([lowa,lowb].filter fun e=>decide (aJ.getD e 0=g)).map nv:=by
    rw [Zs5,Ztd]
    rfl
   rw [e4] at n4
   obtain ⟨l,rest,JX⟩:∃ l rest,([lowa,lowb].filter fun e=>decide (aJ.getD e 0=g))=l :: rest:=by
    cases e:[lowa,lowb].filter fun e=>decide (aJ.getD e 0=g) with
    | cons l rest=>exact ⟨l,rest,rfl⟩
    | nil =>
     have:=List.filter_eq_nil_iff.mp e
     rcases gg with z | z
     ·exact absurd (decide_eq_true z) (this lowa (by simp))
     ·exact absurd (decide_eq_true z) (this lowb (by simp))
   rw [JX] at n4
   obtain ⟨MT,HV⟩:=ZsS.mp (show l∈[lowa,lowb].filter fun e=>decide (aJ.getD e 0=g) by rw [JX];exact ZsJ ..)
   rw [decide_eq_true_iff] at HV
   have hlN:l<N:=by
    rcases Zst.mp MT with z | z
    ·omega
    ·rw [Zsl] at z;omega
   have Uq:m<l:=ZtV fun z=>by have:=hL.low l z;omega
   obtain ⟨i,rfl⟩:∃ i,l=m+1+i:=⟨l - m - 1,by omega⟩
   have hi:i<aD.length:=by have:=hL.wl;omega
   obtain ⟨wss',hws'⟩:∃ w,fh[i]? = some w:=⟨_,Zsn (by have:=hL.sl;omega)⟩
   obtain ⟨C',hC'⟩:∃ C,dk[i]? = some C:=⟨_,Zsn (by have:=hL.cl;have:=hL.wl;omega)⟩
   have hv:bC (gN (m+1) aD) (.inl ((m+1+i:Nat):Int))=some (.ref aD[i]):=by
    rw [Hw,if_pos (by omega),show (((m+1+i:Nat):Int) - ((m+1:Nat):Int)).toNat=i by omega,Zsn hi]
    rfl
   have qG:=qq.same n4.same
   obtain ⟨us',hW4,nw4,nu4⟩:=qG.way i _ _ (Zsn hi) hws'
   have g4:=eB.k (k:=.inl ((m+1+i:Nat):Int)) qG.at_.fN
   rw [hv] at g4
   refine ⟨x,dx,_,rfl,qG.at_.ins,rfl,_,_,.inr (.of (n4.same _ _ AF)),rfl,x,a.ae,dx,_,_,rfl,qG.at_.ins,T.ay,T.bJ,rfl,_,_,.inl (.of n4.at_),Zu,fw,_,rfl,g4,?_⟩
   refine ⟨x,dx,ll,fc,fw,sl,aD[i],m,N,g,aJ,aU,aD,rfl,qG.at_,hNN.symm,hL.wl,by omega,by omega,hL.nf,fun H5 u5 h5=>?_⟩
   have U9:¬ S0 sl:=fun z=>by obtain ⟨o,ho⟩:=pY.tD sl z;rw [fsl sl rfl] at ho;cases ho
   have O0:=u5.lst qG.at_.gu qG.at_.fN (n4.same _ _ E7) (nl U9)
   have S:=Rg sk
   have ev:∀ e∈es,e=2 * (e / 2)/\MZ.qu (fun e=>e∈MZ.keys cs) (e / 2):=fun e he=>by
    obtain ⟨a1,a2⟩:=(hem e).mp he
    have e2:e=2 * (e / 2):=by
     rcases (by omega:e=2 * (e / 2)\/e=2 * (e / 2)+1) with z | z
     ·exact z
     ·exact absurd (z ▸ a1) a2
    exact ⟨e2,by show 2 * (e / 2)∈MZ.keys cs;rw [<- e2];exact a1,a2⟩
   have rB:(es.map fun e:Nat=>e / 2).Pairwise (· < ·):=by
    refine Ztq.mpr (hes.imp_of_mem fun {a b} ha hb gO=>?_)
    have:=(ev a ha).1
    have:=(ev b hb).1
    omega
   have mB:∀ p,p∈(es.map fun e:Nat=>e / 2) ↔ MZ.qu (fun e=>e∈MZ.keys cs) p:=fun p=>by
    rw [Zsi]
    constructor
    ·rintro ⟨e,he,rfl⟩
     exact (ev e he).2
    ·intro st
     refine ⟨2 * p,(hem _).mpr ⟨st.1,?_⟩,by omega⟩
     rw [show 2 * p / 2=p by omega]
     exact st.2
   have Ij:∀ k,k<=m+1+i->(aJ ++ [g]).getD k 0=aJ.getD k 0:=fun k hk=>p6 (by omega)
   have hlo':m+1+i∈aZ (dM m P') N:=by rw [oo];exact MT
   refine q H5 _ _ _ _ _ ((Il (iQ.trans n4.same)).trans u5) (dv.more (Cn:=es.map fun e:Nat=>e / 2) (ws:=wss') qG ok u5 h5 O0 U9 ⟨us',hW4.Gk u5 qG.at_.gu qG.at_.fN (nl nw4) (fun u hu=>nl (nu4 u hu)),nw4,nu4⟩ ?_ ?_) (by rw [Zsm];rfl)
   ·rw [hNN]
    exact ML.Zo7 mz.lt gK (oV g) (zW g) (AH g) told.qS (mI g) LY (HU told.jD) told.mem hss S rB mB hlo' ((Ij _ (ZtJ _)).trans HV) ((hL.m5 i C' hC').ext mz.lt Ij (fun k=>Qm))
   ·rw [hNN]
    exact ((hL.Jm i wss' hws').ext mz.lt Ij).up hlo' (by show (aJ ++ [g]).getD N 0=(aJ ++ [g]).getD (m+1+i) 0;rw [AH,Ij _ (ZtJ _),HV])
noncomputable def Jf (a:bZ) (K:ZrF):Sp:=fun vs H Q E=>∃ (x dx f mQ pl kl:Addr) (v:V) (m:Nat) (es:List En),vs=[.ref x,.ref f,v]/\H x=some (.ins a.ae dx [])/\aS a.af H f m es mQ pl kl/\MF.Ok m (aA es)/\m<=10/\m+1+es.length<=32/\qT H v /\
 (∀ s:Nat,v=.int s->2<=s->s<=6->∀ H' ll fc fw aJ aU aD dk fh,(∀ b o,b≠x->H b=some o->H' b=some o)->H ll=none->H fc=none->H fw=none->dv a.ae (fun b=>b=ll\/∃ o,H b=some o) H' x dx ll fc fw m (aA es) s aJ aU aD dk fh->aU.length=es.length->Q .non H')/\(yV v=false->∀ e,H e=none->E (.ref e) (some a.eZ) H)
noncomputable def JE (a:bZ) (K:ZrF) (E:XK):TS:=(aI (ix (cB (VZ a K) [] E (ah (aa 2) ar)))
  (aI (pE K (aa 0) (ax Hx (jo (ah (tC (.int 0)) ar)) (ax iJ (fG K (aa 1) "many") (tC (.int 1)))) "levels")
  (aI (pE K (aa 0) rC "found_cuts")
  (aI (pE K (aa 0) rC "found_ways")
  (aI (bV (cB (SU a K) [] E0 (ah (aa 1) ar)) (aC 3))
  (fP (sh (ah (ax iJ (fG K (aa 1) "many") (tC (.int 1))) (ah (d9 a.af "total" (mK a K) [] E0 (aa 1) ar) ar))) (aC 4) (ix (d9 a.ae "settle" (Uk a K) [] E0 (aa 0) (ah (aa 3) (ah (cB (JH a K) [] E0 (ah (aa 1) (ah (aa 4) ar))) (ah (aa 2) ar)))))))))))
theorem Zfc (T:Txt K mg a):TX P w K mg base 5 "Labels.__init__" Du Qu a.bH (JE a K) :=
 fun hr=>(aK (i0 (JL (Y5 T) (hm hr) rfl T.dA.m T.dA.n.kp T.dA.b .nil (K1 pA) (ai (cv 2) aw)))
   (aK (rL (cv 0) (aX QU (kC (ai aH aw)) (aX jr (fU (cv 1) rfl) aH)) rfl)
   (aK (rL (cv 0) zZ rfl)
   (aK (rL (cv 0) zZ rfl)
   (aK (cA (i:=3) Mi.nd rfl (by walk_at "o") (cK T.jP (Zmh T) (hm hr) bE (ai (cv 1) aw)))
   (aL (PS.qA (jn PassesOwn.never rfl (IH rfl T.bu (ai (aX jr (fU (cv 1) rfl) aH) (ai (kz (cv 1) T.av T.aj.e (ny T) (hm hr) T.aj.b .nil bE) aw))) (cj (i:=4) Mi.nd rfl (by walk_at "o")) (aL (i0 (kB (cv 0) T.ay T.cR.e (Wj T) (hm hr) T.cR.b .nil bE (ai (cv 3) (ai (cK T.lN (QK T) (hm hr) lC (ai (cv 1) (ai (cv 4) aw))) (ai (cv 2) aw))))))))))))))
theorem Rm (T:Txt K mg a):aG P w K mg base (gZ P w) 6 a.bH a.dy ["self","fold","size"] (Jf a K):=by
 refine T.cx.n.iO Mi (Zfc T) (fun vs H Q E h=>?_) (fun H vs Q E h=>?_)
 ·obtain ⟨x,dx,f,mQ,pl,kl,v,m,es,rfl,_⟩:=h;rfl
 ·obtain ⟨x,dx,f,mQ,pl,kl,v,m,es,rfl,hx,hf,ok,hm,hn,hv,q1,q0⟩:=h
  show JE a K E _ [some (.ref x),some (.ref f),some v,none,none] H
  unfold JE
  have big:(20000:Nat)<=sizeLine:=by decide
  have mr:(aA es).length=es.length:=Zsh ..
  walk_at "gs"
  refine ⟨v,rfl,hv,fun hs=>?_,q0⟩
  obtain ⟨s,rfl,s2,s6⟩:∃ s:Nat,v=.int s/\2<=s/\s<=6:=by
   unfold yV zO at hs
   split at hs
   ·rename_i i
    have:=of_decide_eq_true hs
    exact ⟨i.toNat,by congr 1;omega,by omega,by omega⟩
   ·cases hs
  have q:=q1 s rfl s2 s6
  walk_at "gs"
  intro z1 H1 n1
  have f1:=hf.same n1.same
  refine ⟨f,a.af,mQ,_,_,rfl,f1.ins,T.av,T.aN,rfl,?_⟩
  refine ⟨_,n1.at_,by omega,by omega,by show 1 * _<=_;omega,fun ll H2 n2=>?_⟩
  have e2:(Zsp ((m:Int)+1).toNat [V.int 0]).flatten=(Zsp (m+1) 0).map nv:=by
   rw [QD,show ((m:Int)+1).toNat=m+1 by omega,List.map_replicate]
   rfl
  rw [e2] at n2
  have jV:=n1.same.trans n2.same
  have fl:H ll=none:=n1.same.nil n2.aD
  have x2:=jV _ _ hx
  have hfx:f≠x:=fun z=>by
   have:=hf.ins
   rw [z,hx] at this
   simp at this
  refine ⟨x,a.ae,dx,[],rfl,x2,T.ay,T.aP,by decide,fun fc H3 n3=>?_⟩
  have LR:ll≠x:=(cn hx fl).symm
  have L9:fc≠x:=fun e=>by have:=n3.aD;rw [e,bR] at this;cases this
  have JJ:H fc=none:=by
   have:=n3.aD
   rw [aE L9] at this
   exact jV.nil this
  have x3:H3 x=some (.ins a.ae dx (cL "levels" (.ref ll) [])):=n3.same _ _ bR
  have u3:∀ b o,b≠x->H2 b=some o->H3 b=some o:=fun b o nb e=>n3.same _ _ (by rw [aE nb];exact e)
  refine ⟨x,a.ae,dx,_,rfl,x3,T.ay,T.bj,by have:=ph "levels" (.ref ll) [];simp only [ZsH] at this;omega,?_⟩
  walk_at "gs"
  intro fw H4 n4
  have OQ:fw≠x:=fun e=>by have:=n4.aD;rw [e,bR] at this;cases this
  have Jl:H3 fw=none:=by
   have:=n4.aD
   rw [aE OQ] at this
   exact this
  have NH:H fw=none:=by
   cases e:H fw with
   | none=>rfl
   | some o=>have:=u3 _ _ OQ (jV _ _ e);rw [Jl] at this;cases this
  have nf:fc≠fw:=cn n3.at_ Jl
  have x4:H4 x=some (.ins a.ae dx (cL "found_cuts" (.ref fc) (cL "levels" (.ref ll) []))):=n4.same _ _ bR
  have u4:∀ b o,b≠x->H3 b=some o->H4 b=some o:=fun b o nb e=>n4.same _ _ (by rw [aE nb];exact e)
  refine ⟨x,a.ae,dx,_,rfl,x4,T.ay,T.bJ,by have h7:=ph "levels" (.ref ll) [];have h8:=ph "found_cuts" (.ref fc) (cL "levels" (.ref ll) []);simp only [ZsH] at h7;omega,?_⟩
  have e5:cL "found_ways" (.ref fw) (cL "found_cuts" (.ref fc) (cL "levels" (.ref ll) []))=([("levels",V.ref ll),("found_cuts",V.ref fc),("found_ways",V.ref fw)]:List (Str × V)):=by
   have z1:¬ ("levels" : Str) = "found_cuts":=by decide +kernel
   have z2:¬ ("levels" : Str) = "found_ways":=by decide +kernel
   have z3:¬ ("found_cuts" : Str) = "found_ways":=by decide +kernel
   simp [cL,z1,z2,z3]
  rw [e5]
  have x5:upd H4 x (.ins a.ae dx [("levels",V.ref ll),("found_cuts",V.ref fc),("found_ways",V.ref fw)]) x=some (.ins a.ae dx [("levels",V.ref ll),("found_cuts",V.ref fc),("found_ways",V.ref fw)]):=bR
  have u5:∀ b o,b≠x->H4 b=some o->upd H4 x (.ins a.ae dx [("levels",V.ref ll),("found_cuts",V.ref fc),("found_ways",V.ref fw)]) b=some o:=fun b o nb e=>by rw [aE nb];exact e
  generalize upd H4 x (.ins a.ae dx [("levels",V.ref ll),("found_cuts",V.ref fc),("found_ways",V.ref fw)])=H5 at x5 u5 ⊢
  have st:∀ b o,b≠x->H b=some o->H5 b=some o:=fun b o nb e=>u5 _ _ nb (u4 _ _ nb (u3 _ _ nb (jV _ _ e)))
  have Iq:∀ {b:Addr}{o:HO},H b=some o->(∀ d,o≠.ins a.ae d [])->b≠x:=fun {b o} e n z=>by subst z;rw [hx] at e;cases e;exact n _ rfl
  have f5:aS a.af H5 f m es mQ pl kl:=⟨st _ _ hfx hf.ins,st _ _ (eA hf.gM.lst hx (fun z=>nomatch z)) hf.gM.lst,st _ _ (eA hf.gM.pv hx (fun z=>nomatch z)) hf.gM.pv,fun e he=>st _ _ (eA (hf.gM.tup e he) hx (fun z=>nomatch z)) (hf.gM.tup e he)⟩
  have l5:H5 ll=some (.lst ((Zsp (m+1) 0).map nv)):=u5 _ _ LR (u4 _ _ LR (u3 _ _ LR n2.at_))
  have c5:H5 fc=some (.dK (gN (m+1) [])):=u5 _ _ L9 (u4 _ _ L9 n3.at_)
  have w5:H5 fw=some (.dK (gN (m+1) [])):=u5 _ _ OQ n4.at_
  walk_at "gs"
  refine ⟨f,mQ,pl,kl,m,es,rfl,f5,ok,hm,by omega,fun mp rs H6 s6' fm hrs hM=>?_⟩
  have f6:=f5.same s6'
  walk_at "gs"
  refine ⟨f,a.af,mQ,_,_,rfl,f6.ins,T.av,T.aN,rfl,?_⟩
  walk_at "gs"
  refine ⟨f,mQ,_,rfl,f6.ins,rfl,f,mQ,pl,kl,m,es,rfl,f6,?_⟩
  walk_at "gs"
  rw [show (1+(m:Int)+(es.length:Int) - ((m:Int)+1)).toNat=es.length by omega]
  have Kg:mp≠ll:=(cn l5 fm).symm
  have nrl':∀ r∈rs,¬ (r=ll\/∃ o,H r=some o):=fun r hr z=>by
   rcases z with z | ⟨o,ho⟩
   ·exact (cn l5 (hrs r hr).1).symm z
   ·by_cases e:r=x
    ·have:=(hrs r hr).1;rw [e,x5] at this;cases this
    ·have:=st r o e ho;rw [(hrs r hr).1] at this;cases this
  have Mw:∀ r∈rs,r≠ll:=fun r hr e=>nrl' r hr (.inl e)
  have hdm:∀ b,(b=ll\/∃ o,H b=some o)->∃ o,H5 b=some o:=fun b hb=>by
   rcases hb with rfl | ⟨o,ho⟩
   ·exact ⟨_,l5⟩
   ·by_cases e:b=x
    ·exact ⟨_,e ▸ x5⟩
    ·exact ⟨_,st b o e ho⟩
  have Ej:dv a.ae (fun b=>b=ll\/∃ o,H b=some o) H6 x dx ll fc fw m (aA es) s (Zsp (m+1) 0) [] [] [] [] :=
   ⟨⟨s6' _ _ x5,s6' _ _ l5,s6' _ _ c5,s6' _ _ w5⟩,nf,.inl rfl,fun b hb=>by obtain ⟨o,ho⟩:=hdm b hb;exact ⟨o,s6' _ _ ho⟩,by rw [ZsM];rfl,rfl,rfl,rfl,fun k hk=>by rw [Zsy,Ztf,if_pos (by omega)];rfl,fun i c C hc=>by simp at hc,fun i w ws hw=>by simp at hw,fun i C hC=>by simp at hC,fun i ws hs=>by simp at hs⟩
  refine tS (fun i σ H7=>mP ll fc fw H6 H7/\∃ aJ aU aD dk fh,∃ v4:Option V,dv a.ae (fun b=>b=ll\/∃ o,H b=some o) H7 x dx ll fc fw m (aA es) s aJ aU aD dk fh/\aU.length=i/\σ=[some (.ref x),some (.ref f),some (.int s),some (.ref mp),v4]) ⟨fun b o _ _ _ e=>e,_,_,_,_,_,_,Ej,rfl,rfl⟩ ?_ ?_
  ·rintro i σ H7 hi ⟨u7,aJ,aU,aD,dk,fh,v4,hL7,hci,rfl⟩
   have f7:aS a.af H7 f m es mQ pl kl:=by
    have nn:∀ {b:Addr}{o:HO},H b=some o->(∀ d,o≠.ins a.ae d [])->H7 b=some o:=fun {b o} e n=>u7 _ _ (cn e fl) (cn e JJ) (cn e NH) (s6' _ _ (st _ _ (Iq e n) e))
    exact ⟨nn hf.ins (fun d z=>by simp at z),nn hf.gM.lst (fun d z=>nomatch z),nn hf.gM.pv (fun d z=>nomatch z),fun e he=>nn (hf.gM.tup e he) (fun d z=>nomatch z)⟩
   have hM7:=hM.Gk u7 (s6' _ _ c5) (s6' _ _ w5) Kg Mw
   walk_at "gs"
   refine ⟨x,dx,_,rfl,hL7.at_.ins,rfl,f,mQ,pl,kl,m,_,es,rfl,f7,ok,hm,by omega,fun n hnn zq ip H8 md=>?_,fun z=>absurd ⟨by omega,by omega⟩ z⟩
   obtain ⟨fi,hi8,s8⟩:=md
   have enn:n=m+1+aU.length:=by omega
   rw [enn] at hi8
   have hL8:=hL7.same s8
   refine ⟨_,x,dx,ll,fc,fw,mp,ip,rs,m,s,aA es,aJ,aU,aD,dk,fh,rfl,hL8,by omega,ok,by omega,s2,s6,hM7.same s8,Kg,nrl',hi8,fun H9 lvs' cas' was' css' wss' u9 hL9 hc9=>?_⟩
   exact ⟨(u7.trans (Il s8)).trans u9,lvs',cas',was',css',wss',_,hL9,by omega,rfl⟩
  ·rintro σ H7 ⟨u7,aJ,aU,aD,dk,fh,v4,hL7,hci,rfl⟩
   walk_at "gs"
   exact q H7 ll fc fw aJ aU aD dk fh (fun b o nb e=>u7 _ _ (cn e fl) (cn e JJ) (cn e NH) (s6' _ _ (st _ _ nb e))) fl JJ NH hL7 hci
theorem mk_Labels {a:bZ}{K:ZrF}{H:Hp}{f mQ pl kl:Addr}{m s:Nat}{es:List En}{F:Addr->Hp->Prop}{E:XK} (hf:aS a.af H f m es mQ pl kl) (ok:MF.Ok m (aA es)) (hm:m<=10) (hn:m+1+es.length<=32) (s2:2<=s) (s6:s<=6)
  (q:∀ x dx ll fc fw H' aJ aU aD dk fh,aQ H H'->H x=none->H ll=none->H fc=none->H fw=none->dv a.ae (fun b=>b=ll\/∃ o,H b=some o) H' x dx ll fc fw m (aA es) s aJ aU aD dk fh->aU.length=es.length->F x H') :
  ∀ x dx,H x=none->H dx=none->dx≠x->Jf a K [.ref x,.ref f,.int s] (upd (upd H dx (.own x)) x (.ins a.ae dx [])) (fun v H2=>v=.non/\F x H2) E:=by
 intro x dx hx hd gK
 have zP:aQ H (upd (upd H dx (.own x)) x (.ins a.ae dx [])):=(iy hd).trans (iy (by rw [aE gK.symm];exact hx))
 refine ⟨x,dx,f,mQ,pl,kl,.int s,m,es,rfl,bR,hf.same zP,ok,hm,hn,trivial,fun s' e _ _ H' ll fc fw aJ aU aD dk fh st hl hc hw hL hle=>?_,fun z=>?_⟩
 ·have:s'=s:=by have:=V.int.inj e;omega
  subst this
  refine ⟨rfl,q x dx ll fc fw H' aJ aU aD dk fh (fun b o e=>?_) hx (zP.nil hl) (zP.nil hc) (zP.nil hw) (hL.less (.inl rfl) fun b hb=>hb.imp id fun ⟨o,ho⟩=>⟨o,zP _ _ ho⟩) hle⟩
  have n1:b≠x:=cn e hx
  exact st b o n1 (zP _ _ e)
 ·unfold yV zO at z
  have:=of_decide_eq_false z
  omega
noncomputable def mT (m:Nat):Nat:=2 ^ 2 ^ m - 1
noncomputable def Mq (_:ZrF):Sp:=fun vs H Q _=>∃ m:Nat,vs=[.int m]/\m<=10/\Q (.int (mT m:Nat)) H
noncomputable def LW (K:ZrF):TS:=(cz (ax (cV fun i j=>.int (i - j)) (ax (cI sF fun i j=>.int (i * 2 ^ j.toNat)) (tC (.int 1)) (ax (cI sF fun i j=>.int (i * 2 ^ j.toNat)) (tC (.int 1)) (aa 0))) (tC (.int 1))))
theorem Zhv (T:Txt K mg a):TM P w K mg base 0 "full_column" Fq Sg a.dH (LW K) :=
 fun hr=>(aL (cC (aX ql (aX tQ aH (aX tQ aH (cv 0))) aH)))
theorem TZ (T:Txt K mg a):aG P w K mg base dw 1 a.dH a.gf ["many"] (Mq K):=by
 refine T.dB.n.dO Zhz (Zhv T) (fun vs H Q E h=>?_) (fun H vs Q E h=>?_)
 ·obtain ⟨m,rfl,_⟩:=h;rfl
 ·obtain ⟨m,rfl,qC,q⟩:=h
  show LW K _ [some (.int m)] H
  unfold LW
  have ON:(2:Nat) ^ m<=2 ^ 10:=ZtX (by decide) qC
  have ec:(1 * 2 ^ ((m:Int)).toNat:Int)=((2 ^ m:Nat):Int):=by simp
  have ef:(1 * 2 ^ (((2 ^ m:Nat):Int)).toNat - 1:Int)=((mT m:Nat):Int):=by
   have:=HS 1 (2 ^ m)
   rw [show ((1:Nat):Int)=1 from rfl] at this
   rw [this,Nat.one_mul]
   have h1:1<=2 ^ 2 ^ m:=Nat.one_le_two_pow
   unfold mT
   omega
  walk_at "gs"
  rw [ec]
  have cp:sF 1 ((2 ^ m:Nat):Int):=by
   generalize 2 ^ m=N at ON
   exact ⟨by omega,by omega,by decide⟩
  refine ⟨cp,?_⟩
  rw [ef]
  exact q
theorem ZoN:(1000:Nat)<=sizeLine:=by decide
noncomputable def SR (K:ZrF):Sp:=fun vs H Q _=>∃ m:Nat,vs=[.int m]/\m<=10/\∀ q H',aQ H H'->H q=none->H' q=some (.lst (((MC.bD m).1.map GM.nz).map V.int))->Q (.ref q) H'
noncomputable def De (w:Nat):V->V | .int c=>.int (Builtin.bitOr c (c * 2 ^ (GM.nz w).toNat)) | _=>.non
theorem two2 {i:Nat} (h:i<=10):2 ^ i<=1024:=by
 have:(2:Nat) ^ i<=2 ^ 10:=ZtX (by decide) h
 omega
noncomputable def MN (K:ZrF):TS:=(aI (bV (jo ar) (aC 1))
  (aI (bV (tC (.int 1)) (aC 2))
  (aI (bV (tC (.int 1)) (aC 3))
  (aI (fP (om (ah (aa 0) ar)) (aC 4) (aI (bV (eN (eU K (aa 1)) 1 [3] (aC 0) gr (ax (cV fun i j=>.int (Builtin.bitOr i j)) (aa 0) (ax (cI wG fun i j=>.int (i * 2 ^ j.toNat)) (aa 0) (aa 1)))) (aC 1))
  (aI (ix (pG K "list" qm (aa 1) (ah (ax (cI wG fun i j=>.int (i * 2 ^ j.toNat)) (aa 2) (aa 3)) ar)))
  (aI (bV (ax (cV fun i j=>.int (Builtin.bitOr i j)) (aa 2) (ax (cI wG fun i j=>.int (i * 2 ^ j.toNat)) (aa 2) (aa 3))) (aC 2))
  (bV (ax mU (aa 3) (tC (.int 2))) (aC 3))))))
  (cz (aa 1))))))
theorem Zgr (T:Txt K mg a):TM P w K mg base 0 "input_columns" AI LN a.cO (MN K) :=
 fun hr=>(aK (cA (i:=1) sM.nd rfl (by walk_at "o") (kC aw))
   (aK (cA (i:=2) sM.nd rfl (by walk_at "o") aH)
   (aK (cA (i:=3) sM.nd rfl (by walk_at "o") aH)
   (aK (jn PassesOwn.never rfl (uC rfl T.bu (ai (cv 0) aw)) (cj (i:=4) sM.nd rfl (by walk_at "o")) (aK (A6 (i:=1) (N:=["column","width"]) (k:=1) (sel:=[3]) (az.of (aW AI).names (by decide +kernel)) (aF.of LN (by decide +kernel)) rfl (gw (cv 1)) (fun _ _ _ _=>(cj (i:=0) (show Zsv (["column","width"]:List Str) by decide +kernel) rfl (by walk_at "o"))) (fun _ _ _ _=>jq) (fun _ _ _ _=>(aX Cp (cv 0) (aX Mh (cv 0) (cv 1)))) sM.nd rfl (by walk_at "o") rfl)
   (aK (i0 (tE Zr7 Zr9 Zsa (o6 rH) (cv 1) (ai (aX Mh (cv 2) (cv 3)) aw)))
   (aK (cA (i:=2) sM.nd rfl (by walk_at "o") (aX Cp (cv 2) (aX Mh (cv 2) (cv 3))))
   (aL (cA (i:=3) sM.nd rfl (by walk_at "o") (aX ox (cv 3) aH)))))))
   (aL (cC (cv 1)))))))
theorem Zgx (T:Txt K mg a):aG P w K mg base dw 1 a.cO a.eF ["many"] (SR K):=by
 refine T.eD.n.dO sM (Zgr T) (fun vs H Q E h=>?_) (fun H vs Q E h=>?_)
 ·obtain ⟨m,rfl,_⟩:=h;rfl
 ·obtain ⟨m,rfl,hm,q⟩:=h
  show MN K _ [some (.int m),none,none,none,none] H
  unfold MN
  have Zuu:=ZoN
  walk_at "gs"
  intro r0 H0 n0
  walk_at "gs"
  rw [Zua]
  refine tS (fun i σ H2=>∃ r,aQ H H2/\H r=none/\H2 r=some (.lst (((MC.bD i).1.map GM.nz).map V.int))/\∃ v,σ=[some (.int m),some (.ref r),some (.int (GM.nz (MC.bD i).2.1)),some (.int (GM.nz (MC.bD i).2.2)),v])
   ⟨r0,n0.same,n0.aD,n0.at_,_,rfl⟩ ?_ ?_
  ·rintro i σ H2 hi ⟨r,s2,fr,at2,v,rfl⟩
   have hw:=MC.D8 i
   have he:=MC.HE i
   have hln:=MC.IE i
   have h2i:=two2 (show i<=10 by omega)
   have Y6:0<2 ^ i:=ZtZ (by decide)
   walk_at "gs"
   refine ⟨⟨_,.of at2⟩,qN (De (MC.bD i).2.2) (.of at2) rfl (by rw [Zsh,Zsh];omega) ?_ ?_⟩
   ·intro x H' Q' hx _ q'
    obtain ⟨y,hy,rfl⟩:=Zsi.mp hx
    obtain ⟨c,hc,rfl⟩:=Zsi.mp hy
    walk_at "go"
    exact ⟨P4 (k:=2 ^ i) (MC.IU i c hc) (by rw [hw];omega),q'⟩
   ·intro r2 H3 n3
    have GR:(MC.bD i).2.1<2 ^ (2 ^ i):=by rw [he];have:0<2 ^ (2 ^ i):=ZtZ (by decide);omega
    have IX:wG (GM.nz (MC.bD i).2.1) (GM.nz (MC.bD i).2.2):=P4 (k:=2 ^ i) GR (by rw [hw];omega)
    walk_at "go"
    refine ⟨.inl ⟨by trivial,_,n3.sq⟩,IX,r2,_,_,rfl,rfl,n3.at_,by rw [Zsh,Zsh,Zsh];omega,?_⟩
    walk_at "go"
    refine ⟨IX,.inr ⟨by decide,by decide⟩,r2,(s2.trans n3.same).put (s2.free n3.aD),s2.free n3.aD,?_,some (.int (0+(i:Int))),?_⟩
    ·rw [bR]
     congr 2
     show _=(((MC.bD i).1.map (fun c=>c ||| (c * 2 ^ (MC.bD i).2.2)) ++ [(MC.bD i).2.1 * 2 ^ (MC.bD i).2.2]).map GM.nz).map V.int
     rw [Zss,Zss,Zso,Zso,Zso,Zso]
     have z1:∀ c∈(MC.bD i).1,De (MC.bD i).2.2 (V.int (GM.nz c))=V.int (GM.nz (c ||| (c * 2 ^ (MC.bD i).2.2))):=fun c _=>by
      show V.int (Builtin.bitOr (GM.nz c) (GM.nz c * 2 ^ (GM.nz (MC.bD i).2.2).toNat))=V.int (GM.nz (c ||| (c * 2 ^ (MC.bD i).2.2)))
      unfold GM.nz
      rw [HS,KN]
     have z2:GM.nz (MC.bD i).2.1 * 2 ^ (GM.nz (MC.bD i).2.2).toNat=GM.nz ((MC.bD i).2.1 * 2 ^ (MC.bD i).2.2):=by
      unfold GM.nz
      rw [HS]
     have z3:=ZsW z1
     rw [z2]
     exact congrArg (· ++ [V.int (GM.nz ((MC.bD i).2.1 * 2 ^ (MC.bD i).2.2))]) z3
    ·have e1:Builtin.bitOr (GM.nz (MC.bD i).2.1) (GM.nz (MC.bD i).2.1 * 2 ^ (GM.nz (MC.bD i).2.2).toNat)=GM.nz (MC.bD (i+1)).2.1:=by
      show _=GM.nz ((MC.bD i).2.1 ||| ((MC.bD i).2.1 * 2 ^ (MC.bD i).2.2))
      unfold GM.nz
      rw [HS,KN]
     have e2:GM.nz (MC.bD i).2.2 * 2=GM.nz (MC.bD (i+1)).2.2:=by
      show _=GM.nz ((MC.bD i).2.2 * 2)
      unfold GM.nz
      omega
     rw [e1,e2]
  ·rintro σ H2 ⟨r,s2,fr,at2,v,rfl⟩
   walk_at "gs"
   exact q r H2 s2 fr at2
noncomputable def tv (F z:Nat) (t:Int):Nat:=if t % 2=1 then F ^^^ z else z
noncomputable def N9 (_:ZrF):Sp:=fun vs H Q _=>∃ (d:Addr) (kvs:List (Key × V)) (t:Int) (F z:Nat),vs=[.ref d,.int t,.int F]/\H d=some (.dK kvs)/\bC kvs (.inl (t / 2))=some (.int z)/\Q (.int (tv F z t:Nat)) H
noncomputable def N7 (K:ZrF):TS:=(cz (EN (bW (ax (jS K) (ax (cI (fun _ j=>0<j) fun i j=>.int (i % j)) (aa 1) (tC (.int 2))) (tC (.int 1)))) (ax (cV fun i j=>.int (Builtin.bitXor i j)) (lO (aa 0) (ax (cI hJ fun i j=>.int (i / j)) (aa 1) (tC (.int 2)))) (aa 2)) (lO (aa 0) (ax (cI hJ fun i j=>.int (i / j)) (aa 1) (tC (.int 2))))))
theorem Zl2 (T:Txt K mg a):TM P w K mg base 0 "lit_tie" Bj Rn a.gR (N7 K) :=
 fun hr=>(aL (cC (Pg (cW (kr (i4 hr)) (aX nH (cv 1) aH) aH (cU _)) (aX M8 (nh (eG hr) (cv 0) (aX iC (cv 1) aH) (fun _ _=>rfl)) (cv 2)) (nh (eG hr) (cv 0) (aX iC (cv 1) aH) (fun _ _=>rfl)))))
theorem Qi (T:Txt K mg a):aG P w K mg base dw 1 a.gR a.jH ["lit","tie","every"] (N9 K):=by
 refine T.g6.n.dO Wr (Zl2 T) (fun vs H Q E h=>?_) (fun H vs Q E h=>?_)
 ·obtain ⟨d,kvs,t,F,z,rfl,_⟩:=h;rfl
 ·obtain ⟨d,kvs,t,F,z,rfl,hd,hv,q⟩:=h
  show N7 K _ [some (.ref d),some (.int t),some (.int F)] H
  unfold N7
  have g1:eB H d (kV (.inl (t / 2))) (some (.int z)):=by
   have:=eB.k (k:=.inl (t / 2)) hd
   rw [hv] at this
   exact this
  unfold tv at q
  walk_at "gs"
  by_cases h:t % 2=1
  ·rw [if_pos h] at q ⊢
   walk_at "gs"
   refine ⟨d,.int z,rfl,g1,?_⟩
   walk_at "gs"
   rw [K3,Nat.xor_comm]
   exact q
  ·rw [if_neg h] at q ⊢
   walk_at "gs"
   exact ⟨d,.int z,rfl,g1,q⟩
noncomputable def Sd (_:ZrF):Sp:=fun vs H Q _=>∃ (d tp:Addr) (kvs:List (Key × V)) (x y:Int) (F z1 z2:Nat),vs=[.ref d,.ref tp,.int F]/\H d=some (.dK kvs)/\H tp=some (.tup [.int x,.int y])/\bC kvs (.inl (x / 2))=some (.int z1)/\bC kvs (.inl (y / 2))=some (.int z2)/\Q (.int (tv F z1 x &&& tv F z2 y:Nat)) H
noncomputable def NT (K:ZrF):TS:=(cz (ax (cV fun i j=>.int (Builtin.bitAnd i j)) (cB (N9 K) [] E0 (ah (aa 0) (ah (ax (eL K) (aa 1) (tC (.int 0))) (ah (aa 2) ar)))) (cB (N9 K) [] E0 (ah (aa 0) (ah (ax (eL K) (aa 1) (tC (.int 1))) (ah (aa 2) ar))))))
theorem Zkr (T:Txt K mg a):TM P w K mg base 1 "lit_pair" Bg Qs a.gh (NT K) :=
 fun hr=>(aL (cC (aX BN (cK T.g6 (Qi T) (hm hr) bE (ai (cv 0) (ai (fB fC (cv 1) aH (fun _ _=>rfl)) (ai (cv 2) aw)))) (cK T.g6 (Qi T) (hm hr) bE (ai (cv 0) (ai (fB fC (cv 1) aH (fun _ _=>rfl)) (ai (cv 2) aw)))))))
theorem ZO (T:Txt K mg a):aG P w K mg base dw 2 a.gh a.jc ["lit","pair","every"] (Sd K):=by
 refine T.iM.n.dO Zkw (Zkr T) (fun vs H Q E h=>?_) (fun H vs Q E h=>?_)
 ·obtain ⟨d,tp,kvs,x,y,F,z1,z2,rfl,_⟩:=h;rfl
 ·obtain ⟨d,tp,kvs,x,y,F,z1,z2,rfl,hd,ht,h1,h2,q⟩:=h
  show NT K _ [some (.ref d),some (.ref tp),some (.int F)] H
  unfold NT
  walk_at "gs"
  refine ⟨_,_,.inr (.of ht),rfl,d,kvs,x,F,z1,rfl,hd,h1,?_⟩
  walk_at "gs"
  refine ⟨_,_,.inr (.of ht),rfl,d,kvs,y,F,z2,rfl,hd,h2,?_⟩
  walk_at "gs"
  rw [PQ]
  exact q
theorem wB {κ:Type} [DecidableEq κ] (kvs:List (κ × V)) (k:κ) (v:V):(cJ kvs k v).length<=kvs.length+1:=by
 unfold cJ
 split
 ·rw [Zsh];omega
 ·rw [Zsm];exact ZtJ _
theorem P1:∀ (ks:List Int) (zs:List Nat) (acc:List (Key × V)),ks.length=zs.length->(∀ k,(bC acc (.inl k)).isSome=true->∃ z:Nat,bC acc (.inl k)=some (.int z)) ->
  (((ks.map (Sum.inl:Int->Key)).zip (zs.map fun z=>V.int (z:Nat))).foldl (fun acc kv=>cJ acc kv.1 kv.2) acc).length<=acc.length+ks.length /\
  ∀ k:Int,((bC (((ks.map (Sum.inl:Int->Key)).zip (zs.map fun z=>V.int (z:Nat))).foldl (fun acc kv=>cJ acc kv.1 kv.2) acc) (.inl k)).isSome=((bC acc (.inl k)).isSome || decide (k∈ks))) /\
   ((bC (((ks.map (Sum.inl:Int->Key)).zip (zs.map fun z=>V.int (z:Nat))).foldl (fun acc kv=>cJ acc kv.1 kv.2) acc) (.inl k)).isSome=true->∃ z:Nat,bC (((ks.map (Sum.inl:Int->Key)).zip (zs.map fun z=>V.int (z:Nat))).foldl (fun acc kv=>cJ acc kv.1 kv.2) acc) (.inl k)=some (.int z))
 | [],zs,acc,_,h=>by simpa using h
 | k0 :: ks,z0 :: zs,acc,hl,h=>by
  have hl':ks.length=zs.length:=Nat.succ.inj hl
  have h':∀ k,(bC (cJ acc (.inl k0) (.int (z0:Nat))) (.inl k)).isSome=true->∃ z:Nat,bC (cJ acc (.inl k0) (.int (z0:Nat))) (.inl k)=some (.int z):=by
   intro k
   rw [pL]
   by_cases e:k=k0
   ·subst e
    rw [if_pos rfl]
    exact fun _=>⟨z0,rfl⟩
   ·rw [if_neg (fun z=>e (Sum.inl.inj z))]
    exact h k
  obtain ⟨i1,i2⟩:=P1 ks zs (cJ acc (.inl k0) (.int (z0:Nat))) hl' h'
  rw [Zsw,Zsw,Ztr,ZsU]
  refine ⟨?_,fun k=>?_⟩
  ·have:=wB acc (.inl k0) (.int (z0:Nat))
   rw [ZsB]
   refine ZtL i1 ?_
   omega
  ·obtain ⟨j1,j2⟩:=i2 k
   refine ⟨?_,j2⟩
   rw [j1,pL]
   by_cases e:k=k0
   ·subst e
    simp
   ·rw [if_neg (fun z=>e (Sum.inl.inj z))]
    simp [e]
theorem QE:∀ (ks:List Int) (zs:List Nat) (acc:List (Key × V)) (k:Nat) (x:Int) (z:Nat),ks.Nodup->ks[k]? = some x->zs[k]? = some z ->
  bC (((ks.map (Sum.inl:Int->Key)).zip (zs.map fun z=>V.int (z:Nat))).foldl (fun acc kv=>cJ acc kv.1 kv.2) acc) (.inl x)=some (.int (z:Nat))
 | [],zs,acc,k,x,z,_,h,_=>by simp at h
 | k0 :: ks,[],acc,k,x,z,_,_,h=>by simp at h
 | k0 :: ks,z0 :: zs,acc,0,x,z,hd,hx,hz=>by
  have e1:k0=x:=by simpa using hx
  have e2:z0=z:=by simpa using hz
  subst e1 e2
  rw [Zsw,Zsw,Ztr,ZsU]
  have hn:=(ZsX.mp hd).1
  have keep:∀ (ks:List Int) (zs:List Nat) (acc:List (Key × V)),k0 ∉ ks->bC (((ks.map (Sum.inl:Int->Key)).zip (zs.map fun z=>V.int (z:Nat))).foldl (fun acc kv=>cJ acc kv.1 kv.2) acc) (.inl k0)=bC acc (.inl k0):=by
   intro ks
   induction ks with
   | nil=>intro zs acc _;simp
   | cons a r ih =>
    intro zs acc hk
    cases zs with
    | nil=>simp
    | cons b t =>
     rw [Zsw,Zsw,Ztr,ZsU,ih t _ (fun h=>hk (ZsD _ h)),pL,if_neg (fun h=>hk (by rw [Sum.inl.inj h];exact ZsJ ..))]
  rw [keep ks zs _ hn,pL,if_pos rfl]
 | k0 :: ks,z0 :: zs,acc,k+1,x,z,hd,hx,hz=>by
  rw [Zsw,Zsw,Ztr,ZsU]
  exact QE ks zs _ k x z (ZsX.mp hd).2 (by simpa using hx) (by simpa using hz)
noncomputable def rh (v:Nat->Bool) (t:Int):Bool:=v (t / 2).toNat != decide (t % 2=1)
structure YC (m:Nat) (P:List MF.Pr) (n:Nat) (xs:List Int) (N:Nat) (v:Nat->Bool):Prop where
 cut:∀ (k:Nat) x,xs[k]? = some x->v x.toNat=N.testBit k
 gM:∀ j p,P[j]? = some p->MF.eQ (MF.eP xs) m P [2 * (n:Int)] (m+1+j)=true->MF.eP xs (m+1+j)=false->v (m+1+j)=(rh v p.1 && rh v p.2)
noncomputable def uO (m:Nat) (P:List MF.Pr) (n:Nat) (xs:List Int) (z j:Nat):Prop:=z<2 ^ 2 ^ xs.length/\∀ (N:Nat) (v:Nat->Bool),N<2 ^ xs.length->YC m P n xs N v->z.testBit N=v j
theorem B2 {F z k:Nat}{t:Int} (hF:F<2 ^ k) (hz:z<2 ^ k):tv F z t<2 ^ k:=by
 unfold tv
 split
 ·exact Nat.xor_lt_two_pow hF hz
 ·exact hz
theorem Yj (n:Nat):mT n<2 ^ 2 ^ n:=by
 have:0<2 ^ 2 ^ n:=ZtZ (by decide)
 unfold mT
 omega
theorem Ug {F z:Nat}{t:Int}{N:Nat}{v:Nat->Bool} (hF:F.testBit N=true) (h:z.testBit N=v (t / 2).toNat):(tv F z t).testBit N=rh v t:=by
 unfold tv rh
 by_cases e:t % 2=1
 ·rw [if_pos e,Zt8,hF,h,decide_eq_true e]
  cases v (t / 2).toNat <;> rfl
 ·rw [if_neg e,h,decide_eq_false e]
  cases v (t / 2).toNat <;> rfl
theorem Ra {n N:Nat} (h:N<2 ^ n):(mT n).testBit N=true:=by
 unfold mT
 rw [ZtY]
 exact decide_eq_true h
theorem Zl3 {m:Nat}{P:List MF.Pr}{n:Nat}{xs:List Int}{j z1 z2:Nat}{p:MF.Pr} (hp:P[j]? = some p) (hr:MF.eQ (MF.eP xs) m P [2 * (n:Int)] (m+1+j)=true) (hs:MF.eP xs (m+1+j)=false)
  (h1:uO m P n xs z1 (p.1 / 2).toNat) (h2:uO m P n xs z2 (p.2 / 2).toNat):uO m P n xs (tv (mT xs.length) z1 p.1 &&& tv (mT xs.length) z2 p.2) (m+1+j):=by
 refine ⟨Nat.and_lt_two_pow _ (B2 (Yj _) h2.1),fun N v hN ag=>?_⟩
 rw [Zt2,Ug (Ra hN) (h1.2 N v hN ag),Ug (Ra hN) (h2.2 N v hN ag),ag.gM j p hp hr hs]
theorem ZmJ {m:Nat}{P:List MF.Pr}{n:Nat}{xs:List Int}{k z:Nat}{x:Int} (hx:xs[k]? = some x) (hz:(MC.bD xs.length).1[k]? = some z):uO m P n xs z x.toNat:=by
 refine ⟨MC.IU _ _ (Zsz hz),fun N v hN ag=>?_⟩
 rw [ag.cut k x hx,<- MC.Jv xs.length k N (Zsk.mp hx).1 hN,Zsy,hz]
 rfl
noncomputable def IZ (xs:List Int):V->Bool | .int x=>!decide (x∈xs) | _=>false
theorem Zpn (xs:List Int) (r:Nat->Bool) (N:Nat):((((Zsj N).filter r).map oz).filter (IZ xs)).map id=((Zsj N).filter fun j=>r j && !MF.eP xs j).map oz:=by
 rw [Zs5,Ztd,List.filter_filter]
 congr 1
 refine List.filter_congr fun j _=>?_
 show (IZ xs (oz j) && r j)=(r j && !MF.eP xs j)
 rw [Bool.and_comm]
 rfl
noncomputable def RJ (a:bZ) (K:ZrF):Sp:=fun vs H Q E=>∃ (f dx pl kl p:Addr) (m:Nat) (k:Int) (xs:List Int) (es:List En),vs=[.ref f,.int k,.ref p]/\aS a.af H f m es dx pl kl/\bg K H p (xs.map V.int)/\MF.Ok m (aA es)/\m<=10/\es.length<=1900/\xs.length<=10 /\
 (MF.lX m (aA es) k xs=true->∀ (z:Nat) H',uO m (aA es) k.toNat xs z k.toNat->aQ H H'->Q (.int z) H')/\(MF.lX m (aA es) k xs=false->∀ H',aQ H H'->∀ e,H' e=none->E (.ref e) (some a.iG) H')
noncomputable def L5 (a:bZ) (K:ZrF) (E:XK):TS:=(aI (du (lA (iU K (cB (UE a K) [] E0 (ah (aa 0) (ah (aa 1) (ah (aa 2) ar)))))) (qp a.iG (ah (tC (.str "no cut of this knot")) ar) E) dQ)
  (aI (bV (cB (Mq K) [] E0 (ah (cH (lj K) (ah (aa 2) ar)) ar)) (aC 3))
  (aI (bV (JG K (ah (aa 2) (ah (cB (SR K) [] E0 (ah (cH (lj K) (ah (aa 2) ar)) ar)) ar))) (aC 4))
  (aI (bV (eN (eU K (cB (Iu a K) [] E0 (ah (aa 0) (ah (jo (ah (aa 1) ar)) (ah (aa 4) ar))))) 1 [4] (aC 0) (bW (oM (aa 0) (aa 1))) (aa 0)) (aC 5))
  (aI (fP (eU K (aa 5)) (aC 6) (mX (aa 4) (aa 6) (cB (Sd K) [] E0 (ah (aa 4) (ah (d9 a.af "pair" (Hr a K) [] E0 (aa 0) (ah (aa 6) ar)) (ah (aa 3) ar))))))
  (cz (lO (aa 4) (aa 1))))))))
theorem W7 (T:Txt K mg a):TX P w K mg base 5 "table" z7 Oi a.ke (L5 a K) :=
 fun hr=>(aK (dJ (mC (kE (cK T.kT (Zg T) (hm hr) bE (ai (cv 0) (ai (cv 1) (ai (cv 2) aw)))))) (aL (tP Zr8 T.xi_NoCut (by decide) rfl T.oR rfl pA (ai qO aw))) eE)
   (aK (cA (i:=3) GL.nd rfl (by walk_at "o") (cK T.dB (TZ T) (hm hr) bE (ai (eV lU (by rfl) T.cc PySem.boot_len (ai (cv 2) aw)) aw)))
   (aK (cA (i:=4) GL.nd rfl (by walk_at "o") (Zmr rfl rfl rfl T.d5 T.oP (ai (cv 2) (ai (cK T.eD (Zgx T) (hm hr) bE (ai (eV lU (by rfl) T.cc PySem.boot_len (ai (cv 2) aw)) aw)) aw))))
   (aK (A6 (i:=5) (N:=["lower","lit"]) (k:=1) (sel:=[4]) (az.of (aW z7).names (by decide +kernel)) (aF.of Oi (by decide +kernel)) rfl (gw (cK T.fK (Ju T) (hm hr) bE (ai (cv 0) (ai (kC (ai (cv 1) aw)) (ai (cv 4) aw))))) (fun _ _ _ _=>(cj (i:=0) (show Zsv (["lower","lit"]:List Str) by decide +kernel) rfl (by walk_at "o"))) (fun _ _ _ _=>(Ap (rA (su (eG hr) (cv 0) (cv 1))))) (fun _ _ _ _=>(cv 0)) GL.nd rfl (by walk_at "o") rfl)
   (aK (PS.qA (jn PassesOwn.never rfl (gw (cv 5)) (cj (i:=6) GL.nd rfl (by walk_at "o")) (aL (pJ (eG hr) (cv 4) (cv 6) (cK T.iM (ZO T) (hm hr) bE (ai (cv 4) (ai (kB (cv 0) T.av T.bQ.e (OI T) (hm hr) T.bQ.b .nil lC (ai (cv 6) aw)) (ai (cv 3) aw)))) rfl))))
   (aL (cC (nh (eG hr) (cv 4) (cv 1) (fun _ _=>rfl)))))))))
theorem Xs (T:Txt K mg a):aG P w K mg base (gZ P w) 6 a.ke a.mM ["fold","knot","cut"] (RJ a K):=by
 refine T.mO.n.iO GL (W7 T) (fun vs H Q E h=>?_) (fun H vs Q E h=>?_)
 ·obtain ⟨f,dx,pl,kl,p,m,k,xs,es,rfl,_⟩:=h;rfl
 ·obtain ⟨f,dx,pl,kl,p,m,k,xs,es,rfl,hf,hX,ok,hm,hz,hxz,qt,qf⟩:=h
  show L5 a K E _ [some (.ref f),some (.int k),some (.ref p),none,none,none,none] H
  unfold L5
  have big:(20000:Nat)<=sizeLine:=by decide
  have mr:(aA es).length=es.length:=Zsh ..
  walk_at "gs"
  refine ⟨f,dx,pl,kl,p,m,k,xs,es,rfl,hf,hX,ok,hm,hz,by omega,fun H1 s1=>?_⟩
  cases hc:MF.lX m (aA es) k xs with
  | false =>
   walk_at "go"
   exact ⟨by decide,qf hc H1 s1⟩
  | true =>
   have q:=qt hc
   obtain ⟨⟨k1,k2,k3⟩,rT,hhang,hstop⟩:=(MF.LU ..).mp hc
   obtain ⟨n,rfl⟩:=Zub (by omega:0<=k)
   walk_at "gs"
   refine .inl ⟨_,.inl (s1.seq hX),?_⟩
   rw [Zsh]
   refine ⟨xs.length,rfl,hxz,?_⟩
   walk_at "gs"
   refine .inl ⟨_,.inl (s1.seq hX),?_⟩
   rw [Zsh]
   refine ⟨xs.length,rfl,hxz,fun ic H2 s2 hic h2=>?_⟩
   have jV:=s1.trans s2
   have el:(MC.bD xs.length).1.length=xs.length:=MC.IE ..
   walk_at "gs"
   refine ⟨xs,_,jV.seq hX,.of h2,by rw [Zsh,Zsh];exact el.symm,by omega,fun ld H3 n3=>?_⟩
   have ey:((MC.bD xs.length).1.map GM.nz).map V.int=(MC.bD xs.length).1.map fun z=>V.int (z:Nat):=by rw [Zso];rfl
   rw [ey] at n3
   have hxd:xs.Nodup:=by
    have hr:∀ (a b:Nat),a<b->b<xs.length->xs.getD a 0<xs.getD b 0:=by
     intro a b gO hb
     induction b with
     | zero=>omega
     | succ b ih =>
      have h1:=rT b hb
      rcases ZtO a b with l | l
      ·have:=ih l (by omega)
       omega
      ·have:a=b:=by omega
       subst this
       exact h1
    refine Zto.mpr fun a b ha hb gO e=>?_
    have:=hr a b gO hb
    rw [show xs.getD a 0=xs[a] by simp [Zsx,ha],show xs.getD b 0=xs[b] by simp [Zsx,hb],e] at this
    omega
   have zt:∀ (k:Nat) (x:Int),xs[k]? = some x->∃ z:Nat,bC (((xs.map (Sum.inl:Int->Key)).zip ((MC.bD xs.length).1.map fun z=>V.int (z:Nat))).foldl (fun acc kv=>cJ acc kv.1 kv.2) []) (.inl x)=some (.int (z:Nat))/\uO m (aA es) n xs z x.toNat:=by
    intro k x hx
    have hk:=(Zsk.mp hx).1
    have hz:(MC.bD xs.length).1[k]? = some ((MC.bD xs.length).1[k]'(by omega)):=Zsn (by omega)
    exact ⟨_,QE xs _ [] k x _ hxd hx hz,ZmJ hx hz⟩
   obtain ⟨zl,zv⟩:=P1 xs (MC.bD xs.length).1 [] el.symm (fun k h=>by simp [bC] at h)
   have n3':fM H2 ld (.dK (((xs.map (Sum.inl:Int->Key)).zip ((MC.bD xs.length).1.map fun z=>V.int (z:Nat))).foldl (fun acc kv=>cJ acc kv.1 kv.2) [])) H3:=n3
   clear n3
   generalize (((xs.map (Sum.inl:Int->Key)).zip ((MC.bD xs.length).1.map fun z=>V.int (z:Nat))).foldl (fun acc kv=>cJ acc kv.1 kv.2) [])=kv0 at n3' zl zv zt
   have kj:kY kv0=MF.eP xs:=by
    funext j
    unfold kY MF.eP
    rw [(zv (j:Int)).1]
    simp [bC]
   have iQ:=jV.trans n3'.same
   have hld:H ld=none:=jV.nil n3'.aD
   walk_at "gs"
   refine ⟨by show 1<=sizeLine;decide,fun kp H4 n4=>?_⟩
   have e1:([V.int (n:Int)]:List V)=[2 * (n:Int)].map fun t=>V.int (t / 2):=by
    show [V.int (n:Int)]=[V.int (2 * (n:Int) / 2)]
    rw [show 2 * (n:Int) / 2=(n:Int) by omega]
   rw [e1] at n4
   have mH:=iQ.trans n4.same
   refine ⟨f,dx,pl,kl,kp,ld,m,[2 * (n:Int)],kv0,es,rfl,hf.same mH,.of n4.at_,n4.same _ _ n3'.at_,ok,?_,hm,by omega,by simp,fun rq H5 n5=>?_⟩
   ·intro t ht
    rw [Zsl] at ht
    subst ht
    omega
   rw [kj] at n5
   have rQ:=mH.trans n5.same
   have KA:=n5.same _ _ (n4.same _ _ n3'.at_)
   have UQ:((MF.bh (MF.eP xs) m (aA es) [2 * (n:Int)]).map oz).length<=sizeLine:=by
    rw [Zsh]
    unfold MF.bh
    have:=Zs2 (MF.eQ (MF.eP xs) m (aA es) [2 * (n:Int)]) (Zsj (1+m+(aA es).length))
    rw [ZsF] at this
    omega
   walk_at "gs"
   refine ⟨⟨_,n5.sq⟩,Hd (IZ xs) id n5.sq rfl UQ ?_ ?_ ?_⟩
   ·intro v H' Q' hv s' q'
    obtain ⟨y,hy,rfl⟩:=Zsi.mp hv
    walk_at "gs"
    refine ⟨ld,_,rfl,eB.k (k:=.inl (y:Int)) (s' _ _ KA),?_⟩
    have ev:(bC kv0 (.inl (y:Int))).isSome=decide ((y:Int)∈xs):=by rw [(zv (y:Int)).1];simp [bC]
    rw [ev]
    exact q'
   ·intro v H' Q' hv _ s' q'
    obtain ⟨y,hy,rfl⟩:=Zsi.mp hv
    walk_at "gs"
    exact q'
   intro bp H6 n6
   have e6:(((MF.bh (MF.eP xs) m (aA es) [2 * (n:Int)]).map oz).filter (IZ xs)).map id=((Zsj (1+m+(aA es).length)).filter fun j=>MF.eQ (MF.eP xs) m (aA es) [2 * (n:Int)] j && !MF.eP xs j).map oz:=Zpn xs _ _
   rw [e6] at n6
   have s06:=rQ.trans n6.same
   have hbl:bp≠ld:=(cn KA n6.aD).symm
   walk_at "gs"
   refine ⟨⟨_,n6.sq⟩,ZkS (N:=1+m+(aA es).length) (q:=fun j=>MF.eQ (MF.eP xs) m (aA es) [2 * (n:Int)] j && !MF.eP xs j) (f:=oz) (fun c σ H7=>aQ H H7/\H7 bp=some (.lst (((Zsj (1+m+(aA es).length)).filter fun j=>MF.eQ (MF.eP xs) m (aA es) [2 * (n:Int)] j && !MF.eP xs j).map oz)) /\
    ∃ (kvs:List (Key × V)) (v6:Option V),H7 ld=some (.dK kvs)/\kvs.length<=xs.length+c/\(∀ j:Nat,MF.eQ (MF.eP xs) m (aA es) [2 * (n:Int)] j=true->j<c\/MF.eP xs j=true->∃ z:Nat,bC kvs (.inl (j:Int))=some (.int z)/\uO m (aA es) n xs z j) /\
    σ=[some (.ref f),some (.int (n:Int)),some (.ref p),some (.int (mT xs.length:Nat)),some (.ref ld),some (.ref bp),v6]) ⟨s06,n6.at_,kv0,_,n6.same _ _ KA,by simpa using zl,?_,rfl⟩ ?_ ?_ ?_ ?_⟩
   ·intro j _ hj
    have hj':=hj.resolve_left (ZtT _)
    unfold MF.eP at hj'
    obtain ⟨c,hc'⟩:=Ztc.mp (of_decide_eq_true hj')
    have:=zt c _ hc'
    rwa [Zua] at this
   ·rintro c σ H7 _ ⟨_,b7,_⟩
    exact .of b7
   ·rintro c σ H7 mV hq ⟨s7,b7,kvs,v6,d7,l7,hv7,rfl⟩
    refine ⟨s7,b7,kvs,v6,d7,by omega,fun j hr hj=>hv7 j hr ?_,rfl⟩
    rcases hj with hj | hj
    ·by_cases e:j=c
     ·subst e
      rw [hr,Zup] at hq
      right
      simpa using hq
     ·left;omega
    ·exact .inr hj
   ·rintro c σ H7 M mV hq ⟨s7,b7,kvs,v6,d7,l7,hv7,rfl⟩ hM
    have Js:MF.eQ (MF.eP xs) m (aA es) [2 * (n:Int)] c=true:=(Zuq.mp hq).1
    have Je:MF.eP xs c=false:=by have:=(Zuq.mp hq).2;simpa using this
    have Ny:m<c:=(hstop c Js).resolve_right fun z=>by unfold MF.eP at Je;simp [z] at Je
    obtain ⟨i,rfl⟩:∃ i,c=m+1+i:=⟨c - (m+1),by omega⟩
    have Ca:i<es.length:=by omega
    have Ay:es[i]? = some es[i]:=Zsn Ca
    have Ac:(aA es)[i]? = some (es[i]).2:=by rw [Zsu,Ay];rfl
    obtain ⟨o1,o2,o3,o4⟩:=ok _ _ Ac
    have f7:=hf.same s7
    have te:=f7.gM.tup _ (ZsV Ca)
    have rc:=MF.VQ ok [2 * (n:Int)] Ac Js Je
    generalize hE:es[i]=e at *
    obtain ⟨z1,hz1,ht1⟩:=hv7 _ rc.1 (.inl (by omega))
    obtain ⟨z2,tq,ht2⟩:=hv7 _ rc.2 (.inl (by omega))
    rw [show (((e.2.1 / 2).toNat:Nat):Int)=e.2.1 / 2 by omega] at hz1
    rw [show (((e.2.2 / 2).toNat:Nat):Int)=e.2.2 / 2 by omega] at tq
    show (aC 6) (V.int ((m+1+i:Nat):Int)) _ _ _
    walk_at "gs"
    refine ⟨f,dx,_,rfl,f7.ins,rfl,f,dx,pl,kl,m,_,es,rfl,f7,fun _=>⟨fun z=>absurd z (by omega),fun e' _ he'=>?_⟩,fun z=>absurd ⟨by omega,by omega⟩ z⟩
    rw [show (((m+1+i:Nat):Int) - (m:Int) - 1).toNat=i by omega,Ay] at he'
    cases he'
    walk_at "gs"
    refine ⟨ld,e.1,kvs,e.2.1,e.2.2,_,z1,z2,rfl,d7,te,hz1,tq,?_⟩
    walk_at "gs"
    refine ⟨ld,_,rfl,pO.k (k:=.inl ((m+1+i:Nat):Int)) d7 (by omega),hM _ _ ⟨s7.put hld,by rw [aE hbl];exact b7,_,_,bR,by have:=wB kvs (.inl ((m+1+i:Nat):Int)) (V.int (tv (mT xs.length) z1 e.2.1 &&& tv (mT xs.length) z2 e.2.2:Nat));omega,fun j hr hj=>?_,rfl⟩⟩
    rw [pL]
    by_cases ej:j=m+1+i
    ·subst ej
     rw [if_pos rfl]
     exact ⟨_,rfl,Zl3 Ac Js Je ht1 ht2⟩
    ·rw [if_neg (fun z=>ej (by have:=Sum.inl.inj z;omega))]
     refine hv7 j hr ?_
     rcases hj with hj | hj
     ·left;omega
     ·exact .inr hj
   ·rintro σ H7 ⟨s7,b7,kvs,v6,d7,l7,hv7,rfl⟩
    obtain ⟨z,hz,htz⟩:=hv7 n (MF.Hv (by omega)) (.inl (by omega))
    walk_at "gs"
    refine ⟨ld,.int z,rfl,?_,q z H7 (by rw [Zua];exact htz) s7⟩
    have:=eB.k (k:=.inl (n:Int)) d7
    rw [hz] at this
    exact this
theorem TR {K:ZrF}{H:Hp}{i:Int}{Q:VK}{E:XK} (q:Q (.bl true) H):D1 K [.int i] H Q E:=⟨_,rfl,trivial,q⟩
theorem Mn {K:ZrF}{H:Hp}{i l g:Int}{Q:VK}{E:XK} (q:Q (.bl (decide (l<=i/\i<=g))) H):zQ K [.int i,.int l,.int g] H Q E:=⟨_,_,_,rfl,trivial,q⟩
noncomputable abbrev Pc:=Int × List Int × Int
structure gQ (H:Hp) (l:Addr) (ts:List (Addr × Addr)) (ps:List Pc):Prop where
 lst:H l=some (.lst (ts.map fun t=>V.ref t.1))
 len:ts.length=ps.length
 at_:∀ (i:Nat) t p,ts[i]? = some t->ps[i]? = some p->H t.1=some (.tup [.int p.1,.ref t.2,.int p.2.2])/\H t.2=some (.lst (p.2.1.map V.int))
structure nL (H:Hp) (l:Addr) (ts:List (Addr × Addr)) (ps:List Pc):Prop where
 tup:H l=some (.tup (ts.map fun t=>V.ref t.1))
 len:ts.length=ps.length
 at_:∀ (i:Nat) t p,ts[i]? = some t->ps[i]? = some p->H t.1=some (.tup [.int p.1,.ref t.2,.int p.2.2])/\H t.2=some (.tup (p.2.1.map V.int))
theorem gQ.same {H H':Hp}{l:Addr}{ts:List (Addr × Addr)}{ps:List Pc} (h:gQ H l ts ps) (s:aQ H H'):gQ H' l ts ps :=
 ⟨s _ _ h.lst,h.len,fun i t p ht hp=>⟨s _ _ (h.at_ i t p ht hp).1,s _ _ (h.at_ i t p ht hp).2⟩⟩
noncomputable def NL (H H':Hp):Prop:=∀ b o,(∀ xs,o≠HO.lst xs)->H b=some o->H' b=some o
theorem NL.of {H H':Hp} (s:aQ H H'):NL H H':=fun b o _ e=>s b o e
theorem NL.upd {H:Hp}{a:Addr}{xs:List V}{o:HO} (h:H a=some (.lst xs)):NL H (upd H a o):=fun b o' n e=>by
 have:b≠a:=fun z=>by subst z;rw [h] at e;cases e;exact n xs rfl
 rw [aE this];exact e
theorem nL.nl {H H':Hp}{l:Addr}{ts:List (Addr × Addr)}{ps:List Pc} (h:nL H l ts ps) (s:NL H H'):nL H' l ts ps :=
 ⟨s _ _ (fun _ z=>nomatch z) h.tup,h.len,fun i t p ht hp=>⟨s _ _ (fun _ z=>nomatch z) (h.at_ i t p ht hp).1,s _ _ (fun _ z=>nomatch z) (h.at_ i t p ht hp).2⟩⟩
theorem gQ.get {H:Hp}{l:Addr}{ts:List (Addr × Addr)}{ps:List Pc} (h:gQ H l ts ps) {i:Nat} (hi:i<ts.length):∃ p,ps[i]? = some p/\H (ts[i]).1=some (.tup [.int p.1,.ref (ts[i]).2,.int p.2.2])/\H (ts[i]).2=some (.lst (p.2.1.map V.int)):=by
 have hp:ps[i]? = some (ps[i]'(by rw [<- h.len];exact hi)):=Zsn _
 exact ⟨_,hp,h.at_ i _ _ (Zsn hi) hp⟩
theorem nL.get {H:Hp}{l:Addr}{ts:List (Addr × Addr)}{ps:List Pc} (h:nL H l ts ps) {i:Nat} (hi:i<ts.length):∃ p,ps[i]? = some p/\H (ts[i]).1=some (.tup [.int p.1,.ref (ts[i]).2,.int p.2.2])/\H (ts[i]).2=some (.tup (p.2.1.map V.int)):=by
 have hp:ps[i]? = some (ps[i]'(by rw [<- h.len];exact hi)):=Zsn _
 exact ⟨_,hp,h.at_ i _ _ (Zsn hi) hp⟩
theorem TQ (ts:List (Addr × Addr)) {i:Nat} (hi:i<ts.length):(ts.map fun t=>V.ref t.1).getD i .non=.ref (ts[i]).1:=by
 rw [Zsy,Zsu,Zsn hi]
 rfl
noncomputable def iA (m:Nat) (ps:List Pc):List Int:=((Zsj m).map fun i:Nat=>1+(i:Int)) ++ ps.map (·.1)
noncomputable def ni (m:Nat) (ps:List Pc):Int:=(ps.map (·.1)).getLastD m
structure WPc (m:Nat) (ps:List Pc) (p:Pc):Prop where
 up:ni m ps<p.1
 hi:p.1<=999
 l1:1<=p.2.1.length
 l6:p.2.1.length<=6
 jD:p.2.1.Pairwise (· < ·)
 kn:∀ x∈p.2.1,x∈iA m ps
 t0:0<=p.2.2
 t1:p.2.2<((2 ^ 2 ^ p.2.1.length:Nat):Int)
noncomputable def WP (m:Nat) (ps:List Pc):Prop:=∀ i p,ps[i]? = some p->WPc m (ps.take i) p
structure WT (m:Nat) (ps:List Pc) (ao:List Int):Prop where
 l1:1<=ao.length
 lh:ao.length<=100
 vk:∀ t∈ao,0<=t/\(t / 2=0\/t / 2∈iA m ps)
theorem Yc (m:Nat) (ps:List Pc) (p:Pc):ni m (ps ++ [p])=p.1:=by
 unfold ni
 rw [Zss]
 simp
theorem Kq (m:Nat) (ps:List Pc) (p:Pc):iA m (ps ++ [p])=iA m ps ++ [p.1]:=by
 unfold iA
 rw [Zss,Ztv]
 rfl
theorem Ir {ps:List Pc}{i:Nat}{p:Pc} (h:ps[i]? = some p):ps.take (i+1)=ps.take i ++ [p]:=by rw [ZsK,h];rfl
theorem ZpJ {α:Type} (xs:List α):(xs.map fun _=>true).all id=true:=by
 rw [Ztb,ZsQ]
 intro _ _
 rfl
noncomputable def Qk (K:ZrF):Sp:=fun vs H Q _=>∃ (c d:Addr) (xs:List Int) (kvs:List (Key × V)),vs=[.ref c,.ref d]/\bg K H c (xs.map V.int)/\H d=some (.dK kvs)/\1<=xs.length/\xs.length<=6/\xs.Pairwise (· < ·)/\(∀ x∈xs,(bC kvs (.inl x)).isSome=true)/\∀ H',aQ H H'->Q (.bl true) H'
noncomputable def NG (a:bZ) (K:ZrF):TS:=(aI (du (ki (bW (ax (cV fun i j=>.bl (decide (i<j))) (cH (lj K) (ah (aa 0) ar)) (tC (.int 1)))) (bW (ax (cV fun i j=>.bl (decide (j<i))) (cH (lj K) (ah (aa 0) ar)) (tC (Ka a))))) (cz (tC (.bl false))) dQ)
  (aI (du (lA (iU K (cH (nY K) (ah (eN (eU K (aa 0)) 1 [1] (aC 0) gr (uZ (cB (D1 K) [] E0 (ah (aa 0) ar)) (nP (aa 0) (aa 1)))) ar)))) (cz (tC (.bl false))) dQ)
  (cz (cB (PX K) [] E0 (ah (aa 0) ar)))))
theorem Zjj (T:Txt K mg a):TM P w K mg base 1 "is_cut_of" Ae KY a.fD (NG a K) :=
 fun hr=>(aK (dJ (PW.pt (kX (cW qr (eV lU (by rfl) T.cc PySem.boot_len (ai (cv 0) aw)) aH (cU _)) (nj (cW yD (eV lU (by rfl) T.cc PySem.boot_len (ai (cv 0) aw)) (rD rfl T.iP) (cU _))))) (aL (cC jM)) eE)
   (aK (dJ (mC (kE (eV (Iy rfl) (by rfl) T.kg PyProof.Rows.boot_all (ai (jl (N:=["lower","lowers"]) (k:=1) (sel:=[1]) (az.of (aW Ae).names (by decide +kernel)) (aF.of KY (by decide +kernel)) rfl (gw (cv 0)) (fun _ _ _ _=>(cj (i:=0) (show Zsv (["lower","lowers"]:List Str) by decide +kernel) rfl (by walk_at "o"))) (fun _ _ _ _=>jq) (fun _ _ _ _=>(JN (cK T.ez (Pf T) (hm hr) bE (ai (cv 0) aw)) (Iw (K5 (ID (eG hr) (cv 0) (cv 1))))))) aw)))) (aL (cC jM)) eE)
   (aL (cC (cK T.fE (Te T) (hm hr) bE (ai (cv 0) aw))))))
theorem Y2 (T:Txt K mg a):aG P w K mg base dw 2 a.fD a.ia ["cut","lowers"] (Qk K):=by
 refine T.h9.n.dO W8 (Zjj T) (fun vs H Q E h=>?_) (fun H vs Q E h=>?_)
 ·obtain ⟨c,d,xs,kvs,rfl,_⟩:=h;rfl
 ·obtain ⟨c,d,xs,kvs,rfl,hc,hd,h1,h6,hr,hk,q⟩:=h
  show NG a K _ [some (.ref c),some (.ref d)] H
  unfold NG Ka
  have big:(20000:Nat)<=sizeLine:=by decide
  walk_at "gs"
  refine .inl ⟨_,.inl hc,?_⟩
  rw [Zsh]
  rw [if_neg (show ¬ ((xs.length:Int)<1) by omega)]
  refine .inl ⟨_,.inl hc,?_⟩
  rw [Zsh]
  rw [if_neg (show ¬ ((6:Int)<(xs.length:Int)) by omega)]
  walk_at "gs"
  refine ⟨⟨_,hc⟩,qN (fun _=>.bl true) hc rfl (by rw [Zsh];omega) ?_ ?_⟩
  ·intro v H' Q' hv s' q'
   obtain ⟨y,hy,rfl⟩:=Zsi.mp hv
   walk_at "gs"
   refine TR ?_
   walk_at "gs"
   refine ⟨d,_,rfl,eB.k (k:=.inl y) (s' _ _ hd),?_⟩
   rw [hk y hy]
   exact q'
  intro lp H1 n1
  have e1:(xs.map V.int).map (fun _=>V.bl true)=(xs.map fun _=>true).map V.bl:=by rw [Zso,Zso];rfl
  rw [e1] at n1
  walk_at "gs"
  refine ⟨_,n1.sq,?_⟩
  rw [ZpJ]
  walk_at "gs"
  refine ⟨c,xs,rfl,n1.same.seq hc,by omega,fun H2 s2=>?_⟩
  rw [(MF.Ts xs).mpr (MF.K8 hr)]
  exact q H2 (n1.same.trans s2)
noncomputable def Sy (_:ZrF):Sp:=fun vs H Q _=>∃ (m:Nat) (l:Addr) (ts:List (Addr × Addr)) (ps:List Pc),vs=[.int m,.ref l]/\gQ H l ts ps/\WP m ps/\m<=10/\ps.length<=1000 /\
 ∀ d kvs H',nS H d (.dK kvs) H'->(∀ x:Int,(bC kvs (.inl x)).isSome=decide (x∈iA m ps))->Q (.ref d) H'
noncomputable def OP (a:bZ) (K:ZrF):TS:=(aI (bV (cH (sY K) (ah (eN (sh (ah (tC (.int 1)) (ah (ax iJ (aa 0) (tC (.int 1))) ar))) 1 [] (aC 0) gr (kq (ah (aa 0) (ah (tC (.bl true)) ar)))) ar)) (aC 2))
  (aI (bV (aa 0) (aC 3))
  (aI (fP (eU K (aa 1)) (rM K 3 (jk (aC 4) (jk (aC 5) (jk (aC 6) rS)))) (aI (du (ki (lA (iU K (cB (zQ K) [] E0 (ah (aa 4) (ah (ax iJ (aa 3) (tC (.int 1))) (ah (tC (Lq a)) ar)))))) (lA (iU K (cB (Qk K) [] E0 (ah (aa 5) (ah (aa 2) ar)))))) xy dQ)
  (aI (du (lA (iU K (cB (zQ K) [] E0 (ah (aa 6) (ah (tC (.int 0)) (ah (cB (Mq K) [] E0 (ah (cH (lj K) (ah (aa 5) ar)) ar)) ar)))))) xy dQ)
  (aI (mX (aa 2) (aa 4) (tC (.bl true)))
  (bV (aa 4) (aC 3))))))
  (cz (aa 2)))))
theorem Z1 (T:Txt K mg a):TM P w K mg base 2 "need_pieces" Ak P0 a.dF (OP a K) :=
 fun hr=>(aK (cA (i:=2) xF.nd rfl (by walk_at "o") (lK (Ar rfl) (by rfl) T.d5 PyProof.Rows.boot_dict (ai (jl (N:=["knot"]) (k:=1) (sel:=[]) (az.of (aW Ak).names (by decide +kernel)) (aF.of P0 (by decide +kernel)) rfl (IH rfl T.bu (ai aH (ai (aX jr (cv 0) aH) aw))) (fun _ _ _ _=>(cj (i:=0) (show Zsv (["knot"]:List Str) by decide +kernel) rfl (by walk_at "o"))) (fun _ _ _ _=>jq) (fun _ _ _ _=>(mF (ai (cv 0) (ai jM aw))))) aw)))
   (aK (cA (i:=3) xF.nd rfl (by walk_at "o") (cv 0))
   (aK (jn PassesOwn.never rfl (gw (cv 1)) (uq rfl (jR (cj (i:=4) xF.nd rfl (by walk_at "o")) (jR (cj (i:=5) xF.nd rfl (by walk_at "o")) (jR (cj (i:=6) xF.nd rfl (by walk_at "o")) vE)))) (aK (dJ (PW.pt (kX (mC (kE (cK T.cy (Ik T) (hm hr) bE (ai (cv 4) (ai (aX jr (cv 3) aH) (ai (rD rfl T.g9) aw)))))) (nj (mC (kE (cK T.h9 (Y2 T) (hm hr) bE (ai (cv 5) (ai (cv 2) aw)))))))) (aL Ga) eE)
   (aK (dJ (mC (kE (cK T.cy (Ik T) (hm hr) bE (ai (cv 6) (ai aH (ai (cK T.dB (TZ T) (hm hr) bE (ai (eV lU (by rfl) T.cc PySem.boot_len (ai (cv 5) aw)) aw)) aw)))))) (aL Ga) eE)
   (aK (pJ (eG hr) (cv 2) (cv 4) jM rfl)
   (aL (cA (i:=3) xF.nd rfl (by walk_at "o") (cv 4)))))))
   (aL (cC (cv 2))))))
theorem ZhB (T:Txt K mg a):aG P w K mg base dw 3 a.dF a.fX ["many","pieces"] (Sy K):=by
 refine T.fZ.n.dO xF (Z1 T) (fun vs H Q E h=>?_) (fun H vs Q E h=>?_)
 ·obtain ⟨m,l,ts,ps,rfl,_⟩:=h;rfl
 ·obtain ⟨m,l,ts,ps,rfl,hP,wp,qC,hz,q⟩:=h
  show OP a K _ [some (.int m),some (.ref l),none,none,none,none,none] H
  unfold OP Lq
  have big:(20000:Nat)<=sizeLine:=by decide
  have tM:=hP.len
  walk_at "gs"
  refine ⟨_,_,rfl,⟨by decide,by decide,by omega,by omega⟩,?_⟩
  rw [show ((m:Int)+1 - 1).toNat=m by omega]
  refine fun lp yE=>G6 (n:=m) (item:=fun i=>.int ((1:Int)+(i:Nat))) (fun σ=>∃ v,σ=[v]) (fun i H2=>∃ us,H2 lp=some (.lst us)/\us.length=i/\aQ H H2/\∀ j:Nat,j<i->∃ t,us[j]? = some (.ref t)/\H2 t=some (.tup [.int (1+(j:Int)),.bl true])) ⟨_,rfl⟩ ⟨[],bR,rfl,iy yE,fun j hj=>absurd hj (ZtT _)⟩ ?_ ?_ ?_ ?_
  ·intro i H2 hi _
   exact ⟨hi,fun x H5 hy=>hy⟩
  ·intro H2 _
   exact ZtJ _
  ·rintro i σ2 H2 R hi ⟨v,rfl⟩ ⟨us,h1,h2,s2,h4⟩ hR
   walk_at "gs"
   refine ⟨by show 2<=sizeLine;decide,fun t5 H5 n5=>?_⟩
   have uk:=n5.same _ _ h1
   have vf:t5≠lp:=(cn h1 n5.aD).symm
   refine ⟨us,uk,by omega,hR _ _ ⟨_,rfl⟩ ⟨us ++ [.ref t5],bR,by rw [Zsm,h2];rfl,(s2.trans n5.same).put yE,fun j hj=>?_⟩⟩
   by_cases mf:j<i
   ·obtain ⟨t',g1,g2⟩:=h4 j mf
    exact ⟨t',by rw [ZsA (by omega)];exact g1,by rw [aE (eA g2 h1 (fun z=>nomatch z))];exact n5.same _ _ g2⟩
   ·have hj':j=i:=by omega
    subst hj'
    exact ⟨t5,by rw [<- h2];simp,by rw [aE vf];exact n5.at_⟩
  rintro H2 ⟨us,h1,h2,s2,h4⟩
  walk_at "gs"
  refine ⟨us,((Zsj m).map fun i:Nat=>1+(i:Int)).map fun x=>(.inl x,.bl true),h1,by rw [h2,Zsh,Zsh,ZsF],by rw [Zsh,Zsh,ZsF];omega,fun j pr hj=>?_,fun d H3 n3=>?_⟩
  ·rw [Zso,Zsu] at hj
   cases hx:(Zsj m)[j]? with
   | none=>rw [hx] at hj;cases hj
   | some x =>
    rw [hx] at hj
    cases hj
    have QC:j<m:=by have:=(Zsk.mp hx).1;rwa [ZsF] at this
    rw [List.getElem?_range QC] at hx
    cases hx
    exact h4 j QC
  have Uc:∀ x:Int,(bC (eO [] (((Zsj m).map fun i:Nat=>1+(i:Int)).map fun x=>((.inl x:Key),V.bl true))) (.inl x)).isSome=decide (x∈iA m []):=fun x=>by
   have:=Ad ((Zsj m).map fun i:Nat=>1+(i:Int)) x []
   unfold iA
   rw [ZsY,ZsT]
   simpa [eO,bC] using this
  have hlen:(eO [] (((Zsj m).map fun i:Nat=>1+(i:Int)).map fun x=>((.inl x:Key),V.bl true))).length<=m:=by
   have key:∀ (ks:List Int) (acc:List (Key × V)),((ks.map fun x=>((.inl x:Key),V.bl true)).foldl (fun acc kv=>cJ acc kv.1 kv.2) acc).length<=acc.length+ks.length:=by
    intro ks
    induction ks with
    | nil=>intro acc;simp
    | cons k r ih =>
     intro acc
     rw [Zsw,ZsU,ZsB]
     dsimp only
     have:=ih (cJ acc (.inl k) (.bl true))
     have:=wB acc (.inl k) (.bl true)
     omega
   have:=key ((Zsj m).map fun i:Nat=>1+(i:Int)) []
   rw [Zsh,ZsF] at this
   simpa [eO] using this
  generalize eO [] (((Zsj m).map fun i:Nat=>1+(i:Int)).map fun x=>((.inl x:Key),V.bl true))=kv0 at n3 Uc hlen
  have iQ:=s2.trans n3.same
  have yC:H d=none:=s2.nil n3.aD
  walk_at "gs"
  refine ⟨⟨_,.of (iQ _ _ hP.lst)⟩,qj (xs:=ts.map fun t=>V.ref t.1) (fun i σ H4=>aQ H H4/\∃ (kvs:List (Key × V)) (v4 v5 v6:Option V),H4 d=some (.dK kvs)/\kvs.length<=m+i/\(∀ x:Int,(bC kvs (.inl x)).isSome=decide (x∈iA m (ps.take i)))/\σ=[some (.int m),some (.ref l),some (.ref d),some (.int (ni m (ps.take i))),v4,v5,v6]) ⟨iQ,kv0,_,_,_,n3.at_,by omega,Uc,rfl⟩ ?_ ?_ ?_⟩
  ·rintro i σ H4 _ ⟨s4,_⟩
   exact .of (s4 _ _ hP.lst)
  ·rintro i v σ H4 hv ⟨s4,kvs,v4,v5,v6,h4,hl4,t6,rfl⟩
   have hi:i<ts.length:=by have:=(Zsk.mp hv).1;rwa [Zsh] at this
   rw [Zsu,Zsn hi] at hv
   have ev:V.ref (ts[i]).1=v:=Option.some.inj hv
   subst ev
   clear hv
   obtain ⟨p,hp,qP,mv⟩:=(hP.same s4).get hi
   obtain ⟨w1,w2,w3,w4,w5,w6,w7,w8⟩:=wp i p hp
   have tN:=Ir hp
   generalize (ts[i]).1=t1 at *
   generalize (ts[i]).2=t2 at *
   have DR:((mT p.2.1.length:Nat):Int)=((2 ^ 2 ^ p.2.1.length:Nat):Int) - 1:=by
    unfold mT
    have h1:1<=2 ^ 2 ^ p.2.1.length:=Nat.one_le_two_pow
    omega
   walk_at "gs"
   refine ⟨t1,_,rfl,.of qP,rfl,_,_,rfl,_,_,rfl,_,_,rfl,rfl,?_⟩
   walk_at "gs"
   refine Mn ?_
   rw [decide_eq_true (show ni m (ps.take i)+1<=p.1/\p.1<=999 by omega)]
   walk_at "gs"
   refine ⟨t2,d,p.2.1,kvs,rfl,.of mv,h4,w3,w4,w5,fun x hx=>by rw [t6];exact decide_eq_true (w6 x hx),fun H5 s5=>?_⟩
   walk_at "gs"
   refine .inl ⟨_,.inl (.of (s5 _ _ mv)),?_⟩
   rw [Zsh]
   refine ⟨_,rfl,by omega,?_⟩
   refine Mn ?_
   rw [DR,decide_eq_true (show (0:Int)<=p.2.2/\p.2.2<=((2 ^ 2 ^ p.2.1.length:Nat):Int) - 1 from ⟨w7,by generalize ((2 ^ 2 ^ p.2.1.length:Nat):Int)=Z at w8 ⊢;omega⟩)]
   walk_at "gs"
   refine ⟨d,_,rfl,pO.k (k:=.inl p.1) (s5 _ _ h4) (by omega),(s4.trans s5).put yC,_,some (.int p.1),some (.ref t2),some (.int p.2.2),bR,?_,fun x=>?_,?_⟩
   ·have:=wB kvs (.inl p.1) (V.bl true)
    omega
   ·rw [tN,Kq,pL]
    by_cases e:x=p.1
    ·subst e
     rw [if_pos rfl]
     simp
    ·rw [if_neg (fun z=>e (Sum.inl.inj z)),t6 x,decide_eq_decide,Zsq,Zsl]
     exact ⟨.inl,fun z=>z.resolve_right e⟩
   ·rw [tN,Yc]
  ·rintro σ H4 ⟨s4,kvs,v4,v5,v6,h4,hl4,t6,rfl⟩
   rw [Zsh,tM,ZsI] at t6
   walk_at "gs"
   exact q d kvs H4 ⟨yC,h4,s4⟩ t6
noncomputable def T3 (K:ZrF):Sp:=fun vs H Q _=>∃ (tp d:Addr) (ao:List Int) (kvs:List (Key × V)) (m:Nat) (ps:List Pc),vs=[.ref tp,.ref d]/\bg K H tp (ao.map V.int)/\H d=some (.dK kvs)/\(∀ x:Int,(bC kvs (.inl x)).isSome=decide (x∈iA m ps))/\WT m ps ao/\Q .non H
noncomputable def Pq (K:ZrF):TS:=(aI (du (bW (ax (cV fun i j=>.bl (decide (i<j))) (cH (lj K) (ah (aa 0) ar)) (tC (.int 1)))) xy dQ)
  (fP (eU K (aa 0)) (aC 2) (du (ki (lA (iU K (cB (D1 K) [] E0 (ah (aa 2) ar)))) (nE (bW (ax (vM K) (ax (cI hJ fun i j=>.int (i / j)) (aa 2) (tC (.int 2))) (tC (.int 0)))) (bW (oM (ax (cI hJ fun i j=>.int (i / j)) (aa 2) (tC (.int 2))) (aa 1))))) xy dQ)))
theorem Zjg (T:Txt K mg a):TM P w K mg base 1 "need_ties" AY SK a.e7 (Pq K) :=
 fun hr=>(aK (dJ (cW qr (eV lU (by rfl) T.cc PySem.boot_len (ai (cv 0) aw)) aH (cU _)) (aL Ga) eE)
   (aL (jn PassesOwn.never rfl (gw (cv 0)) (cj (i:=2) RA.nd rfl (by walk_at "o")) (aL (dJ (PW.pt (kX (mC (kE (cK T.ez (Pf T) (hm hr) bE (ai (cv 2) aw)))) (nj (PW.pt (IP (cW (pU (i4 hr)) (aX iC (cv 2) aH) aH (cU _)) (HN (rA (su (eG hr) (aX iC (cv 2) aH) (cv 1))))))))) (aL Ga) eE)))))
theorem Yt (T:Txt K mg a):aG P w K mg base dw 2 a.e7 a.iw ["ties","lowers"] (T3 K):=by
 refine T.ib.n.dO RA (Zjg T) (fun vs H Q E h=>?_) (fun H vs Q E h=>?_)
 ·obtain ⟨tp,d,ao,kvs,m,ps,rfl,_⟩:=h;rfl
 ·obtain ⟨tp,d,ao,kvs,m,ps,rfl,hT,hd,hk,wt,q⟩:=h
  show Pq K _ [some (.ref tp),some (.ref d),none] H
  unfold Pq
  have w1:=wt.l1
  walk_at "gs"
  refine .inl ⟨_,.inl hT,?_⟩
  rw [Zsh,if_neg (show ¬ ((ao.length:Int)<1) by omega)]
  walk_at "gs"
  refine ⟨⟨_,hT⟩,qj (xs:=ao.map V.int) (fun i σ H2=>H2=H/\∃ v2,σ=[some (.ref tp),some (.ref d),v2]) ⟨rfl,_,rfl⟩ ?_ ?_ ?_⟩
  ·rintro i σ H2 _ ⟨rfl,_⟩
   exact hT
  ·rintro i v σ H2 hv ⟨rfl,v2,rfl⟩
   obtain ⟨t,ht,rfl⟩:=sW hv
   have hw:=wt.vk t (Zsz ht)
   walk_at "gs"
   refine TR ?_
   walk_at "gs"
   by_cases g:t / 2=0
   ·rw [if_neg (by simpa using g)]
    exact ⟨by trivial,_,rfl⟩
   ·rw [if_pos (by simpa using g)]
    walk_at "gs"
    refine ⟨d,_,rfl,eB.k (k:=.inl (t / 2)) hd,?_⟩
    rw [hk,decide_eq_true (hw.2.resolve_left g)]
    walk_at "go"
    exact ⟨by trivial,_,rfl⟩
  ·rintro σ H2 ⟨rfl,v2,rfl⟩
   walk_at "gs"
   exact q
noncomputable def mY (C:Addr) (H:Hp) (x:Addr) (m:Nat) (ps:List Pc) (ao:List Int):Prop :=
 ∃ (dx k tt:Addr) (ts:List (Addr × Addr)),H x=some (.ins C dx [("many",.int m),("kept_pieces",.ref k),("kept_ties",.ref tt)])/\nL H k ts ps/\H tt=some (.tup (ao.map V.int))
theorem mY.nl {C:Addr}{H H':Hp}{x:Addr}{m:Nat}{ps:List Pc}{ao:List Int} (h:mY C H x m ps ao) (s:NL H H'):mY C H' x m ps ao:=by
 obtain ⟨dx,k,tt,ts,h1,h2,h3⟩:=h
 exact ⟨dx,k,tt,ts,s _ _ (fun _ z=>nomatch z) h1,h2.nl s,s _ _ (fun _ z=>nomatch z) h3⟩
theorem mY.same {C:Addr}{H H':Hp}{x:Addr}{m:Nat}{ps:List Pc}{ao:List Int} (h:mY C H x m ps ao) (s:aQ H H'):mY C H' x m ps ao:=h.nl (NL.of s)
noncomputable def M9 (a:bZ) (K:ZrF):Sp:=fun vs H Q _=>∃ (x dx l tp:Addr) (m:Nat) (ts:List (Addr × Addr)) (ps:List Pc) (ao:List Int),vs=[.ref x,.int m,.ref l,.ref tp]/\H x=some (.ins a.aq dx [])/\gQ H l ts ps/\H tp=some (.lst (ao.map V.int))/\WP m ps/\WT m ps ao/\1<=m/\m<=10/\ps.length<=1000 /\
 ∀ H',(∀ b o,b≠x->H b=some o->H' b=some o)->mY a.aq H' x m ps ao->Q .non H'
noncomputable def Me (a:bZ) (K:ZrF):TS:=(aI (du (lA (iU K (cB (zQ K) [] E0 (ah (aa 1) (ah (tC (.int 1)) (ah (tC (JT a)) ar)))))) xy dQ)
  (aI (ix (cB (T3 K) [] E0 (ah (aa 3) (ah (cB (Sy K) [] E0 (ah (aa 1) (ah (aa 2) ar))) ar))))
  (aI (pE K (aa 0) (aa 1) "many")
  (aI (pE K (aa 0) (cH (zF K) (ah (eN (eU K (aa 2)) 3 [] (rM K 3 (jk (aC 0) (jk (aC 1) (jk (aC 2) rS)))) gr (kq (ah (aa 0) (ah (cH (zF K) (ah (aa 1) ar)) (ah (aa 2) ar))))) ar)) "kept_pieces")
  (pE K (aa 0) (cH (zF K) (ah (aa 3) ar)) "kept_ties")))))
theorem ZfJ (T:Txt K mg a):TM P w K mg base 3 "Board.__init__" z9 K2 a.bS (Me a K) :=
 fun hr=>(aK (dJ (mC (kE (cK T.cy (Ik T) (hm hr) bE (ai (cv 1) (ai aH (ai (rD rfl T.iV) aw)))))) (aL Ga) eE)
   (aK (i0 (cK T.ib (Yt T) (hm hr) bE (ai (cv 3) (ai (cK T.fZ (ZhB T) (hm hr) bE (ai (cv 1) (ai (cv 2) aw))) aw))))
   (aK (rL (cv 0) (cv 1) rfl)
   (aK (rL (cv 0) (lK MV (by rfl) T.iS PyProof.Rows.boot_tuple (ai (jl (N:=["knot","cut","table"]) (k:=3) (sel:=[]) (az.of (aW z9).names (by decide +kernel)) (aF.of K2 (by decide +kernel)) rfl (gw (cv 2)) (fun _ _ _ _=>(uq rfl (jR (cj (i:=0) (show Zsv (["knot","cut","table"]:List Str) by decide +kernel) rfl (by walk_at "o")) (jR (cj (i:=1) (show Zsv (["knot","cut","table"]:List Str) by decide +kernel) rfl (by walk_at "o")) (jR (cj (i:=2) (show Zsv (["knot","cut","table"]:List Str) by decide +kernel) rfl (by walk_at "o")) vE))))) (fun _ _ _ _=>jq) (fun _ _ _ _=>(mF (ai (cv 0) (ai (lK MV (by rfl) T.iS PyProof.Rows.boot_tuple (ai (cv 1) aw)) (ai (cv 2) aw)))))) aw)) rfl)
   (aL (rL (cv 0) (lK MV (by rfl) T.iS PyProof.Rows.boot_tuple (ai (cv 3) aw)) rfl))))))
theorem Y7 (T:Txt K mg a):aG P w K mg base dw 4 a.bS a.dP ["self","many","pieces","ties"] (M9 a K):=by
 refine T.dS.n.dO ZfN (ZfJ T) (fun vs H Q E h=>?_) (fun H vs Q E h=>?_)
 ·obtain ⟨x,dx,l,tp,m,ts,ps,ao,rfl,_⟩:=h;rfl
 ·obtain ⟨x,dx,l,tp,m,ts,ps,ao,rfl,hx,hP,hT,wp,wt,m1,qC,hz,q⟩:=h
  show Me a K _ [some (.ref x),some (.int m),some (.ref l),some (.ref tp)] H
  unfold Me JT
  have big:(20000:Nat)<=sizeLine:=by decide
  have tM:=hP.len
  walk_at "gs"
  refine Mn ?_
  rw [decide_eq_true (show (1:Int)<=(m:Int)/\(m:Int)<=10 by omega)]
  walk_at "gs"
  refine ⟨m,l,ts,ps,rfl,hP,wp,qC,hz,fun d kvs H1 md hk=>?_⟩
  obtain ⟨_,yq,s1⟩:=md
  refine ⟨tp,d,ao,kvs,m,ps,rfl,.of (s1 _ _ hT),yq,hk,wt,?_⟩
  walk_at "gs"
  refine ⟨x,a.aq,dx,[],rfl,s1 _ _ hx,T.br,T.fY,by decide,?_⟩
  walk_at "gs"
  have rn:upd H1 x (.ins a.aq dx (cL "many" (.int m) [])) x=some (.ins a.aq dx (cL "many" (.int m) [])):=bR
  have s2:∀ b o,b≠x->H b=some o->upd H1 x (.ins a.aq dx (cL "many" (.int m) [])) b=some o:=fun b o n e=>by rw [aE n];exact s1 _ _ e
  generalize upd H1 x (.ins a.aq dx (cL "many" (.int m) []))=H2 at rn s2 ⊢
  have iE:gQ H2 l ts ps:=⟨s2 _ _ (eA hP.lst hx (fun z=>nomatch z)) hP.lst,hP.len,fun i t p ht hp=>⟨s2 _ _ (eA (hP.at_ i t p ht hp).1 hx (fun z=>nomatch z)) (hP.at_ i t p ht hp).1,s2 _ _ (eA (hP.at_ i t p ht hp).2 hx (fun z=>nomatch z)) (hP.at_ i t p ht hp).2⟩⟩
  refine ⟨⟨_,.of iE.lst⟩,fun cp hcp=>G6 (n:=(ts.map fun t=>V.ref t.1).length) (item:=fun i=>(ts.map fun t=>V.ref t.1).getD i .non) (fun σ=>∃ v0 v1 v2,σ=[v0,v1,v2]) (fun i H3=>aQ H2 H3/\∃ us:List (Addr × Addr),H3 cp=some (.lst (us.map fun t=>V.ref t.1))/\us.length=i/\∀ (j:Nat) t p,us[j]? = some t->ps[j]? = some p->H3 t.1=some (.tup [.int p.1,.ref t.2,.int p.2.2])/\H3 t.2=some (.tup (p.2.1.map V.int))) ⟨_,_,_,rfl⟩ ⟨iy hcp,[],bR,rfl,fun j t p ht=>by simp at ht⟩ (Aq (xs:=ts.map fun t=>V.ref t.1) ?_) ?_ ?_ ?_⟩
  ·rintro i H3 _ ⟨s3,_⟩
   exact .of (s3 _ _ iE.lst)
  ·rintro H3 ⟨s3,_⟩
   exact ⟨_,.of (s3 _ _ iE.lst),ZtJ _⟩
  ·rintro i σ3 H3 R hi ⟨v0,v1,v2,rfl⟩ ⟨s3,us,h3,hul,kH⟩ hR
   have hit:i<ts.length:=by rwa [Zsh] at hi
   obtain ⟨p,hp,qP,mv⟩:=(iE.same s3).get hit
   rw [TQ ts hit]
   generalize (ts[i]).1=t1 at *
   generalize (ts[i]).2=t2 at *
   walk_at "gs"
   refine ⟨t1,_,rfl,.of qP,rfl,_,_,rfl,_,_,rfl,_,_,rfl,rfl,?_⟩
   walk_at "gs"
   refine ⟨_,.inl ⟨.of mv,fun c4 H4 n4=>?_⟩⟩
   refine ⟨by show 3<=sizeLine;decide,fun t5 H5 n5=>?_⟩
   have qM:=n4.same.trans n5.same
   have h5:=qM _ _ h3
   have Jx:t5≠cp:=(cn (n4.same _ _ h3) n5.aD).symm
   have xi:c4≠cp:=(cn h3 n4.aD).symm
   refine ⟨_,h5,by rw [Zsh];omega,hR _ _ ⟨_,_,_,rfl⟩ ⟨(s3.trans qM).put hcp,us ++ [(t5,c4)],by rw [bR,Zss];rfl,by rw [Zsm,hul];rfl,fun j t p' ht hp'=>?_⟩⟩
   by_cases mf:j<i
   ·rw [ZsA (by omega)] at ht
    obtain ⟨g1,g2⟩:=kH j t p' ht hp'
    exact ⟨by rw [aE (eA g1 h3 (fun z=>nomatch z))];exact qM _ _ g1,by rw [aE (eA g2 h3 (fun z=>nomatch z))];exact qM _ _ g2⟩
   ·have nV:j<us.length+1:=by have:=(Zsk.mp ht).1;rwa [Zsm] at this
    have hj:j=i:=by omega
    subst hj
    rw [<- hul,ZsC (ZtJ _),ZtQ] at ht
    have et:(t5,c4)=t:=by simpa using ht
    subst et
    rw [hp] at hp'
    cases hp'
    exact ⟨by rw [aE Jx];exact n5.at_,by rw [aE xi];exact n5.same _ _ n4.at_⟩
  rintro H3 ⟨s3,us,h3,hul,kH⟩
  rw [Zsh] at hul
  walk_at "gs"
  refine ⟨_,.inl ⟨.of h3,fun kp H4 n4=>?_⟩⟩
  have IS:=s3.trans n4.same
  refine ⟨x,a.aq,dx,_,rfl,IS _ _ rn,T.br,T.bK,by have:=ph "many" (.int (m:Int)) [];simp only [ZsH] at this;omega,?_⟩
  walk_at "gs"
  have gK:∀ {b:Addr}{o:HO},H4 b=some o->(∀ C d f,o≠.ins C d f)->b≠x:=fun {b o} e n z=>by
   subst z
   rw [IS _ _ rn] at e
   cases e
   exact n _ _ _ rfl
  have HD:upd H4 x (.ins a.aq dx (cL "kept_pieces" (.ref kp) (cL "many" (.int m) []))) x=some (.ins a.aq dx (cL "kept_pieces" (.ref kp) (cL "many" (.int m) []))):=bR
  have u5:∀ b o,b≠x->H4 b=some o->upd H4 x (.ins a.aq dx (cL "kept_pieces" (.ref kp) (cL "many" (.int m) []))) b=some o:=fun b o n e=>by rw [aE n];exact e
  generalize upd H4 x (.ins a.aq dx (cL "kept_pieces" (.ref kp) (cL "many" (.int m) [])))=H5 at HD u5 ⊢
  have Vm:H4 tp=some (.lst (ao.map V.int)):=IS _ _ (s2 _ _ (eA hT hx (fun z=>nomatch z)) hT)
  have X0:=u5 _ _ (gK Vm (fun _ _ _ z=>nomatch z)) Vm
  refine ⟨_,.inl ⟨.of X0,fun tt H6 n6=>?_⟩⟩
  refine ⟨x,a.aq,dx,_,rfl,n6.same _ _ HD,T.br,T.cf,by have h7:=ph "many" (.int (m:Int)) [];have h8:=ph "kept_pieces" (.ref kp) (cL "many" (.int (m:Int)) []);simp only [ZsH] at h7;omega,?_⟩
  have e1:cL "kept_ties" (.ref tt) (cL "kept_pieces" (.ref kp) (cL "many" (.int (m:Int)) []))=([("many",V.int m),("kept_pieces",V.ref kp),("kept_ties",V.ref tt)]:List (Str × V)):=by
   have z1:¬ ("many" : Str) = "kept_pieces":=by decide +kernel
   have z2:¬ ("many" : Str) = "kept_ties":=by decide +kernel
   have z3:¬ ("kept_pieces" : Str) = "kept_ties":=by decide +kernel
   simp [cL,z1,z2,z3]
  have hx6:=n6.same _ _ HD
  have ntx:tt≠x:=(cn HD n6.aD).symm
  have up:∀ b o,b≠x->H4 b=some o->upd H6 x (.ins a.aq dx (cL "kept_ties" (.ref tt) (cL "kept_pieces" (.ref kp) (cL "many" (.int (m:Int)) [])))) b=some o:=fun b o n e=>by rw [aE n];exact n6.same _ _ (u5 _ _ n e)
  refine q _ (fun b o n e=>up _ _ n (IS _ _ (s2 _ _ n e))) ⟨dx,kp,tt,us,by rw [bR,e1],⟨up _ _ (gK n4.at_ (fun _ _ _ z=>nomatch z)) n4.at_,by omega,fun j t p ht hp=>?_⟩,by rw [aE ntx];exact n6.at_⟩
  obtain ⟨g1,g2⟩:=kH j t p ht hp
  have g1':=n4.same _ _ g1
  have g2':=n4.same _ _ g2
  exact ⟨up _ _ (gK g1' (fun _ _ _ z=>nomatch z)) g1',up _ _ (gK g2' (fun _ _ _ z=>nomatch z)) g2'⟩
noncomputable def JW (a:bZ) (_:ZrF):Sp:=fun vs H Q _=>∃ (x:Addr) (m:Nat) (ps:List Pc) (ao:List Int),vs=[.ref x]/\mY a.aq H x m ps ao/\ps.length<=1000 /\
 ∀ l us H',H l=none->aQ H H'->gQ H' l us ps->(∀ t∈us,H t.1=none/\H t.2=none/\t.2≠l)->Q (.ref l) H'
noncomputable def Lx (K:ZrF):TS:=(cz (eN (qB K (fG K (aa 0) "kept_pieces")) 3 [] (rM K 3 (jk (aC 0) (jk (aC 1) (jk (aC 2) rS)))) gr (kq (ah (aa 0) (ah (cH (tf K) (ah (aa 1) ar)) (ah (aa 2) ar))))))
theorem ZgI (T:Txt K mg a):TM P w K mg base 0 "Board.pieces" z8 O1 a.dh (Lx K) :=
 fun hr=>(aL (cC (jl (N:=["knot","cut","table"]) (k:=3) (sel:=[]) (az.of (aW z8).names (by decide +kernel)) (aF.of O1 (by decide +kernel)) rfl (CJ (fU (cv 0) rfl)) (fun _ _ _ _=>(uq rfl (jR (cj (i:=0) (show Zsv (["knot","cut","table"]:List Str) by decide +kernel) rfl (by walk_at "o")) (jR (cj (i:=1) (show Zsv (["knot","cut","table"]:List Str) by decide +kernel) rfl (by walk_at "o")) (jR (cj (i:=2) (show Zsv (["knot","cut","table"]:List Str) by decide +kernel) rfl (by walk_at "o")) vE))))) (fun _ _ _ _=>jq) (fun _ _ _ _=>(mF (ai (cv 0) (ai (lK Fg (by rfl) T.eg PyProof.Rows.boot_list (ai (cv 1) aw)) (ai (cv 2) aw))))))))
theorem QS (T:Txt K mg a):aG P w K mg base dw 1 a.dh a.e8 ["self"] (JW a K):=by
 refine T.bP.n.dO Xi (ZgI T) (fun vs H Q E h=>?_) (fun H vs Q E h=>?_)
 ·obtain ⟨x,m,ps,ao,rfl,_⟩:=h;rfl
 ·obtain ⟨x,m,ps,ao,rfl,hB,hz,q⟩:=h
  show Lx K _ [some (.ref x)] H
  unfold Lx
  have big:(20000:Nat)<=sizeLine:=by decide
  obtain ⟨dx,k,tt,ts,hx,hP,hT⟩:=hB
  have tM:=hP.len
  walk_at "gs"
  refine ⟨x,a.aq,dx,_,_,rfl,hx,T.br,T.bK,rfl,?_⟩
  walk_at "gs"
  refine ⟨⟨_,.of hP.tup⟩,fun cp hcp=>G6 (n:=(ts.map fun t=>V.ref t.1).length) (item:=fun i=>(ts.map fun t=>V.ref t.1).getD i .non) (fun σ=>∃ v0 v1 v2,σ=[v0,v1,v2]) (fun i H3=>aQ H H3/\∃ us:List (Addr × Addr),H3 cp=some (.lst (us.map fun t=>V.ref t.1))/\us.length=i/\(∀ t∈us,H t.1=none/\H t.2=none/\t.2≠cp)/\∀ (j:Nat) t p,us[j]? = some t->ps[j]? = some p->H3 t.1=some (.tup [.int p.1,.ref t.2,.int p.2.2])/\H3 t.2=some (.lst (p.2.1.map V.int))) ⟨_,_,_,rfl⟩ ⟨iy hcp,[],bR,rfl,fun t ht=>by simp at ht,fun j t p ht=>by simp at ht⟩ (Qd (xs:=ts.map fun t=>V.ref t.1) ?_) ?_ ?_ ?_⟩
  ·rintro i H3 _ ⟨s3,_⟩
   exact .of (s3 _ _ hP.tup)
  ·rintro H3 ⟨s3,_⟩
   exact ⟨_,.of (s3 _ _ hP.tup),ZtJ _⟩
  ·rintro i σ3 H3 R hi ⟨v0,v1,v2,rfl⟩ ⟨s3,us,h3,hul,hun,kH⟩ hR
   have hit:i<ts.length:=by rwa [Zsh] at hi
   obtain ⟨p,hp,qP,mv⟩:=(hP.nl (NL.of s3)).get hit
   rw [TQ ts hit]
   generalize (ts[i]).1=t1 at *
   generalize (ts[i]).2=t2 at *
   walk_at "gs"
   refine ⟨t1,_,rfl,.of qP,rfl,_,_,rfl,_,_,rfl,_,_,rfl,rfl,?_⟩
   walk_at "gs"
   refine ⟨_,.inr (.of mv),fun c4 H4 n4=>?_⟩
   refine ⟨by show 3<=sizeLine;decide,fun t5 H5 n5=>?_⟩
   have qM:=n4.same.trans n5.same
   have h5:=qM _ _ h3
   have Jx:t5≠cp:=(cn (n4.same _ _ h3) n5.aD).symm
   have xi:c4≠cp:=(cn h3 n4.aD).symm
   refine ⟨_,h5,by rw [Zsh];omega,hR _ _ ⟨_,_,_,rfl⟩ ⟨(s3.trans qM).put hcp,us ++ [(t5,c4)],by rw [bR,Zss];rfl,by rw [Zsm,hul];rfl,fun t ht=>?_,fun j t p' ht hp'=>?_⟩⟩
   ·rcases Zsq.mp ht with z | z
    ·exact hun t z
    ·rw [Zsl] at z
     subst z
     exact ⟨(s3.trans n4.same).nil n5.aD,s3.nil n4.aD,xi⟩
   by_cases mf:j<i
   ·rw [ZsA (by omega)] at ht
    obtain ⟨g1,g2⟩:=kH j t p' ht hp'
    exact ⟨by rw [aE (eA g1 h3 (fun z=>nomatch z))];exact qM _ _ g1,by rw [aE (hun t (Zsz ht)).2.2];exact qM _ _ g2⟩
   ·have nV:j<us.length+1:=by have:=(Zsk.mp ht).1;rwa [Zsm] at this
    have hj:j=i:=by omega
    subst hj
    rw [<- hul,ZsC (ZtJ _),ZtQ] at ht
    have et:(t5,c4)=t:=by simpa using ht
    subst et
    rw [hp] at hp'
    cases hp'
    exact ⟨by rw [aE Jx];exact n5.at_,by rw [aE xi];exact n5.same _ _ n4.at_⟩
  rintro H3 ⟨s3,us,h3,hul,hun,kH⟩
  rw [Zsh] at hul
  exact q cp us H3 hcp s3 ⟨h3,by omega,kH⟩ hun
noncomputable def P7 (a:bZ) (_:ZrF):Sp:=fun vs H Q _=>∃ (x:Addr) (m:Nat) (ps:List Pc) (ao:List Int),vs=[.ref x]/\mY a.aq H x m ps ao/\∀ l H',fM H l (.lst (ao.map V.int)) H'->Q (.ref l) H'
noncomputable def Nr (K:ZrF):TS:=(cz (cH (tf K) (ah (fG K (aa 0) "kept_ties") ar)))
theorem Zb (T:Txt K mg a):TM P w K mg base 0 "Board.ties" Dp SM a.dX (Nr K) :=
 fun hr=>(aL (cC (lK Fg (by rfl) T.eg PyProof.Rows.boot_list (ai (fU (cv 0) rfl) aw))))
theorem YB (T:Txt K mg a):aG P w K mg base dw 1 a.dX a.gL ["self"] (P7 a K):=by
 refine T.dU.n.dO ZiB (Zb T) (fun vs H Q E h=>?_) (fun H vs Q E h=>?_)
 ·obtain ⟨x,m,ps,ao,rfl,_⟩:=h;rfl
 ·obtain ⟨x,m,ps,ao,rfl,hB,q⟩:=h
  show Nr K _ [some (.ref x)] H
  unfold Nr
  obtain ⟨dx,k,tt,ts,hx,hP,hT⟩:=hB
  walk_at "gs"
  refine ⟨x,a.aq,dx,_,_,rfl,hx,T.br,T.cf,rfl,?_⟩
  walk_at "gs"
  exact ⟨_,.inr (.of hT),fun l H' n=>q l H' n⟩
theorem mk_Board {a:bZ}{K:ZrF}{H:Hp}{m:Nat}{l tp:Addr}{ts:List (Addr × Addr)}{ps:List Pc}{ao:List Int}{F:Addr->Hp->Prop}{E:XK} (hP:gQ H l ts ps) (hT:H tp=some (.lst (ao.map V.int))) (wp:WP m ps) (wt:WT m ps ao) (m1:1<=m) (qC:m<=10) (hz:ps.length<=1000)
  (q:∀ x H',aQ H H'->mY a.aq H' x m ps ao->F x H') :
  ∀ x dx,H x=none->H dx=none->dx≠x->M9 a K [.ref x,.int m,.ref l,.ref tp] (upd (upd H dx (.own x)) x (.ins a.aq dx [])) (fun v H2=>v=.non/\F x H2) E:=by
 intro x dx hx hd gK
 have s0:aQ H (upd (upd H dx (.own x)) x (.ins a.aq dx [])):=fun b o e=>by
  rw [aE (cn e hx),aE (cn e hd)]
  exact e
 refine ⟨x,dx,l,tp,m,ts,ps,ao,rfl,bR,hP.same s0,s0 _ _ hT,wp,wt,m1,qC,hz,fun H' st hB=>⟨rfl,q x H' (fun b o e=>?_) hB⟩⟩
 exact st b o (cn e hx) (s0 _ _ e)
noncomputable def Holds (m:Nat) (ps:List Pc) (g:Int->Nat) (kvs:List (Key × V)):Prop:=∀ x:Int,(x=0\/x∈iA m ps)->bC kvs (.inl x)=some (nv (g x))
theorem known0 {m:Nat}{x:Int} (h:x=0\/x∈iA m []):0<=x/\x<=m:=by
 rcases h with rfl | h
 ·omega
 ·unfold iA at h
  rw [ZsY,ZsT] at h
  obtain ⟨k,hk,rfl⟩:=Zsi.mp h
  have:=ZsL.mp hk
  omega
theorem Holds.put {m:Nat}{ps:List Pc}{g g':Int->Nat}{kvs:List (Key × V)} (h:Holds m ps g kvs) {p:Pc}{v:Nat} (hv:g' p.1=v) (hg:∀ x,x≠p.1->g' x=g x):Holds m (ps ++ [p]) g' (cJ kvs (.inl p.1) (nv v)):=fun x hx=>by
 rw [pL]
 by_cases e:x=p.1
 ·subst e
  rw [if_pos rfl,hv]
 ·rw [if_neg (fun z=>e (Sum.inl.inj z)),hg x e]
  refine h x ?_
  rcases hx with hx | hx
  ·exact .inl hx
  ·rw [Kq] at hx
   rcases Zsq.mp hx with z | z
   ·exact .inr z
   ·exact absurd (Zsl.mp z) e
theorem T8 (v:V) (x:Int):∀ (ks:List Int) (acc:List (Key × V)),bC ((ks.map fun k=>((.inl k:Key),v)).foldl (fun acc kv=>cJ acc kv.1 kv.2) acc) (.inl x)=(if x∈ks then some v else bC acc (.inl x))/\((ks.map fun k=>((.inl k:Key),v)).foldl (fun acc kv=>cJ acc kv.1 kv.2) acc).length<=acc.length+ks.length
 | [],acc=>⟨by simp,ZtJ _⟩
 | k :: r,acc=>by
  obtain ⟨h1,h2⟩:=T8 v x r (cJ acc (.inl k) v)
  have:=wB acc (.inl k:Key) v
  refine ⟨?_,by simp only [Zsw,ZsU,ZsB];omega⟩
  rw [Zsw,ZsU,h1,pL]
  by_cases e:x=k
  ·subst e
   simp
  ·by_cases g:x∈r
   ·rw [if_pos g,if_pos (ZsD _ g)]
   ·rw [if_neg g,if_neg (fun z=>e (Sum.inl.inj z)),if_neg (fun z=>(Zst.mp z).elim e g)]
noncomputable def tF (ps:List Pc) (ao:List Int):List Nat:=ao.map fun t=>MP.gW ps (t / 2)
noncomputable def JY (a:bZ) (_:ZrF):Sp:=fun vs H Q _=>∃ (x:Addr) (m:Nat) (ps:List Pc) (ao:List Int),vs=[.ref x]/\mY a.aq H x m ps ao/\WP m ps/\WT m ps ao/\m<=10/\ps.length<=1000 /\
 ∀ l H',nS H l (.lst ((tF ps ao).map nv)) H'->Q (.ref l) H'
noncomputable def LH (K:ZrF):TS:=(aI (bV (cH (sY K) (ah (eN (om (ah (ax iJ (fG K (aa 0) "many") (tC (.int 1))) ar)) 1 [] (aC 0) gr (kq (ah (aa 0) (ah (tC (.int 0)) ar)))) ar)) (aC 1))
  (aI (fP (qB K (fG K (aa 0) "kept_pieces")) (rM K 3 (jk (aC 2) (jk (aC 3) (jk (aC 4) rS)))) (mX (aa 1) (aa 2) (ax iJ (tC (.int 1)) (cH (Ax K) (ah (eN (qB K (aa 3)) 1 [1] (aC 0) gr (lO (aa 1) (aa 0))) ar)))))
  (cz (eN (qB K (fG K (aa 0) "kept_ties")) 1 [1] (aC 0) gr (lO (aa 1) (ax (cI hJ fun i j=>.int (i / j)) (aa 0) (tC (.int 2))))))))
theorem ZgJ (T:Txt K mg a):TM P w K mg base 0 "Board.depths" tw Gi a.dm (LH K) :=
 fun hr=>(aK (cA (i:=1) GA.nd rfl (by walk_at "o") (lK (Ar rfl) (by rfl) T.d5 PyProof.Rows.boot_dict (ai (jl (N:=["knot"]) (k:=1) (sel:=[]) (az.of (aW tw).names (by decide +kernel)) (aF.of Gi (by decide +kernel)) rfl (uC rfl T.bu (ai (aX jr (fU (cv 0) rfl) aH) aw)) (fun _ _ _ _=>(cj (i:=0) (show Zsv (["knot"]:List Str) by decide +kernel) rfl (by walk_at "o"))) (fun _ _ _ _=>jq) (fun _ _ _ _=>(mF (ai (cv 0) (ai aH aw))))) aw)))
   (aK (jn PassesOwn.never rfl (CJ (fU (cv 0) rfl)) (uq rfl (jR (cj (i:=2) GA.nd rfl (by walk_at "o")) (jR (cj (i:=3) GA.nd rfl (by walk_at "o")) (jR (cj (i:=4) GA.nd rfl (by walk_at "o")) vE)))) (aL (pJ (eG hr) (cv 1) (cv 2) (aX jr aH (eV (II rfl) (by rfl) T.i8 PyProof.Rows.boot_max (ai (jl (N:=["lower","deep"]) (k:=1) (sel:=[1]) (az.of (aW tw).names (by decide +kernel)) (aF.of Gi (by decide +kernel)) rfl (CJ (cv 3)) (fun _ _ _ _=>(cj (i:=0) (show Zsv (["lower","deep"]:List Str) by decide +kernel) rfl (by walk_at "o"))) (fun _ _ _ _=>jq) (fun _ _ _ _=>(nh (eG hr) (cv 1) (cv 0) (fun _ _=>rfl)))) aw))) rfl)))
   (aL (cC (jl (N:=["tie","deep"]) (k:=1) (sel:=[1]) (az.of (aW tw).names (by decide +kernel)) (aF.of Gi (by decide +kernel)) rfl (CJ (fU (cv 0) rfl)) (fun _ _ _ _=>(cj (i:=0) (show Zsv (["tie","deep"]:List Str) by decide +kernel) rfl (by walk_at "o"))) (fun _ _ _ _=>jq) (fun _ _ _ _=>(nh (eG hr) (cv 1) (aX iC (cv 0) aH) (fun _ _=>rfl))))))))
theorem Qw (T:Txt K mg a):aG P w K mg base dw 1 a.dm a.eW ["self"] (JY a K):=by
 refine T.bL.n.dO GA (ZgJ T) (fun vs H Q E h=>?_) (fun H vs Q E h=>?_)
 ·obtain ⟨x,m,ps,ao,rfl,_⟩:=h;rfl
 ·obtain ⟨x,m,ps,ao,rfl,hB,wp,wt,qC,hz,q⟩:=h
  show LH K _ [some (.ref x),none,none,none,none] H
  unfold LH
  have big:(20000:Nat)<=sizeLine:=by decide
  obtain ⟨dx,k,tt,ts,hx,hP,hT⟩:=hB
  have tM:=hP.len
  walk_at "gs"
  refine ⟨x,a.aq,dx,_,_,rfl,hx,T.br,T.fY,rfl,?_⟩
  walk_at "gs"
  rw [show ((m:Int)+1).toNat=m+1 by omega]
  refine fun lp yE=>G6 (n:=m+1) (item:=fun i=>.int ((0:Int)+(i:Nat))) (fun σ=>∃ v,σ=[v]) (fun i H2=>∃ us,H2 lp=some (.lst us)/\us.length=i/\aQ H H2/\∀ j:Nat,j<i->∃ t,us[j]? = some (.ref t)/\H2 t=some (.tup [.int (0+(j:Int)),.int 0])) ⟨_,rfl⟩ ⟨[],bR,rfl,iy yE,fun j hj=>absurd hj (ZtT _)⟩ ?_ ?_ ?_ ?_
  ·intro i H2 hi _
   exact ⟨hi,fun x H5 hy=>hy⟩
  ·intro H2 _
   exact ZtJ _
  ·rintro i σ2 H2 R hi ⟨v,rfl⟩ ⟨us,h1,h2,s2,h4⟩ hR
   walk_at "gs"
   refine ⟨by show 2<=sizeLine;decide,fun t5 H5 n5=>?_⟩
   have uk:=n5.same _ _ h1
   have vf:t5≠lp:=(cn h1 n5.aD).symm
   refine ⟨us,uk,by omega,hR _ _ ⟨_,rfl⟩ ⟨us ++ [.ref t5],bR,by rw [Zsm,h2];rfl,(s2.trans n5.same).put yE,fun j hj=>?_⟩⟩
   by_cases mf:j<i
   ·obtain ⟨t',g1,g2⟩:=h4 j mf
    exact ⟨t',by rw [ZsA (by omega)];exact g1,by rw [aE (eA g2 h1 (fun z=>nomatch z))];exact n5.same _ _ g2⟩
   ·have hj':j=i:=by omega
    subst hj'
    exact ⟨t5,by rw [<- h2];simp,by rw [aE vf];exact n5.at_⟩
  rintro H2 ⟨us,h1,h2,s2,h4⟩
  walk_at "gs"
  refine ⟨us,((Zsj (m+1)).map fun i:Nat=>(0:Int)+(i:Int)).map fun x=>(.inl x,.int 0),h1,by rw [h2,Zsh,Zsh,ZsF],by rw [Zsh,Zsh,ZsF];omega,fun j pr hj=>?_,fun d H3 n3=>?_⟩
  ·rw [Zso] at hj
   obtain ⟨y,hy,rfl⟩:=sW hj
   obtain ⟨nV,hy⟩:=Zsk.mp hy
   rw [List.getElem_range] at hy
   subst hy
   rw [ZsF] at nV
   obtain ⟨t,g1,g2⟩:=h4 j nV
   exact ⟨t,g1,g2⟩
  have iQ:=s2.trans n3.same
  have yC:H d=none:=s2.nil n3.aD
  have TH:=T8 (.int 0)
  generalize hkv:eO [] (((Zsj (m+1)).map fun i:Nat=>(0:Int)+(i:Int)).map fun x=>((.inl x:Key),V.int 0))=kvs0 at n3
  have Zy:Holds m [] (MP.gW []) kvs0:=fun y hy=>by
   have hy:=known0 hy
   rw [<- hkv]
   unfold eO
   rw [(TH y _ _).1,if_pos (Zsi.mpr ⟨y.toNat,ZsL.mpr (by omega),by omega⟩)]
   rfl
  have hl0:kvs0.length<=11:=by
   rw [<- hkv]
   unfold eO
   have:=(TH 0 ((Zsj (m+1)).map fun i:Nat=>(0:Int)+(i:Int)) []).2
   rw [Zsh,ZsF,ZsH] at this
   exact ZtL this (by omega)
  walk_at "gs"
  refine ⟨x,a.aq,dx,_,_,rfl,iQ _ _ hx,T.br,T.bK,rfl,?_⟩
  walk_at "gs"
  refine ⟨⟨_,.of (iQ _ _ hP.tup)⟩,QB (xs:=ts.map fun t=>V.ref t.1) (fun i σ H5=>aQ H H5/\∃ (kvs:List (Key × V)) (v3 v4 v5:Option V),H5 d=some (.dK kvs)/\kvs.length<=11+i/\Holds m (ps.take i) (MP.gW (ps.take i)) kvs/\σ=[some (.ref x),some (.ref d),v3,v4,v5]) ⟨iQ,kvs0,_,_,_,n3.at_,hl0,by rw [Zta];exact Zy,rfl⟩ ?_ ?_ ?_⟩
  ·rintro i σ H5 _ ⟨s5,_⟩
   exact .of (s5 _ _ hP.tup)
  ·rintro i v σ H5 hv ⟨s5,kvs,v3,v4,v5,h5,hl5,hk5,rfl⟩
   have hi:i<ts.length:=by
    have:=(Zsk.mp hv).1
    rwa [Zsh] at this
   obtain ⟨p,hp,qP,mv⟩:=(hP.nl (NL.of s5)).get hi
   have zy:=wp i p hp
   have ev:v=.ref (ts[i]).1:=by
    rw [Zsu,Zsn hi] at hv
    cases hv
    rfl
   subst ev
   generalize (ts[i]).1=t1 at *
   generalize (ts[i]).2=t2 at *
   walk_at "gs"
   refine ⟨t1,_,rfl,.of qP,rfl,_,_,rfl,_,_,rfl,_,_,rfl,rfl,?_⟩
   walk_at "gs"
   have Zi:=zy.l6
   have Oe:=zy.l1
   refine ⟨⟨_,.of mv⟩,UK (fun y=>match y with | .int y=>nv (MP.gW (ps.take i) y) | _=>.non) (.of mv) rfl (by rw [Zsh];omega) ?_ ?_⟩
   ·intro y H' Q' hy s' q'
    obtain ⟨z,hz,rfl⟩:=Zsi.mp hy
    walk_at "gs"
    have g1:=eB.k (k:=.inl z) (s' _ _ h5)
    rw [hk5 z (.inr (zy.kn z hz))] at g1
    exact ⟨d,_,rfl,g1,q'⟩
   intro l6 H6 n6
   have e6:(p.2.1.map V.int).map (fun y=>match y with | .int y=>nv (MP.gW (ps.take i) y) | _=>.non)=(p.2.1.map fun y=>(MP.gW (ps.take i) y:Int)).map V.int:=by rw [Zso,Zso];rfl
   rw [e6] at n6
   have Ti:=n6.same
   walk_at "gs"
   refine ⟨_,n6.sq,by rw [Zsh];exact Oe,fun M hM hle=>?_⟩
   obtain ⟨y,hy,rfl⟩:=Zsi.mp hM
   have eM:MP.sQ (p.2.1.map (MP.gW (ps.take i)))=MP.gW (ps.take i) y:=MP.PF (Zsi.mpr ⟨y,hy,rfl⟩) fun z hz=>by
    obtain ⟨w,hw,rfl⟩:=Zsi.mp hz
    have:=hle _ (Zsi.mpr ⟨w,hw,rfl⟩)
    omega
   have h6:=Ti _ _ h5
   walk_at "gs"
   refine ⟨d,_,rfl,.k (k:=.inl p.1) h6 (by omega),?_⟩
   refine ⟨fun b o e=>?_,_,_,_,_,bR,ZtL (wB ..) (by omega),?_,rfl⟩
   ·rw [aE (cn e yC)]
    exact Ti _ _ (s5 _ _ e)
   ·rw [Ir hp,MP.L8]
    rw [show (1:Int)+(MP.gW (ps.take i) y:Int)=((1+MP.gW (ps.take i) y:Nat):Int) by omega]
    refine hk5.put ?_ fun y hy=>?_
    ·unfold MP.nN
     rw [if_pos rfl,eM]
    ·unfold MP.nN
     rw [if_neg hy]
  ·rintro σ H5 ⟨s5,kvs,v3,v4,v5,h5,hl5,hk5,rfl⟩
   rw [Zsh,tM,ZsI] at hk5
   walk_at "gs"
   refine ⟨x,a.aq,dx,_,_,rfl,s5 _ _ hx,T.br,T.cf,rfl,?_⟩
   have wlh:=wt.lh
   refine ⟨⟨_,.of (s5 _ _ hT)⟩,UK (fun y=>match y with | .int t=>nv (MP.gW ps (t / 2)) | _=>.non) (.of (s5 _ _ hT)) rfl (by rw [Zsh];omega) ?_ ?_⟩
   ·intro y H' Q' hy s' q'
    obtain ⟨t,ht,rfl⟩:=Zsi.mp hy
    walk_at "gs"
    have g1:=eB.k (k:=.inl (t / 2)) (s' _ _ h5)
    rw [hk5 _ (wt.vk t ht).2] at g1
    exact ⟨d,_,rfl,g1,q'⟩
   intro l6 H6 n6
   have e6:(ao.map V.int).map (fun y=>match y with | .int t=>nv (MP.gW ps (t / 2)) | _=>.non)=(tF ps ao).map nv:=by unfold tF;rw [Zso,Zso];rfl
   rw [e6] at n6
   exact q l6 H6 ⟨s5.nil n6.aD,n6.at_,s5.trans n6.same⟩
structure gj (m:Nat) (P:List MF.Pr) (s:Nat) (lv:Nat->Nat):Prop where
 low:∀ k,k<=m->lv k=0
 m5:∀ i,i<P.length->∃ C,ML.kG (aZ (dM m P)) lv s (m+1+i) C
theorem gj.le {m:Nat}{P:List MF.Pr}{s s':Nat}{lv oE:Nat->Nat} (ok:MF.Ok m P) (h:gj m P s lv) (h':gj m P s' oE) (hs:s<=s'):∀ n k,k<n->k<m+1+P.length->oE k<=lv k
 | 0,k,hk,_=>absurd hk (ZtT _)
 | n+1,k,hk,hb=>by
  rcases ZtO m k with z | z
  ·obtain ⟨i,rfl⟩:∃ i,k=m+1+i:=⟨k - m - 1,by omega⟩
   obtain ⟨C,L⟩:=h.m5 i (by omega)
   obtain ⟨C',L'⟩:=h'.m5 i (by omega)
   obtain ⟨c,hc,hl⟩:=L'.low C (ZtL L.len hs) L.oF
   obtain ⟨d1,d2⟩:=L.dn c hc
   have d3:=d1.le (zX ok).lt
   have:=gj.le ok h h' hs n c (by omega) (by omega)
   have:=L.le c hc
   omega
  ·rw [h'.low k z];exact ZtN _
theorem gj.eq {m:Nat}{P:List MF.Pr}{s:Nat}{lv oE:Nat->Nat} (ok:MF.Ok m P) (h:gj m P s lv) (h':gj m P s oE) {k:Nat} (hk:k<m+1+P.length):lv k=oE k :=
 Zt4 (gj.le ok h' h (ZtJ _) (k+1) k (by omega) hk) (gj.le ok h h' (ZtJ _) (k+1) k (by omega) hk)
theorem dv.GU {C:Addr}{S:Addr->Prop}{H:Hp}{x dx ll fc fw:Addr}{m:Nat}{P:List MF.Pr}{s:Nat}{aJ:List Nat}{aU aD:List Addr}{dk:List (List Nat)}{fh:List (List (List Nat))} (h:dv C S H x dx ll fc fw m P s aJ aU aD dk fh) (hc:aU.length=P.length):gj m P s (fun k=>aJ.getD k 0) :=
 ⟨h.low,fun i hi=>⟨dk[i]'(by have:=h.cl;omega),h.m5 i _ (Zsn _)⟩⟩
theorem YL {m:Nat}{P:List MF.Pr} (ok:MF.Ok m P) {lv:Nat->Nat}{s n:Nat}{C:List Nat} (L:ML.kG (aZ (dM m P)) lv s n C) (h1:m<n) (h2:n<1+m+P.length):MF.lX m P n (cX C)=true:=by
  have mem:∀ {j:Nat},(j:Int)∈cX C ↔ j∈C:=fun {j}=>by
    unfold cX
    rw [Zsi]
    exact ⟨fun ⟨y, hy, e⟩ => by have : y = j := by omega
                                rw [<- this];exact hy,fun h=>⟨j,h,rfl⟩⟩
  rw [MF.LU]
  refine ⟨⟨by omega,by omega,fun z=>(L.dn n (mem.mp z)).2 rfl⟩,MF.K8 ?_,fun x hx=>?_,fun j hj=>?_⟩
  · unfold cX
    exact Ztq.mpr (L.jD.imp fun h=>by omega)
  · obtain ⟨y,hy,rfl⟩:=Zsi.mp hx
    rw [Zua]
    exact Zsi.mpr ⟨y,(Lf ok h2).mpr (L.dn y hy).1,rfl⟩
  · have hS:=MF.OU (S:=fun j=>j=n \/ ¬ ML.fQ (aZ (dM m P)) (fun c=>c∈C) j) (fun t ht=>by
      rw [Zsl] at ht
      rw [ht]
      exact .inl (by omega)) (fun i p hp hS kj=>by
      have hn:m+1+i ∉ C:=fun z=>by
        have:MF.eP (cX C) (m+1+i)=true:=decide_eq_true (mem.mpr z)
        rw [this] at kj
        cases kj
      have key:∀ l∈aZ (dM m P) (m+1+i),¬ ML.fQ (aZ (dM m P)) (fun c=>c∈C) l:=fun l hl=>by
        rcases hS with e | e
        · rw [e] at hl;exact L.oF l hl
        · exact fun z=>e (.up hn hl z)
      rw [ue hp] at key
      exact ⟨.inr (key _ (by simp)),.inr (key _ (by simp))⟩) hj
    rcases ZtO m j with z | z
    · exact .inl z
    · refine .inr (mem.mpr (Classical.byContradiction fun kd=>?_))
      rcases hS with e | e
      · omega
      · exact e (.eh kd (OZ z))
theorem Nj {m:Nat}{P:List MF.Pr}{s:Nat}{lv:Nat->Nat} (low:∀ k,k<=m->lv k=0) {ps:List Pc} (wp:WP m ps) (hp:∀ p∈ps,∃ (n:Nat) (C:List Nat),p.1=n/\p.2.1=cX C/\ML.kG (aZ (dM m P)) lv s n C):∀ i,i<=ps.length->∀ x:Nat,(x=0\/(x:Int)∈iA m (ps.take i))->MP.gW (ps.take i) x=lv x
 | 0,_,x,hx=>by
  rw [Zta] at hx ⊢
  have Jh:x<=m:=by
   rcases hx with z | z
   ·omega
   ·unfold iA at z
    rw [ZsY,ZsT,Zsi] at z
    obtain ⟨i,hi,e⟩:=z
    rw [ZsL] at hi
    omega
  rw [low x Jh]
  rfl
 | i+1,hi,x,hx=>by
  have Af:ps[i]? = some ps[i]:=Zsn (by omega)
  have w:=wp i _ Af
  obtain ⟨n,C,e1,e2,L⟩:=hp _ (Zsz Af)
  rw [Ir Af] at hx ⊢
  rw [MP.L8]
  unfold MP.nN
  by_cases e:(x:Int)=(ps[i]).1
  ·rw [if_pos e]
   have exn:x=n:=by omega
   subst exn
   have hm:(ps[i]).2.1.map (MP.gW (ps.take i))=C.map lv:=by
    rw [e2]
    unfold cX
    rw [Zso]
    refine ZsW fun c hc=>?_
    exact Nj low wp hp i (by omega) c (.inr (w.kn _ (by rw [e2];exact Zsi.mpr ⟨c,hc,rfl⟩)))
   rw [hm]
   obtain ⟨c,hc,ht⟩:=L.top
   have:MP.sQ (C.map lv)=lv c:=MP.PF (Zsi.mpr ⟨c,hc,rfl⟩) fun y hy=>by
    obtain ⟨d,hd,rfl⟩:=Zsi.mp hy
    have:=L.le d hd
    omega
   omega
  ·rw [if_neg e]
   refine Nj low wp hp i (by omega) x (hx.imp id fun z=>?_)
   rw [Kq] at z
   rcases Zsq.mp z with g | g
   ·exact g
   ·rw [Zsl] at g
    exact absurd g e
theorem WB {K:ZrF}{σ:L2.St}{sel:List Nat}{H:Hp}{Q:VK}{a:Addr}{ks:List Int}{te:TE} (f:Int->Int) (he:∀ k H' Q',Q' (.int (f k)) H'->te [some (.int k)] H' Q') (hl:bg K H a (ks.map V.int)) (hr:sel.map (fun j=>(σ[j]?).join)=[]) (hz:ks.length<=sizeLine)
  (hQ:∀ p H' us,H p=none->H' p=some (.lst us)->us.length=ks.length->aQ H H'->(∀ (j:Nat) k,ks[j]? = some k->∃ t,us[j]? = some (.ref t)/\H' t=some (.tup [.int (f k),.bl true]))->Q (.ref p) H') :
  oH (kD K a) σ 1 sel (aC 0) gr (kq (ah te (ah (tC (.bl true)) ar))) Q H:=by
 intro p hp
 refine zR (n:=(ks.map V.int).length) (item:=fun i=>(ks.map V.int).getD i .non) (fun i H2=>∃ us,H2 p=some (.lst us)/\us.length=i/\aQ H H2/\∀ (j:Nat) k,j<i->ks[j]? = some k->∃ t,us[j]? = some (.ref t)/\H2 t=some (.tup [.int (f k),.bl true])) hr ⟨[],bR,rfl,iy hp,fun j k hj=>absurd hj (ZtT _)⟩ (Aq ?_) ?_ ?_ ?_
 ·rintro i H2 hi ⟨us,_,_,s2,_⟩
  exact s2.seq hl
 ·rintro H2 ⟨us,_,_,s2,_⟩
  exact ⟨_,s2.seq hl,ZtJ _⟩
 ·rintro i H2 R hi ⟨us,h1,h2,s2,h4⟩ hR
  have hi':i<ks.length:=by rw [Zsh] at hi;exact hi
  have ei:(ks.map V.int).getD i .non=.int ks[i]:=by simp [Zsx,hi']
  unfold gr
  dsimp only
  rw [if_pos rfl,ei]
  simp only [NQ,ah,ar,tC]
  refine he _ _ _ ⟨by show 2<=sizeLine;decide,fun t5 H5 n5=>?_⟩
  have uk:=n5.same _ _ h1
  have vf:t5≠p:=(cn h1 n5.aD).symm
  refine ⟨us,uk,by omega,hR _ ⟨us ++ [.ref t5],bR,by rw [Zsm,h2];rfl,(s2.trans n5.same).put hp,fun j k hj hk=>?_⟩⟩
  by_cases mf:j<i
  ·obtain ⟨t',g1,g2⟩:=h4 j k mf hk
   exact ⟨t',by rw [ZsA (by omega)];exact g1,by rw [aE (eA g2 h1 (fun z=>nomatch z))];exact n5.same _ _ g2⟩
  ·have hj':j=i:=by omega
   subst hj'
   rw [Zsn hi'] at hk
   cases hk
   refine ⟨t5,by rw [<- h2];simp,?_⟩
   rw [aE vf,n5.at_]
 ·rintro H2 ⟨us,h1,h2,s2,h4⟩
  refine hQ p H2 us hp h1 (by rw [h2,Zsh]) s2 fun j k hk=>h4 j k ?_ hk
  rw [Zsh]
  exact (Zsk.mp hk).1
theorem R3 (k:Key):∀ (more kvs:List (Key × V)),(bC (eO kvs more) k).isSome=((bC kvs k).isSome || (bC more k).isSome)
 | [],kvs=>by
  show (bC kvs k).isSome=((bC kvs k).isSome || false)
  rw [Bool.or_false]
 | p :: r,kvs=>by
  show (bC (eO (cJ kvs p.1 p.2) r) k).isSome=_
  rw [R3 k r,pL]
  by_cases e:p.1=k
  ·rw [lJ e]
   subst e
   simp
  ·rw [lW e]
   have e':¬ k=p.1:=fun z=>e z.symm
   simp [e']
theorem tV (ks:List Int) (acc:List (Key × V)):(eO acc (ks.map fun k=>((.inl k:Key),V.bl true))).length<=acc.length+ks.length:=by
 have:=zH (ks.map fun k=>((.inl k:Key),V.bl true)) acc
 rwa [Zsh] at this
structure Laid (m:Nat) (P:List MF.Pr) (s:Nat) (lv:Nat->Nat) (ps:List Pc):Prop where
 m5:gj m P s lv
 wp:WP m ps
 len:ps.length<=32
 pc:∀ p∈ps,∃ (n:Nat) (C:List Nat),p.1=n/\m<n/\n<m+1+P.length/\p.2.1=cX C/\ML.kG (aZ (dM m P)) lv s n C
theorem uE {m:Nat}{P:List MF.Pr} (ok:MF.Ok m P) {n c:Nat} (h:ML.Dn (aZ (dM m P)) n c) (hn:1<=n):1<=c:=by
 induction h with
 | here=>exact hn
 | low h hx ih =>
  obtain ⟨j,p,_,hp,e⟩:=Jg hx
  obtain ⟨o1,o2,_,_⟩:=ok _ _ hp
  rcases e with rfl | rfl <;> omega
structure gI (m:Nat) (P:List MF.Pr) (s:Nat) (lv:Nat->Nat) (ao:List Int) (i:Nat) (jC:List Int) (qs:List Pc):Prop where
 pc:∀ p∈qs,∃ (n:Nat) (C:List Nat),p.1=n/\m+1+P.length<=n+i/\m<n/\n<m+1+P.length/\p.2.1=cX C/\ML.kG (aZ (dM m P)) lv s n C/\0<=p.2.2/\p.2.2<((2 ^ 2 ^ p.2.1.length:Nat):Int)
 Pk:qs.Pairwise fun p q=>q.1<p.1
 len:qs.length<=i
 vk:∀ t∈ao,t / 2∈jC
 sub:∀ p∈qs,∀ c∈p.2.1,c∈jC
 all:∀ n:Nat,(n:Int)∈jC->m<n->n<m+1+P.length->m+1+P.length<=n+i->(n:Int)∈qs.map (·.1)
theorem gI.skip {m:Nat}{P:List MF.Pr}{s:Nat}{lv:Nat->Nat}{ao:List Int}{i:Nat}{jC:List Int}{qs:List Pc} (h:gI m P s lv ao i jC qs) (hn:((m+1+P.length - 1 - i:Nat):Int) ∉ jC):gI m P s lv ao (i+1) jC qs :=
 ⟨fun p hp=>by obtain ⟨n,C,h1,h2,r⟩:=h.pc p hp;exact ⟨n,C,h1,by omega,r⟩,h.Pk,by have:=h.len;omega,h.vk,h.sub,fun n hn' h1 h2 h3=>by
  by_cases e:n=m+1+P.length - 1 - i
  ·rw [e] at hn';exact absurd hn' hn
  ·exact h.all n hn' h1 h2 (by omega)⟩
theorem gI.put {m:Nat}{P:List MF.Pr}{s:Nat}{lv:Nat->Nat}{ao:List Int}{i:Nat}{jC:List Int}{qs:List Pc} (h:gI m P s lv ao i jC qs) (ok:MF.Ok m P) (hi:i<P.length) {C:List Nat}{z:Nat} (L:ML.kG (aZ (dM m P)) lv s (m+1+P.length - 1 - i) C) (hz:z<2 ^ 2 ^ C.length):gI m P s lv ao (i+1) (jC ++ cX C) (qs ++ [(((m+1+P.length - 1 - i:Nat):Int),cX C,(z:Int))]):=by
 have hlen:(cX C).length=C.length:=Zsh ..
 refine ⟨fun p hp=>?_,List.pairwise_append.mpr ⟨h.Pk,by simp,fun p hp q hq=>?_⟩,by rw [Zsm,ZsN];have:=h.len;omega,fun t ht=>ZsG _ (h.vk t ht),fun p hp c hc=>?_,fun n hn h1 h2 h3=>?_⟩
 ·rcases Zsq.mp hp with g | g
  ·obtain ⟨n,C,h1,h2,r⟩:=h.pc p g;exact ⟨n,C,h1,by omega,r⟩
  ·rw [Zsl] at g
   subst g
   exact ⟨_,C,rfl,by omega,by omega,by omega,rfl,L,by show (0:Int)<=(z:Int);omega,by show (z:Int)<((2 ^ 2 ^ (cX C).length:Nat):Int);rw [hlen];exact Int.ofNat_lt.mpr hz⟩
 ·rw [Zsl] at hq
  subst hq
  obtain ⟨n,_,h1,h2,_⟩:=h.pc p hp
  show ((m+1+P.length - 1 - i:Nat):Int)<p.1
  omega
 ·rcases Zsq.mp hp with g | g
  ·exact ZsG _ (h.sub p g c hc)
  ·rw [Zsl] at g
   subst g
   exact ZsE _ hc
 ·rw [Zss,Zsq]
  by_cases e:n=m+1+P.length - 1 - i
  ·right
   rw [e]
   exact Zsl.mpr rfl
  ·left
   refine h.all n ?_ h1 h2 (by omega)
   rcases Zsq.mp hn with g | g
   ·exact g
   ·obtain ⟨c,hc,ec⟩:=Zsi.mp g
    obtain ⟨d1,d2⟩:=L.dn c hc
    have:=d1.le (zX ok).lt
    omega
theorem gI.done {m:Nat}{P:List MF.Pr}{s:Nat}{lv:Nat->Nat}{ao:List Int}{jC:List Int}{qs:List Pc} (h:gI m P s lv ao P.length jC qs) (lt:gj m P s lv) (ok:MF.Ok m P) (hs:s<=6) (hn:m+1+P.length<=32) (t1:1<=ao.length) (yU:ao.length<=100) (Ko:∀ t∈ao,0<=t/\t<2 * (m+1+P.length)):Laid m P s lv qs.reverse/\WT m qs.reverse ao:=by
 have asc:qs.reverse.Pairwise fun p q=>p.1<q.1:=List.pairwise_reverse.mpr h.Pk
 have RY:∀ x:Int,1<=x->x<m+1+P.length->x∈jC->x<=m\/x∈qs.map (·.1):=fun x x1 x2 hx=>by
  obtain ⟨n,rfl⟩:=Zub (by omega:0<=x)
  rcases ZtO m n with z | z
  ·exact .inr (h.all n hx z (by omega) (by omega))
  ·exact .inl (by omega)
 refine ⟨⟨lt,fun i p hp=>?_,by rw [Zti];have:=h.len;omega,fun p hp=>?_⟩,t1,yU,fun t ht=>?_⟩
 ·have QF:p∈qs:=Zts.mp (Zsz hp)
  obtain ⟨n,C,e1,_,n1,n2,e2,L,z0,z1⟩:=h.pc p QF
  have hil:=(Zsk.mp hp).1
  obtain ⟨c0,hc0,_⟩:=L.top
  have G2:p.2.1.length=C.length:=by rw [e2];exact Zsh ..
  have hb:∀ q∈qs.reverse.take i,q.1<p.1:=fun q hq=>by
   obtain ⟨j,hj⟩:=Ztc.mp hq
   rw [List.getElem?_take] at hj
   split at hj
   ·rename_i mf
    obtain ⟨a1,a2⟩:=Zsk.mp hj
    obtain ⟨b1,b2⟩:=Zsk.mp hp
    have:=Zto.mp asc j i a1 b1 mf
    rw [a2,b2] at this
    exact this
   ·cases hj
  refine ⟨?_,by omega,by rw [G2];exact Zty hc0,by rw [G2];have:=L.len;omega,?_,fun x hx=>?_,z0,z1⟩
  ·unfold ni
   rcases ZtH (qs.reverse.take i) with z | ⟨v,q,z⟩
   ·rw [z]
    show (m:Int)<p.1
    omega
   ·rw [z,ZtA,Zss]
    show ((v.map (·.1)) ++ [q.1]).getLastD m<p.1
    rw [List.getLastD_concat]
    exact hb q (by rw [z,ZtA];simp)
  ·rw [e2]
   unfold cX
   exact Ztq.mpr (L.jD.imp fun h=>by omega)
  ·have hx':=h.sub p QF x hx
   rw [e2] at hx
   obtain ⟨c,hc,rfl⟩:=Zsi.mp hx
   obtain ⟨d1,d2⟩:=L.dn c hc
   have d3:=d1.le (zX ok).lt
   have d4:=uE ok d1 (by omega)
   unfold iA
   rw [Zsq]
   rcases RY c (by omega) (by omega) hx' with z | z
   ·exact .inl (Zsi.mpr ⟨c - 1,ZsL.mpr (by omega),by omega⟩)
   ·right
    obtain ⟨q,hq,e⟩:=Zsi.mp z
    have hqr:q∈qs.reverse:=Zts.mpr hq
    obtain ⟨j,hj⟩:=Ztc.mp hqr
    refine Zsi.mpr ⟨q,?_,e⟩
    have mf:j<i:=by
     refine ZtV fun Tz=>?_
     obtain ⟨a1,a2⟩:=Zsk.mp hj
     obtain ⟨b1,b2⟩:=Zsk.mp hp
     rcases Nat.lt_or_eq_of_le Tz with g | g
     ·have:=Zto.mp asc i j b1 a1 g
      rw [a2,b2] at this
      omega
     ·subst g
      rw [hp] at hj
      cases hj
      omega
    exact Zsz (by rw [ZtC mf];exact hj)
 ·obtain ⟨n,C,e1,_,n1,n2,e2,L,_⟩:=h.pc p (Zts.mp hp)
  exact ⟨n,C,e1,n1,n2,e2,L⟩
 ·obtain ⟨t0,t2⟩:=Ko t ht
  refine ⟨t0,?_⟩
  by_cases e:t / 2=0
  ·exact .inl e
  ·right
   unfold iA
   rw [Zsq]
   rcases RY (t / 2) (by omega) (by omega) (h.vk t ht) with z | z
   ·exact .inl (Zsi.mpr ⟨(t / 2 - 1).toNat,ZsL.mpr (by omega),by omega⟩)
   ·right
    rw [List.map_reverse,Zts]
    exact z
noncomputable def Vb (a:bZ) (_:ZrF):Sp:=fun vs H Q _=>∃ (f dx pl kl tp:Addr) (m s:Nat) (es:List En) (ao:List Int),vs=[.ref f,.ref tp,.int s]/\aS a.af H f m es dx pl kl/\MF.Ok m (aA es)/\1<=m/\m<=10/\m+1+es.length<=32/\H tp=some (.lst (ao.map V.int))/\1<=ao.length/\ao.length<=100/\(∀ t∈ao,0<=t/\t<2 * (m+1+es.length))/\2<=s/\s<=6 /\
 ∀ x lv ps H',aQ H H'->mY a.aq H' x m ps ao->Laid m (aA es) s lv ps->WT m ps ao->Q (.ref x) H'
noncomputable def K6 (a:bZ) (K:ZrF):TS:=(aI (bV (zL a.ae (Jf a K) [] E0 (ah (aa 0) (ah (aa 2) ar))) (aC 3))
  (aI (bV (cH (sY K) (ah (eN (eU K (aa 1)) 1 [] (aC 0) gr (kq (ah (ax (cI hJ fun i j=>.int (i / j)) (aa 0) (tC (.int 2))) (ah (tC (.bl true)) ar)))) ar)) (aC 4))
  (aI (bV (jo ar) (aC 5))
  (aI (fP (HA (ah (ax (cV fun i j=>.int (i - j)) (d9 a.af "total" (mK a K) [] E0 (aa 0) ar) (tC (.int 1))) (ah (fG K (aa 0) "many") (ah (vT xu (tC (.int 1))) ar)))) (aC 6) (du (bW (nP (aa 6) (aa 4))) (aI (bV (d9 a.ae "cut" (Q0 a K) [] E0 (aa 3) (ah (aa 6) ar)) (aC 7))
  (aI (ix (pG K "list" qm (aa 5) (ah (kq (ah (aa 6) (ah (aa 7) (ah (cB (RJ a K) [] E0 (ah (aa 0) (ah (aa 6) (ah (aa 7) ar)))) ar)))) ar)))
  (ix (OS (aa 4) (cH (sY K) (ah (eN (eU K (aa 7)) 1 [] (aC 0) gr (kq (ah (aa 0) (ah (tC (.bl true)) ar)))) ar)))))) dQ))
  (aI (ix (pb K "list" Ph (aa 5)))
  (cz (zL a.aq (M9 a K) [] E0 (ah (fG K (aa 0) "many") (ah (aa 5) (ah (aa 1) ar))))))))))
theorem Zqf (T:Txt K mg a):TM P w K mg base 7 "laid" wK Iz a.me (K6 a K) :=
 fun hr=>(aK (cA (i:=3) AB.nd rfl (by walk_at "o") (HX T.mk_Labels (Rm T) (hm hr) rfl T.jI T.cx.b .nil lC (ai (cv 0) (ai (cv 2) aw))))
   (aK (cA (i:=4) AB.nd rfl (by walk_at "o") (lK (Ar rfl) (by rfl) T.d5 PyProof.Rows.boot_dict (ai (jl (N:=["tie"]) (k:=1) (sel:=[]) (az.of (aW wK).names (by decide +kernel)) (aF.of Iz (by decide +kernel)) rfl (gw (cv 1)) (fun _ _ _ _=>(cj (i:=0) (show Zsv (["tie"]:List Str) by decide +kernel) rfl (by walk_at "o"))) (fun _ _ _ _=>jq) (fun _ _ _ _=>(mF (ai (aX iC (cv 0) aH) (ai jM aw))))) aw)))
   (aK (cA (i:=5) AB.nd rfl (by walk_at "o") (kC aw))
   (aK (jn PassesOwn.never rfl (Vt rfl T.bu (ai (aX ql (kz (cv 0) T.av T.aj.e (ny T) (hm hr) T.aj.b .nil bE) aH) (ai (fU (cv 0) rfl) (ai (Ft AU aH) aw)))) (cj (i:=6) AB.nd rfl (by walk_at "o")) (aL (dJ (rA (ID (eG hr) (cv 6) (cv 4))) (aK (cA (i:=7) AB.nd rfl (by walk_at "o") (kB (cv 3) T.ay T.ed.e (ZiN T) (hm hr) T.ed.b .nil lC (ai (cv 6) aw)))
   (aK (i0 (tE Zr7 Zr9 Zsa (o6 rH) (cv 5) (ai (mF (ai (cv 6) (ai (cv 7) (ai (cK T.mO (Xs T) (hm hr) lC (ai (cv 0) (ai (cv 6) (ai (cv 7) aw)))) aw)))) aw)))
   (aL (i0 (ZI (cv 4) (lK (Ar rfl) (by rfl) T.d5 PyProof.Rows.boot_dict (ai (jl (N:=["lower"]) (k:=1) (sel:=[]) (az.of (aW wK).names (by decide +kernel)) (aF.of Iz (by decide +kernel)) rfl (gw (cv 7)) (fun _ _ _ _=>(cj (i:=0) (show Zsv (["lower"]:List Str) by decide +kernel) rfl (by walk_at "o"))) (fun _ _ _ _=>jq) (fun _ _ _ _=>(mF (ai (cv 0) (ai jM aw))))) aw)) ⟨rfl,rfl,rfl,rfl⟩))))) eE)))
   (aK (i0 (MU Zr7 PySem.F.slot_list_reverse PySem.F.type_list_reverse (o6 Wz) (cv 5)))
   (aL (cC (HX T.mk_Board (Y7 T) (hm hr) rfl T.pj T.dS.b .nil bE (ai (fU (cv 0) rfl) (ai (cv 5) (ai (cv 1) aw)))))))))))
theorem ZP (T:Txt K mg a):aG P w K mg base dw 8 a.me a.pf ["fold","ties","size"] (Vb a K):=by
 refine T.pI.n.dO AB (Zqf T) (fun vs H Q E h=>?_) (fun H vs Q E h=>?_)
 ·obtain ⟨f,dx,pl,kl,tp,m,s,es,ao,rfl,_⟩:=h;rfl
 ·obtain ⟨f,dx,pl,kl,tp,m,s,es,ao,rfl,hf,ok,m1,qC,hn,hT,t1,yU,Ko,s2,s6,q⟩:=h
  show K6 a K _ [some (.ref f),some (.ref tp),some (.int s),none,none,none,none,none] H
  unfold K6
  have big:(20000:Nat)<=sizeLine:=by decide
  walk_at "gs"
  refine mk_Labels hf ok (by omega) (by omega) s2 s6 fun x xd ll fc fw H1 aJ aU aD dk fh s1 hx HY hfc hfw hL mV=>?_
  walk_at "gs"
  have Ow:=s1 _ _ hT
  have PU:=hf.same s1
  have mr:(aA es).length=es.length:=Zsh ..
  refine ⟨⟨_,.of Ow⟩,WB (fun t=>t / 2) (fun k H' Q' q'=>?_) (.of Ow) rfl (by omega) fun mq H2 us hmq h2 hul s2' hu=>?_⟩
  ·walk_at "gs"
   exact q'
  walk_at "gs"
  refine ⟨us,ao.map fun t=>((.inl (t / 2):Key),V.bl true),h2,by rw [hul,Zsh],by rw [Zsh];omega,fun j pr hj=>?_,fun nd H3 n3=>?_⟩
  ·obtain ⟨t,ht,rfl⟩:=sW hj
   exact hu j t ht
  walk_at "gs"
  intro lp H4 n4
  have mH:=((s1.trans s2').trans n3.same).trans n4.same
  have HZ:=(s2'.trans n3.same).trans n4.same
  have Ai:=hf.same mH
  refine ⟨f,dx,_,rfl,Ai.ins,rfl,f,dx,pl,kl,m,es,rfl,Ai,?_⟩
  walk_at "gs"
  refine ⟨f,a.af,dx,_,_,rfl,Ai.ins,T.av,T.aN,rfl,?_⟩
  refine ⟨_,_,rfl,⟨by omega,by omega,by omega,by omega⟩,?_⟩
  rw [show (1+(m:Int)+(es.length:Int) - 1 - (m:Int)).toNat=es.length by omega]
  have lt:=hL.GU (by rw [mr];exact mV)
  have Kn:=hL.cl
  obtain ⟨lv,hlv⟩:∃ lv:Nat->Nat,lv=fun k=>aJ.getD k 0:=⟨_,rfl⟩
  rw [<- hlv] at lt
  have Ys:H3 nd=some (.dK (eO [] (ao.map fun t=>((.inl (t / 2):Key),V.bl true)))):=n3.at_
  have iB:H1 nd=none:=s2'.nil n3.aD
  have U4:H1 lp=none:=(s2'.trans n3.same).nil n4.aD
  have QO:nd≠lp:=cn n3.at_ n4.aD
  have e0:eO [] (ao.map fun t=>((.inl (t / 2):Key),V.bl true))=eO [] ((ao.map fun t=>t / 2).map fun k=>((.inl k:Key),V.bl true)):=by rw [Zso];rfl
  refine Tj (fun i σ H5=>aQ H1 H5/\∃ (kvs:List (Key × V)) (jC:List Int) (ts:List (Addr × Addr)) (qs:List Pc) (v6 v7:Option V),H5 nd=some (.dK kvs)/\(∀ x:Int,(bC kvs (.inl x)).isSome=decide (x∈jC))/\kvs.length<=100+6 * i/\gQ H5 lp ts qs/\(∀ t∈ts,t.2≠lp)/\gI m (aA es) s lv ao i jC qs/\σ=[some (.ref f),some (.ref tp),some (.int s),some (.ref x),some (.ref nd),some (.ref lp),v6,v7]) ⟨HZ,_,ao.map fun t=>t / 2,[],[],_,_,n4.same _ _ n3.at_,fun x=>?_,?_,⟨n4.at_,rfl,fun i t p ht=>by simp at ht⟩,fun t ht=>by simp at ht,⟨fun p hp=>by simp at hp,.nil,ZtJ _,fun t ht=>Zsi.mpr ⟨t,ht,rfl⟩,fun p hp=>by simp at hp,fun n _ _ h2 h3=>by omega⟩,rfl⟩ ?_ ?_
  ·rw [e0]
   unfold eO
   rw [Ad]
   simp [bC]
  ·rw [e0]
   have:=tV (ao.map fun t=>t / 2) []
   rw [Zsh,ZsH] at this
   omega
  ·rintro i σ H5 hi ⟨s5,kvs,jC,ts,qs,v6,v7,hnd,rj,B0,hP,zq,I,rfl⟩
   have LV:=hL.same s5
   have Nd:=PU.same s5
   rw [show 1+(m:Int)+(es.length:Int) - 1 - (i:Int)=((m+1+(aA es).length - 1 - i:Nat):Int) by omega]
   walk_at "gs"
   refine ⟨nd,_,rfl,eB.k (k:=.inl ((m+1+(aA es).length - 1 - i:Nat):Int)) hnd,?_⟩
   rw [rj]
   by_cases p5:((m+1+(aA es).length - 1 - i:Nat):Int)∈jC
   case neg =>
    rw [decide_eq_false p5]
    walk_at "go"
    exact ⟨s5,kvs,jC,ts,qs,_,_,hnd,rj,by omega,hP,zq,I.skip p5,rfl⟩
   rw [decide_eq_true p5]
   obtain ⟨C,hC⟩:∃ C,dk[es.length - 1 - i]? = some C:=⟨_,Zsn (by omega)⟩
   have Lb:=hL.m5 _ C hC
   rw [<- hlv,show m+1+(es.length - 1 - i)=m+1+(aA es).length - 1 - i by omega] at Lb
   have pW:=YL ok Lb (by omega) (by omega)
   have G2:=Lb.len
   walk_at "gs"
   refine ⟨x,xd,_,rfl,LV.at_.ins,rfl,x,xd,ll,fc,fw,m,_,aJ,aU,aD,dk,rfl,LV.at_,Kn,fun j c C hc hC=>(LV.cut j c C hc hC).1,fun j C' ej hC' cq H6 n6=>?_,fun z=>absurd ⟨by omega,by omega⟩ z⟩
   have:j=es.length - 1 - i:=by omega
   subst this
   rw [hC] at hC'
   cases hC'
   have NI:=hP.same n6.same
   walk_at "gs"
   refine ⟨.inl ⟨by trivial,_,.of NI.lst⟩,?_⟩
   have hCn:(cX C).length=C.length:=Zsh ..
   refine ⟨f,dx,pl,kl,cq,m,_,cX C,es,rfl,Nd.same n6.same,by rw [zY];exact n6.sq,ok,qC,by omega,by omega,fun _ z H7 hz s7=>?_,fun z=>by rw [pW] at z;cases z⟩
   have Zf:z<2 ^ 2 ^ C.length:=by have:=hz.1;rwa [hCn] at this
   refine ⟨by show 3<=sizeLine;decide,fun t8 H8 n8=>?_⟩
   have Hl:=s7.trans n8.same
   have L4:=NI.same Hl
   have jA:=hP.len
   have hIl:=I.len
   refine ⟨lp,_,_,rfl,rfl,L4.lst,by rw [Zsh];omega,?_⟩
   have Ot:cq≠lp:=(cn hP.lst n6.aD).symm
   have ntl:t8≠lp:=(cn (s7 _ _ NI.lst) n8.aD).symm
   have FH:H8 cq=some (.lst ((cX C).map V.int)):=by rw [zY];exact Hl _ _ n6.at_
   have Km:=Hl _ _ (n6.same _ _ hnd)
   have UJ:gQ (upd H8 lp (.lst ((ts.map fun t=>V.ref t.1) ++ [.ref t8]))) lp (ts ++ [(t8,cq)]) (qs ++ [(((m+1+(aA es).length - 1 - i:Nat):Int),cX C,(z:Int))]):=by
    refine ⟨by rw [bR,Zss];rfl,by rw [Zsm,Zsm,hP.len];rfl,fun j t p ht hp=>?_⟩
    rcases pC ht with g | ⟨g,rfl⟩
    ·have h1:=(Zsk.mp g).1
     rcases pC hp with g' | ⟨g',_⟩
     ·obtain ⟨a1,a2⟩:=L4.at_ j t p g g'
      exact ⟨by rw [aE (eA a1 L4.lst (fun z=>nomatch z))];exact a1,by rw [aE (zq t (Zsz g))];exact a2⟩
     ·omega
    ·rcases pC hp with g' | ⟨_,rfl⟩
     ·have h1:=(Zsk.mp g').1
      omega
     ·exact ⟨by rw [aE ntl];exact n8.at_,by rw [aE Ot];exact FH⟩
   have UP:aQ H1 (upd H8 lp (.lst ((ts.map fun t=>V.ref t.1) ++ [.ref t8]))):=((s5.trans n6.same).trans Hl).put U4
   have nR:upd H8 lp (.lst ((ts.map fun t=>V.ref t.1) ++ [.ref t8])) nd=some (.dK kvs):=by rw [aE QO];exact Km
   have vL:upd H8 lp (.lst ((ts.map fun t=>V.ref t.1) ++ [.ref t8])) cq=some (.lst ((cX C).map V.int)):=by rw [aE Ot];exact FH
   generalize upd H8 lp (.lst ((ts.map fun t=>V.ref t.1) ++ [.ref t8]))=H9 at UJ UP nR vL ⊢
   refine ⟨nd,rfl,.inl ⟨_,.of nR⟩,⟨_,.of vL⟩,J3 (.of vL) rfl (by omega) fun mq H10 us hmq h10 kH s10 hu=>?_⟩
   walk_at "gs"
   refine ⟨us,(cX C).map fun k=>((.inl k:Key),V.bl true),h10,by rw [kH,Zsh],by rw [Zsh];omega,fun j pr hj=>?_,fun d2 H11 n11=>?_⟩
   ·obtain ⟨k,hk,rfl⟩:=sW hj
    exact hu j k hk
   have ju:=s10.trans n11.same
   have XD:nd≠d2:=cn (s10 _ _ nR) n11.aD
   have Uq:=tV (cX C) []
   rw [ZsH] at Uq
   refine ⟨d2,kvs,_,rfl,XD,ju _ _ nR,n11.at_,by omega,(UP.trans ju).put iB,_,jC ++ cX C,ts ++ [(t8,cq)],qs ++ [_],_,_,bR,fun x=>?_,?_,?_,fun t ht=>?_,I.put ok (by omega) Lb Zf,rfl⟩
   ·rw [R3,rj]
    unfold eO
    rw [Ad]
    simp [bC,Zsq,Bool.decide_or]
   ·have:=zH (eO [] ((cX C).map fun k=>((.inl k:Key),V.bl true))) kvs
    omega
   ·have nK:=UJ.same ju
    exact ⟨by rw [aE QO.symm];exact nK.lst,nK.len,fun j t p ht hp=>⟨by rw [aE (eA (nK.at_ j t p ht hp).1 (ju _ _ nR) (fun z=>nomatch z))];exact (nK.at_ j t p ht hp).1,by rw [aE (eA (nK.at_ j t p ht hp).2 (ju _ _ nR) (fun z=>nomatch z))];exact (nK.at_ j t p ht hp).2⟩⟩
   ·rcases Zsq.mp ht with g | g
    ·exact zq t g
    ·rw [Zsl] at g;rw [g];exact Ot
  ·rintro σ H5 ⟨s5,kvs,jC,ts,qs,v6,v7,hnd,rj,B0,hP,zq,I,rfl⟩
   rw [<- mr] at I
   have Nd:=PU.same s5
   obtain ⟨hLd,hWT⟩:=I.done lt ok s6 (by omega) t1 yU (by rw [mr];exact Ko)
   walk_at "gs"
   refine ⟨.inl ⟨by trivial,_,.of hP.lst⟩,lp,_,rfl,trivial,hP.lst,?_⟩
   have Tv:f≠lp:=eA Nd.ins hP.lst (fun z=>nomatch z)
   have s6':aQ H1 (upd H5 lp (.lst (ts.map fun t=>V.ref t.1).reverse)):=s5.put U4
   have Sz:gQ (upd H5 lp (.lst (ts.map fun t=>V.ref t.1).reverse)) lp ts.reverse qs.reverse:=by
    refine ⟨by rw [bR,List.map_reverse],by rw [Zti,Zti,hP.len],fun j t p ht hp=>?_⟩
    have jA:=hP.len
    have nV:j<ts.length:=by have:=(Zsk.mp ht).1;rwa [Zti] at this
    rw [ZtI nV] at ht
    rw [ZtI (by omega)] at hp
    rw [<- jA] at hp
    obtain ⟨a1,a2⟩:=hP.at_ _ t p ht hp
    exact ⟨by rw [aE (eA a1 hP.lst (fun z=>nomatch z))];exact a1,by rw [aE (zq t (Zsz ht))];exact a2⟩
   generalize upd H5 lp (.lst (ts.map fun t=>V.ref t.1).reverse)=H6 at s6' Sz ⊢
   have hf6:=PU.same s6'
   refine ⟨f,a.af,dx,_,_,rfl,hf6.ins,T.av,T.aN,rfl,?_⟩
   have JX:=hLd.len
   intro xb db IA lS gK
   exact mk_Board (K:=K) (F:=fun x H2=>Q (.ref x) H2) Sz (s6' _ _ Ow) hLd.wp hWT m1 qC (by omega) (fun y H7 s7 hB=>q y lv qs.reverse H7 ((s1.trans s6').trans s7) hB hLd hWT) xb db IA lS gK
noncomputable def HW (K:ZrF):Sp:=fun vs H Q _=>∃ (p:Addr) (ns:List Int) (k:Nat),vs=[.ref p,.int k]/\bg K H p (ns.map V.int)/\∀ c,0<=c->Q (.int c) H
noncomputable def Mf (K:ZrF):TS:=(aI (du (bW (ax (cV fun i j=>.bl (decide (i<j))) (aa 1) (cH (lj K) (ah (aa 0) ar)))) (cz (ax (cI (fun _ j=>0<j) fun i j=>.int (i % j)) (ax (eL K) (aa 0) (aa 1)) (ax (cI sF fun i j=>.int (i ^ j.toNat)) (tC (.int 10)) (tC (.int 40))))) dQ)
  (cz (tC (.int 0))))
theorem Zhu (T:Txt K mg a):TM P w K mg base 0 "_law_cell_at" DV R5 a.dI (Mf K) :=
 fun hr=>(aK (dJ (cW qr (cv 1) (eV lU (by rfl) T.cc PySem.boot_len (ai (cv 0) aw)) (cU _)) (aL (cC (aX nH (fB fC (cv 0) (cv 1) (fun _ _=>rfl)) (aX B8 aH aH)))) eE)
   (aL (cC aH)))
theorem M0 (T:Txt K mg a):aG P w K mg base dw 1 a.dI a.fV ["_law_script","_law_k"] (HW K):=by
 refine T.cF.n.dO Zhy (Zhu T) (fun vs H Q E h=>?_) (fun H vs Q E h=>?_)
 ·obtain ⟨p,ns,k,rfl,_⟩:=h;rfl
 ·obtain ⟨p,ns,k,rfl,hS,q⟩:=h
  show Mf K _ [some (.ref p),some (.int k)] H
  unfold Mf
  walk_at "go"
  refine .inl ⟨_,.inl hS,?_⟩
  rw [Zsh]
  by_cases h:(k:Int)<ns.length
  ·rw [if_pos h]
   have p40:(0:Int)<10 ^ (40:Int).toNat:=Int.pow_pos (by decide)
   refine ixI hS (by omega) h ?_
   refine ⟨⟨by omega,by omega⟩,?_⟩
   exact ⟨p40,q _ (Zud _ (by omega))⟩
  ·rw [if_neg h]
   exact q 0 (Int.le_refl _)
theorem ZL {H H' H1:Hp}{pl kl:Addr} (s:aQ H H') (u:kM pl kl H' H1) (hp:H pl=none) (hk:H kl=none):aQ H H1:=fun b o e=>u b o (cn e hp) (cn e hk) (s b o e)
theorem Y1 {t:Int} (h:0<=t) (j:Int) (h0:0<=j) (h1:j<=1):Builtin.bitXor t j=t\/Builtin.bitXor t j=MF.tn t:=by
 have:j=0\/j=1:=by omega
 rcases this with rfl | rfl
 ·left
  obtain ⟨x,rfl⟩:=Zub h
  have:=K3 x 0
  rw [show ((0:Nat):Int)=0 from rfl] at this
  rw [this,Nat.xor_zero]
 ·right;exact Td h
noncomputable def Rz (a:bZ) (K:ZrF):Sp:=fun vs H Q _=>∃ (p:Addr) (ns:List Int) (m:Nat),vs=[.ref p,.int m]/\bg K H p (ns.map V.int)/\2<=m/\m<=6/\ns.length<=63 /\
 ∀ f dx pl kl es H',aQ H H'->aS a.af H' f m es dx pl kl->MF.Ok m (aA es)->es.length<=21->Q (.ref f) H'
noncomputable def Kb (a:bZ) (K:ZrF):TS:=(aI (bV (zL a.af (Oa a K) [] E0 (ah (aa 1) ar)) (aC 2))
  (aI (bV (tC (.int 2)) (aC 3))
  (aI (fP (sh (ah (tC (.int 3)) (ah (cH nX (ah (cH (lj K) (ah (aa 0) ar)) (ah (tC (.int 24)) ar))) ar))) (aC 4) (aI (bV (ax iJ (cB (HW K) [] E0 (ah (aa 0) (ah (aa 4) ar))) (ax mU (tC (.int 4)) (aa 4))) (aC 5))
  (aI (bV (ax (cV fun i j=>.int (i - j)) (ax mU (tC (.int 2)) (d9 a.af "total" (mK a K) [] E0 (aa 2) ar)) (tC (.int 1))) (aC 6))
  (aI (bV (ax (cV fun i j=>.int (i - j)) (aa 6) (ax (cI (fun _ j=>0<j) fun i j=>.int (i % j)) (ax (cI hJ fun i j=>.int (i / j)) (aa 5) (tC (.int 4))) (cH nX (ah (tC (.int 10)) (ah (aa 6) ar))))) (aC 7))
  (aI (bV (ax (cI (fun _ j=>0<j) fun i j=>.int (i % j)) (ax (cI hJ fun i j=>.int (i / j)) (aa 5) (tC (.int 40))) (ax iJ (aa 6) (tC (.int 1)))) (aC 8))
  (du (bW (ax (jS K) (ax (cI (fun _ j=>0<j) fun i j=>.int (i % j)) (aa 5) (tC (.int 4))) (tC (.int 0)))) (ix (d9 a.af "both" (Gp a K) [] E0 (aa 2) (ah (ax (cI (fun _ j=>0<j) fun i j=>.int (i % j)) (ax (cI hJ fun i j=>.int (i / j)) (aa 5) (tC (.int 4))) (ax iJ (aa 6) (tC (.int 1)))) (ah (ax (cI (fun _ j=>0<j) fun i j=>.int (i % j)) (ax (cI hJ fun i j=>.int (i / j)) (ax (cI hJ fun i j=>.int (i / j)) (aa 5) (tC (.int 4))) (ax iJ (aa 6) (tC (.int 1)))) (ax iJ (aa 6) (tC (.int 1)))) ar)))) (du (bW (ax (jS K) (ax (cI (fun _ j=>0<j) fun i j=>.int (i % j)) (aa 5) (tC (.int 4))) (tC (.int 1)))) (ix (d9 a.af "both" (Gp a K) [] E0 (aa 2) (ah (aa 7) (ah (ax (cV fun i j=>.int (i - j)) (aa 6) (ax (cI (fun _ j=>0<j) fun i j=>.int (i % j)) (ax (cI hJ fun i j=>.int (i / j)) (aa 5) (tC (.int 40))) (cH nX (ah (tC (.int 12)) (ah (aa 6) ar))))) ar)))) (aI (bV (d9 a.af "both" (Gp a K) [] E0 (aa 2) (ah (ax (cV fun i j=>.int (Builtin.bitXor i j)) (aa 3) (ax (cI (fun _ j=>0<j) fun i j=>.int (i % j)) (ax (cI hJ fun i j=>.int (i / j)) (aa 5) (tC (.int 4))) (tC (.int 2)))) (ah (aa 8) ar))) (aC 3))
  (du (bW (ax (cV fun i j=>.bl (decide (i<j))) (aa 3) (tC (.int 2)))) (bV (ax iJ (tC (.int 2)) (ax (cI (fun _ j=>0<j) fun i j=>.int (i % j)) (ax (cI hJ fun i j=>.int (i / j)) (aa 5) (tC (.int 4))) (ax mU (tC (.int 2)) (aa 1)))) (aC 3)) dQ)))))))))
  (cz (aa 2)))))
theorem Zht (T:Txt K mg a):TM P w K mg base 3 "_law_fold_by" FR Qg a.dC (Kb a K) :=
 fun hr=>(aK (cA (i:=2) qy.nd rfl (by walk_at "o") (HX T.mk_Fold (ZgA T) (hm hr) rfl T.qL T.eJ.b .nil bE (ai (cv 1) aw)))
   (aK (cA (i:=3) qy.nd rfl (by walk_at "o") aH)
   (aK (jn PassesOwn.never rfl (IH rfl T.bu (ai aH (ai (eV (HJ rfl) (by rfl) T.j5 PyProof.Rows.boot_min (ai (eV lU (by rfl) T.cc PySem.boot_len (ai (cv 0) aw)) (ai aH aw))) aw))) (cj (i:=4) qy.nd rfl (by walk_at "o")) (aK (cA (i:=5) qy.nd rfl (by walk_at "o") (aX jr (cK T.cF (M0 T) (hm hr) bE (ai (cv 0) (ai (cv 4) aw))) (aX ox aH (cv 4))))
   (aK (cA (i:=6) qy.nd rfl (by walk_at "o") (aX ql (aX ox aH (kz (cv 2) T.av T.aj.e (ny T) (hm hr) T.aj.b .nil bE)) aH))
   (aK (cA (i:=7) qy.nd rfl (by walk_at "o") (aX ql (cv 6) (aX nH (aX iC (cv 5) aH) (eV (HJ rfl) (by rfl) T.j5 PyProof.Rows.boot_min (ai aH (ai (cv 6) aw))))))
   (aK (cA (i:=8) qy.nd rfl (by walk_at "o") (aX nH (aX iC (cv 5) aH) (aX jr (cv 6) aH)))
   (aL (dJ (cW (kr (i4 hr)) (aX nH (cv 5) aH) aH (cU _)) (aL (i0 (kB (cv 2) T.av T.bI.e (JK T) (hm hr) T.bI.b .nil lC (ai (aX nH (aX iC (cv 5) aH) (aX jr (cv 6) aH)) (ai (aX nH (aX iC (aX iC (cv 5) aH) (aX jr (cv 6) aH)) (aX jr (cv 6) aH)) aw))))) (aL (dJ (cW (kr (i4 hr)) (aX nH (cv 5) aH) aH (cU _)) (aL (i0 (kB (cv 2) T.av T.bI.e (JK T) (hm hr) T.bI.b .nil lC (ai (cv 7) (ai (aX ql (cv 6) (aX nH (aX iC (cv 5) aH) (eV (HJ rfl) (by rfl) T.j5 PyProof.Rows.boot_min (ai aH (ai (cv 6) aw))))) aw))))) (aK (cA (i:=3) qy.nd rfl (by walk_at "o") (kB (cv 2) T.av T.bI.e (JK T) (hm hr) T.bI.b .nil lC (ai (aX M8 (cv 3) (aX nH (aX iC (cv 5) aH) aH)) (ai (cv 8) aw))))
   (aL (dJ (cW qr (cv 3) aH (cU _)) (aL (cA (i:=3) qy.nd rfl (by walk_at "o") (aX jr aH (aX nH (aX iC (cv 5) aH) (aX ox aH (cv 1)))))) eE))))))))))))
   (aL (cC (cv 2))))))
theorem ZhC (T:Txt K mg a):aG P w K mg base dw 4 a.dC a.gd ["_law_script","_law_many"] (Rz a K):=by
 refine T.fR.n.dO qy (Zht T) (fun vs H Q E h=>?_) (fun H vs Q E h=>?_)
 ·obtain ⟨p,ns,m,rfl,_⟩:=h;rfl
 ·obtain ⟨p,ns,m,rfl,hS,m2,m6,hl,q⟩:=h
  show Kb a K _ [some (.ref p),some (.int m),none,none,none,none,none,none,none] H
  unfold Kb
  have big:(20000:Nat)<=sizeLine:=by decide
  walk_at "gs"
  refine mk_Fold fun f dx pl kl H1 s1 ff fp fk f1=>?_
  walk_at "gs"
  refine .inl ⟨_,.inl (s1.seq hS),?_⟩
  rw [Zsh]
  obtain ⟨R,hR,hR24⟩:∃ R:Nat,(if (24:Int)<(ns.length:Int) then (24:Int) else (ns.length:Int))=(R:Int)/\R<=24:=by
   by_cases g:(24:Int)<(ns.length:Int)
   ·rw [if_pos g];exact ⟨24,rfl,by omega⟩
   ·rw [if_neg g];exact ⟨ns.length,rfl,by omega⟩
  have hR':(if (ns.length:Int) > 24 then (24:Int) else (ns.length:Int))=(R:Int):=hR
  rw [hR]
  refine ⟨⟨by omega,by omega,by omega,by omega⟩,?_⟩
  refine tS (fun i σ H2=>aQ H H2/\∃ (es:List En) (t:Int) (v4 v5 v6 v7 v8:Option V),aS a.af H2 f m es dx pl kl/\MF.Ok m (aA es)/\es.length<=i/\MF.kF m (aA es) t/\σ=[some (.ref p),some (.int m),some (.ref f),some (.int t),v4,v5,v6,v7,v8]) ⟨s1,[],2,_,_,_,_,_,f1,fun i p hp=>by simp [aA] at hp,ZtJ _,⟨by omega,by show (2:Int)<2 * ((m:Int)+1+(([]:List MF.Pr).length:Int));rw [ZsH];omega⟩,rfl⟩ ?_ ?_
  ·rintro i σ H2 hi ⟨s2,es,t,v4,v5,v6,v7,v8,f2,dO,l2,it2,rfl⟩
   have mr:(aA es).length=es.length:=Zsh ..
   walk_at "gs"
   rw [show (3:Int)+(i:Int)=((3+i:Nat):Int) by omega]
   refine ⟨p,ns,3+i,rfl,s2.seq hS,fun c c0=>?_⟩
   walk_at "gs"
   refine ⟨f,dx,_,rfl,f2.ins,rfl,f,dx,pl,kl,m,es,rfl,f2,?_⟩
   obtain ⟨ce,hce⟩:∃ ce:Int,ce=c+4 * ((3+i:Nat):Int):=⟨_,rfl⟩
   obtain ⟨la,hla⟩:∃ la:Int,la=2 * (1+(m:Int)+(es.length:Int)) - 1:=⟨_,rfl⟩
   have ce0:0<=ce:=by omega
   have la1:5<=la:=by omega
   walk_at "gs"
   have step:∀ {x y:Int}{Q':VK},MF.kF m (aA es) x->MF.kF m (aA es) y->(∀ H3 es3 r,aQ H H3->aS a.af H3 f m es3 dx pl kl->MF.Ok m (aA es3)->es3.length<=i+1->MF.kF m (aA es3) r->(∀ u,MF.kF m (aA es) u->MF.kF m (aA es3) u)->Q' (.int r) H3)->Gp a K [.ref f,.int x,.int y] H2 Q' E0:=fun {x y Q'} hx hy k=>by
    have st:=MF.Ey (m:=(m:Int)) (by omega) hx hy
    have jx:=hx.2
    have jy:=hy.2
    refine ⟨f,dx,pl,kl,m,x,y,es,rfl,f2,by omega,fun _ H3 es3 u3 f3 q3=>?_,fun z=>absurd ⟨hx.1,hy.1,by omega,by omega⟩ z⟩
    have l8:=st.hi
    have l9:=st.lo
    have Ku:=st.ok dO
    have JZ:=st.inn
    simp only [MF.bo] at l8 l9 Ku JZ
    rw [<- q3] at l8 l9 Ku JZ
    have Zuw:(aA es3).length=es3.length:=Zsh ..
    exact k H3 es3 _ (ZL s2 u3 fp fk) f3 Ku (by omega) JZ fun u hu=>⟨hu.1,by have:=hu.2;omega⟩
   rw [<- hce,<- hla]
   have mn:∀ n:Int,5<=n->∀ d:Int,0<=d % (if la<n then la else n)/\d % (if la<n then la else n)<la+1/\d % (if la<n then la else n)<=la:=fun n hn d=>by
    have p:0<(if la<n then la else n)/\(if la<n then la else n)<=la:=by split <;> omega
    have a1:=Zud d (show (if la<n then la else n)≠0 by omega)
    have a2:=Zue d p.1
    omega
   have md:∀ d:Int,MF.kF m (aA es) (d % (la+1)):=fun d=>⟨Zud d (by omega),by have:=Zue d (show 0<la+1 by omega);rw [mr];omega⟩
   have dn:∀ n:Int,5<=n->∀ d:Int,MF.kF m (aA es) (la - d % (if la<n then la else n)):=fun n hn d=>⟨by have:=mn n hn d;omega,by have:=mn n hn d;rw [mr];omega⟩
   by_cases h0:ce % 4=0
   ·rw [if_pos h0]
    refine ⟨f,dx,_,rfl,f2.ins,rfl,⟨by omega,by omega⟩,by omega,⟨by omega,by omega⟩,⟨by omega,by omega⟩,by omega,step (md _) (md _) fun H3 es3 r s3 f3 ok3 l3 ir hup=>?_⟩
    exact ⟨s3,es3,t,_,_,_,_,_,f3,ok3,l3,hup t it2,rfl⟩
   rw [if_neg h0]
   refine ⟨by omega,?_⟩
   by_cases h1:ce % 4=1
   ·rw [if_pos h1]
    refine ⟨f,dx,_,rfl,f2.ins,rfl,⟨by omega,by omega⟩,by split <;> omega,step (dn 10 (by omega) _) (dn 12 (by omega) _) fun H3 es3 r s3 f3 ok3 l3 ir hup=>?_⟩
    exact ⟨s3,es3,t,_,_,_,_,_,f3,ok3,l3,hup t it2,rfl⟩
   rw [if_neg h1]
   have Zp:MF.kF m (aA es) (Builtin.bitXor t (ce / 4 % 2)):=by
    rcases Y1 it2.1 (ce / 4 % 2) (by omega) (by omega) with z | z <;> rw [z]
    ·exact it2
    ·exact it2.tn
   refine ⟨f,dx,_,rfl,f2.ins,rfl,⟨by omega,by omega⟩,by omega,step Zp (md _) fun H3 es3 r s3 f3 ok3 l3 ir hup=>?_⟩
   show if r<2 then _ else _
   by_cases h2:r<2
   ·rw [if_pos h2]
    have b1:=Zud (ce / 4) (show 2 * (m:Int)≠0 by omega)
    have b2:=Zue (ce / 4) (show 0<2 * (m:Int) by omega)
    exact ⟨⟨by omega,by omega⟩,.inl ⟨by omega,by omega⟩,by omega,s3,es3,_,_,_,_,_,_,f3,ok3,l3,⟨by omega,by omega⟩,rfl⟩
   ·rw [if_neg h2]
    exact ⟨s3,es3,r,_,_,_,_,_,f3,ok3,l3,ir,rfl⟩
  ·rintro σ H2 ⟨s2,es,t,v4,v5,v6,v7,v8,f2,dO,l2,it2,rfl⟩
   walk_at "gs"
   exact q f dx pl kl es H2 s2 f2 dO (by omega)
noncomputable def SF (a:bZ) (_:ZrF):Sp:=fun vs H Q _=>∃ (x:Addr) (m:Nat) (ps:List Pc) (ao:List Int),vs=[.ref x]/\mY a.aq H x m ps ao/\WP m ps/\ps.length<=1000/\ao.length<=100 /\
 ∀ l H',aQ H H'->H' l=some (.lst ((tF ps ao).map nv))->Q (.ref l) H'
noncomputable def Pu (a:bZ) (K:ZrF):TS:=(aI (bV rC (aC 1))
  (aI (fP (eU K (d9 a.aq "pieces" (JW a K) [] E0 (aa 0) ar)) (rM K 3 (jk (aC 2) (jk (aC 3) (jk (aC 4) rS)))) (mX (aa 1) (aa 2) (ax iJ (tC (.int 1)) (cH (Ax K) (ah (eN (eU K (aa 3)) 1 [1] (aC 0) gr (Hu (aa 1) (aa 0) (tC (.int 0)))) ar)))))
  (cz (eN (eU K (d9 a.aq "ties" (P7 a K) [] E0 (aa 0) ar)) 1 [1] (aC 0) gr (Hu (aa 1) (ax (cI hJ fun i j=>.int (i / j)) (aa 0) (tC (.int 2))) (tC (.int 0)))))))
theorem Zip (T:Txt K mg a):TM P w K mg base 1 "_law_depths" vc Hk a.dW (Pu a K) :=
 fun hr=>(aK (cA (i:=1) BI.nd rfl (by walk_at "o") zZ)
   (aK (jn PassesOwn.never rfl (gw (kz (cv 0) T.br T.bP.e (QS T) (hm hr) T.bP.b .nil bE)) (uq rfl (jR (cj (i:=2) BI.nd rfl (by walk_at "o")) (jR (cj (i:=3) BI.nd rfl (by walk_at "o")) (jR (cj (i:=4) BI.nd rfl (by walk_at "o")) vE)))) (aL (pJ (eG hr) (cv 1) (cv 2) (aX jr aH (eV (II rfl) (by rfl) T.i8 PyProof.Rows.boot_max (ai (jl (N:=["_law_k","_law_depth"]) (k:=1) (sel:=[1]) (az.of (aW vc).names (by decide +kernel)) (aF.of Hk (by decide +kernel)) rfl (gw (cv 3)) (fun _ _ _ _=>(cj (i:=0) (show Zsv (["_law_k","_law_depth"]:List Str) by decide +kernel) rfl (by walk_at "o"))) (fun _ _ _ _=>jq) (fun _ _ _ _=>(RH (eG hr) (cv 1) (cv 0) aH ⟨rfl,rfl,rfl,rfl⟩))) aw))) rfl)))
   (aL (cC (jl (N:=["_law_tie","_law_depth"]) (k:=1) (sel:=[1]) (az.of (aW vc).names (by decide +kernel)) (aF.of Hk (by decide +kernel)) rfl (gw (kz (cv 0) T.br T.dU.e (YB T) (hm hr) T.dU.b .nil bE)) (fun _ _ _ _=>(cj (i:=0) (show Zsv (["_law_tie","_law_depth"]:List Str) by decide +kernel) rfl (by walk_at "o"))) (fun _ _ _ _=>jq) (fun _ _ _ _=>(RH (eG hr) (cv 1) (aX iC (cv 0) aH) aH ⟨rfl,rfl,rfl,rfl⟩)))))))
theorem ZiL (T:Txt K mg a):aG P w K mg base dw 2 a.dW a.gz ["_law_board"] (SF a K):=by
 refine T.gD.n.dO BI (Zip T) (fun vs H Q E h=>?_) (fun H vs Q E h=>?_)
 ·obtain ⟨x,m,ps,ao,rfl,_⟩:=h;rfl
 ·obtain ⟨x,m,ps,ao,rfl,hB,wp,hz,htz,q⟩:=h
  show Pu a K _ [some (.ref x),none,none,none,none] H
  unfold Pu
  have big:(20000:Nat)<=sizeLine:=by decide
  have KG:=hB
  obtain ⟨dx,k0,tt,ts0,hx,hPT,hTT⟩:=KG
  walk_at "gs"
  intro d H1 n1
  have hB1:=hB.same n1.same
  refine ⟨x,dx,_,rfl,n1.same _ _ hx,rfl,x,m,ps,ao,rfl,hB1,hz,fun pl ts H2 fpl s2 hP _=>?_⟩
  have tM:=hP.len
  have hd2:=s2 _ _ n1.at_
  walk_at "gs"
  refine ⟨⟨_,.of hP.lst⟩,qj (xs:=ts.map fun t=>V.ref t.1) (fun i σ H3=>(∀ b o,b≠d->H2 b=some o->H3 b=some o)/\∃ (kvs:List (Key × V)) (v2 v3 v4:Option V),H3 d=some (.dK kvs)/\kvs.length<=i/\(∀ y:Int,(bC kvs (.inl y)).getD (.int 0)=nv (MP.gW (ps.take i) y))/\σ=[some (.ref x),some (.ref d),v2,v3,v4]) ⟨fun _ _ _ e=>e,[],_,_,_,hd2,ZtJ _,fun y=>rfl,rfl⟩ ?_ ?_ ?_⟩
  ·rintro i σ H3 _ ⟨k3,_⟩
   exact .of (k3 _ _ (eA hP.lst hd2 (fun z=>nomatch z)) hP.lst)
  ·rintro i v σ H3 hv ⟨k3,kvs,v2,v3,v4,h3,qz,hk3,rfl⟩
   have hi:i<ts.length:=by
    have:=(Zsk.mp hv).1
    rwa [Zsh] at this
   obtain ⟨p,hp,hpt0,hpc0⟩:=hP.get hi
   have zy:=wp i p hp
   have ev:v=.ref (ts[i]).1:=by
    rw [Zsu,Zsn hi] at hv
    cases hv
    rfl
   subst ev
   have qP:=k3 _ _ (eA hpt0 hd2 (fun z=>nomatch z)) hpt0
   have mv:=k3 _ _ (eA hpc0 hd2 (fun z=>nomatch z)) hpc0
   generalize (ts[i]).1=t1 at *
   generalize (ts[i]).2=t2 at *
   walk_at "gs"
   refine ⟨t1,_,rfl,.of qP,rfl,_,_,rfl,_,_,rfl,_,_,rfl,rfl,?_⟩
   walk_at "gs"
   have Zi:=zy.l6
   have Oe:=zy.l1
   refine ⟨⟨_,.of mv⟩,qN (fun y=>match y with | .int y=>nv (MP.gW (ps.take i) y) | _=>.non) (.of mv) rfl (by rw [Zsh];omega) ?_ ?_⟩
   ·intro y H' Q' hy s' q'
    obtain ⟨z,hz,rfl⟩:=Zsi.mp hy
    walk_at "gs"
    refine ⟨d,rfl,.inl ⟨_,.of (s' _ _ h3)⟩,_,eB.k (k:=.inl z) (s' _ _ h3),?_⟩
    rw [hk3 z]
    exact q'
   intro l6 H6 n6
   have e6:(p.2.1.map V.int).map (fun y=>match y with | .int y=>nv (MP.gW (ps.take i) y) | _=>.non)=(p.2.1.map fun y=>(MP.gW (ps.take i) y:Int)).map V.int:=by rw [Zso,Zso];rfl
   rw [e6] at n6
   walk_at "gs"
   refine ⟨_,n6.sq,by rw [Zsh];exact Oe,fun M hM hle=>?_⟩
   obtain ⟨y,hy,rfl⟩:=Zsi.mp hM
   have eM:MP.sQ (p.2.1.map (MP.gW (ps.take i)))=MP.gW (ps.take i) y:=MP.PF (Zsi.mpr ⟨y,hy,rfl⟩) fun z hz=>by
    obtain ⟨w,hw,rfl⟩:=Zsi.mp hz
    have:=hle _ (Zsi.mpr ⟨w,hw,rfl⟩)
    omega
   have h6:=n6.same _ _ h3
   walk_at "gs"
   refine ⟨d,_,rfl,.k (k:=.inl p.1) h6 (by omega),?_⟩
   refine ⟨fun b o nb e=>by rw [aE nb];exact n6.same _ _ (k3 b o nb e),_,_,_,_,bR,ZtL (wB ..) (by omega),fun z=>?_,rfl⟩
   rw [Ir hp,MP.L8,pL]
   unfold MP.nN
   by_cases e:z=p.1
   ·rw [if_pos e,if_pos (by rw [e]),eM,Option.getD_some,show (1:Int)+(MP.gW (ps.take i) y:Int)=((1+MP.gW (ps.take i) y:Nat):Int) by omega]
    rfl
   ·rw [if_neg e,if_neg (fun w=>e (Sum.inl.inj w))]
    exact hk3 z
  ·rintro σ H3 ⟨k3,kvs,v2,v3,v4,h3,qz,hk3,rfl⟩
   rw [Zsh,tM,ZsI] at hk3
   have iQ:aQ H H3:=fun b o e=>k3 b o (cn e n1.aD) (s2 _ _ (n1.same _ _ e))
   have WR:=hB.same iQ
   walk_at "gs"
   refine ⟨x,dx,_,rfl,iQ _ _ hx,rfl,x,m,ps,ao,rfl,WR,fun tl H4 n4=>?_⟩
   refine ⟨⟨_,n4.sq⟩,qN (fun y=>match y with | .int t=>nv (MP.gW ps (t / 2)) | _=>.non) n4.sq rfl (by rw [Zsh];omega) ?_ ?_⟩
   ·intro y H' Q' hy s' q'
    obtain ⟨z,hz,rfl⟩:=Zsi.mp hy
    have h4:=s' _ _ (n4.same _ _ h3)
    walk_at "gs"
    refine ⟨d,rfl,.inl ⟨_,.of h4⟩,⟨by omega,by omega⟩,_,eB.k (k:=.inl (z / 2)) h4,?_⟩
    rw [hk3 (z / 2)]
    exact q'
   intro l6 H6 n6
   have e6:(ao.map V.int).map (fun y=>match y with | .int t=>nv (MP.gW ps (t / 2)) | _=>.non)=(tF ps ao).map nv:=by
    unfold tF
    rw [Zso,Zso]
    rfl
   rw [e6] at n6
   exact q l6 H6 ((iQ.trans n4.same).trans n6.same) n6.at_
theorem UM {K:ZrF}{H:Hp}{p q:Addr}{n:Nat}{xs:List V} (hx:∀ x∈xs,∃ t:Int,x=.int t) (h1:H p=some (.lst xs)) (h2:H q=some (.lst xs)):cQ K H (n+1) (.ref p) (.ref q):=by
 refine cQ.lst (n:=n) (.of h1) (.of h2) rfl fun i y z hy hz=>?_
 rw [hy] at hz
 cases hz
 obtain ⟨t,rfl⟩:=hx _ (Zsz hy)
 exact .flat rfl
theorem QZ {ks:List Nat}:∀ x∈ks.map nv,∃ t:Int,x=.int t:=fun x hx=>by
 obtain ⟨y,_,rfl⟩:=Zsi.mp hx
 exact ⟨_,rfl⟩
theorem UH {xs:List Nat}{i x:Nat} (h:xs[i]? = some x):jm (xs.map nv) (i:Int)=some (.int (x:Nat)):=by
 have hi:=(Zsk.mp h).1
 rw [rP .non (by omega) (by rw [Zsh];omega),Zua,Zsy,Zsu,h]
 rfl
noncomputable def jd (K:ZrF):Sp:=fun vs H Q _=>∃ (p:Addr) (ns:List Int),vs=[.ref p]/\bg K H p (ns.map V.int)/\ns.length<=63/\∀ H',Q (.bl true) H'
noncomputable def O9 (a:bZ) (K:ZrF):TS:=(aI (bV (ax iJ (tC (.int 2)) (ax (cI (fun _ j=>0<j) fun i j=>.int (i % j)) (cB (HW K) [] E0 (ah (aa 0) (ah (tC (.int 0)) ar))) (tC (.int 5)))) (aC 1))
  (aI (bV (cB (Rz a K) [] E0 (ah (aa 0) (ah (aa 1) ar))) (aC 2))
  (aI (bV (d9 a.af "total" (mK a K) [] E0 (aa 2) ar) (aC 3))
  (aI (bV (jo (ah (ax (cV fun i j=>.int (i - j)) (ax mU (tC (.int 2)) (aa 3)) (tC (.int 1))) (ah (ax (cV fun i j=>.int (i - j)) (ax mU (tC (.int 2)) (aa 3)) (tC (.int 2))) (ah (tC (.int 0)) (ah (tC (.int 1)) (ah (tC (.int 2)) ar)))))) (aC 4))
  (aI (fP (om (ah (tC (.int 4)) ar)) (aC 5) (ix (pG K "list" qm (aa 4) (ah (ax (cI (fun _ j=>0<j) fun i j=>.int (i % j)) (ax (cI (fun _ j=>0<=j) fun i j=>.int (i / 2 ^ j.toNat)) (cB (HW K) [] E0 (ah (aa 0) (ah (tC (.int 1)) ar))) (ax mU (tC (.int 8)) (aa 5))) (ax mU (tC (.int 2)) (aa 3))) ar))))
  (aI (bV (tC .non) (aC 6))
  (aI (fP (sh (Mc [(.int 2),(.int 7)])) (aC 7) (aI (bV (cB (Vb a K) [] E0 (ah (aa 2) (ah (cH (tf K) (ah (aa 4) ar)) (ah (aa 7) ar)))) (aC 8))
  (aI (bV (d9 a.aq "depths" (JY a K) [] E0 (aa 8) ar) (aC 9))
  (aI (du (ki (lA (iU K (cH (vW K) (ah (aa 9) (ah (tC (.ty "list")) ar))))) (bW (ax (vM K) (aa 9) (cB (SF a K) [] E0 (ah (aa 8) ar))))) (cz (tC (.bl false))) dQ)
  (aI (bV (zL a.ae (Jf a K) [] E0 (ah (aa 2) (ah (aa 7) ar))) (aC 10))
  (aI (fP (eU K (d9 a.aq "pieces" (JW a K) [] E0 (aa 8) ar)) (rM K 3 (jk (aC 11) (jk (aC 12) (jk (aC 13) rS)))) (du (bW (ax (vM K) (ax iJ (tC (.int 1)) (cH (Ax K) (ah (eN (eU K (aa 12)) 1 [10] (aC 0) gr (d9 a.ae "label" (Fb a K) [] E0 (aa 1) (ah (aa 0) ar))) ar))) (d9 a.ae "label" (Fb a K) [] E0 (aa 10) (ah (aa 11) ar)))) (cz (tC (.bl false))) dQ))
  (aI (fP (om (ah (cH (lj K) (ah (aa 4) ar)) ar)) (aC 5) (aI (du (ki (lA (iU K (cH (vW K) (ah (ax (eL K) (aa 9) (aa 5)) (ah (tC (.ty "int")) ar))))) (ki (iU K (cH (vW K) (ah (ax (eL K) (aa 9) (aa 5)) (ah (tC (.ty "bool")) ar)))) (bW (ax (vM K) (ax (eL K) (aa 9) (aa 5)) (d9 a.ae "label" (Fb a K) [] E0 (aa 10) (ah (ax (cI hJ fun i j=>.int (i / j)) (ax (eL K) (aa 4) (aa 5)) (tC (.int 2))) ar)))))) (cz (tC (.bl false))) dQ)
  (du (nE (bW (ax Cq (aa 6) (tC .non))) (bW (ax (cV fun i j=>.bl (decide (j<i))) (ax (eL K) (aa 9) (aa 5)) (ax (eL K) (aa 6) (aa 5))))) (cz (tC (.bl false))) dQ)))
  (aI (bV (cH (tf K) (ah (aa 9) ar)) (aC 6))
  (aI (ix (pb K "list" S8 (aa 9)))
  (du (bW (ax (vM K) (d9 a.aq "depths" (JY a K) [] E0 (aa 8) ar) (aa 6))) (cz (tC (.bl false))) dQ))))))))))
  (cz (tC (.bl true))))))))))
theorem yK (T:Txt K mg a):TM P w K mg base 8 "law" Al KW a.oO (O9 a K) :=
 fun hr=>(aK (cA (i:=1) ly.nd rfl (by walk_at "o") (aX jr aH (aX nH (cK T.cF (M0 T) (hm hr) bE (ai (cv 0) (ai aH aw))) aH)))
   (aK (cA (i:=2) ly.nd rfl (by walk_at "o") (cK T.fR (ZhC T) (hm hr) bE (ai (cv 0) (ai (cv 1) aw))))
   (aK (cA (i:=3) ly.nd rfl (by walk_at "o") (kz (cv 2) T.av T.aj.e (ny T) (hm hr) T.aj.b .nil bE))
   (aK (cA (i:=4) ly.nd rfl (by walk_at "o") (kC (ai (aX ql (aX ox aH (cv 3)) aH) (ai (aX ql (aX ox aH (cv 3)) aH) (ai aH (ai aH (ai aH aw)))))))
   (aK (jn PassesOwn.never rfl (uC rfl T.bu (ai aH aw)) (cj (i:=5) ly.nd rfl (by walk_at "o")) (aL (i0 (tE Zr7 Zr9 Zsa (o6 rH) (cv 4) (ai (aX nH (aX CZ (cK T.cF (M0 T) (hm hr) bE (ai (cv 0) (ai aH aw))) (aX ox aH (cv 5))) (aX ox aH (cv 3))) aw)))))
   (aK (cA (i:=6) ly.nd rfl (by walk_at "o") ml)
   (aK (jn PassesOwn.never rfl (IH rfl T.bu (US (vs:=[(.int 2),(.int 7)]) rfl)) (cj (i:=7) ly.nd rfl (by walk_at "o")) (aK (cA (i:=8) ly.nd rfl (by walk_at "o") (cK T.pI (ZP T) (hm hr) bE (ai (cv 2) (ai (lK Fg (by rfl) T.eg PyProof.Rows.boot_list (ai (cv 4) aw)) (ai (cv 7) aw)))))
   (aK (cA (i:=9) ly.nd rfl (by walk_at "o") (kz (cv 8) T.br T.bL.e (Qw T) (hm hr) T.bL.b .nil bE))
   (aK (dJ (PW.pt (kX (mC (kE (eV AO (by rfl) T.bX PyProof.Rows.boot_isinstance (ai (cv 9) (ai (DQ (v:=.ty "list") rfl T.eg PyProof.Rows.boot_list rfl) aw))))) (nj (cW (pU (i4 hr)) (cv 9) (cK T.gD (ZiL T) (hm hr) bE (ai (cv 8) aw)) (cU _))))) (aL (cC jM)) eE)
   (aK (cA (i:=10) ly.nd rfl (by walk_at "o") (HX T.mk_Labels (Rm T) (hm hr) rfl T.jI T.cx.b .nil lC (ai (cv 2) (ai (cv 7) aw))))
   (aK (jn PassesOwn.never rfl (gw (kz (cv 8) T.br T.bP.e (QS T) (hm hr) T.bP.b .nil bE)) (uq rfl (jR (cj (i:=11) ly.nd rfl (by walk_at "o")) (jR (cj (i:=12) ly.nd rfl (by walk_at "o")) (jR (cj (i:=13) ly.nd rfl (by walk_at "o")) vE)))) (aL (dJ (cW (pU (i4 hr)) (aX jr aH (eV (II rfl) (by rfl) T.i8 PyProof.Rows.boot_max (ai (jl (N:=["_law_k","_law_marks"]) (k:=1) (sel:=[10]) (az.of (aW Al).names (by decide +kernel)) (aF.of KW (by decide +kernel)) rfl (gw (cv 12)) (fun _ _ _ _=>(cj (i:=0) (show Zsv (["_law_k","_law_marks"]:List Str) by decide +kernel) rfl (by walk_at "o"))) (fun _ _ _ _=>jq) (fun _ _ _ _=>(kB (cv 1) T.ay T.aY.e (OD T) (hm hr) T.aY.b .nil lC (ai (cv 0) aw)))) aw))) (kB (cv 10) T.ay T.aY.e (OD T) (hm hr) T.aY.b .nil lC (ai (cv 11) aw)) (cU _)) (aL (cC jM)) eE)))
   (aK (jn PassesOwn.never rfl (uC rfl T.bu (ai (eV lU (by rfl) T.cc PySem.boot_len (ai (cv 4) aw)) aw)) (cj (i:=5) ly.nd rfl (by walk_at "o")) (aK (dJ (PW.pt (kX (mC (kE (eV AO (by rfl) T.bX PyProof.Rows.boot_isinstance (ai (fB fC (cv 9) (cv 5) (fun _ _=>rfl)) (ai (DQ (v:=.ty "int") rfl T.px PyProof.Rows.boot_int rfl) aw))))) (kX (kE (eV AO (by rfl) T.bX PyProof.Rows.boot_isinstance (ai (fB fC (cv 9) (cv 5) (fun _ _=>rfl)) (ai (DQ (v:=.ty "bool") rfl T.mR PyProof.Rows.boot_bool rfl) aw)))) (nj (cW (pU (i4 hr)) (fB fC (cv 9) (cv 5) (fun _ _=>rfl)) (kB (cv 10) T.ay T.aY.e (OD T) (hm hr) T.aY.b .nil lC (ai (aX iC (fB fC (cv 4) (cv 5) (fun _ _=>rfl)) aH) aw)) (cU _)))))) (aL (cC jM)) eE)
   (aL (dJ (PW.pt (IP (cW MD (cv 6) ml (cU _)) (HN (cW yD (fB fC (cv 9) (cv 5) (fun _ _=>rfl)) (fB fC (cv 6) (cv 5) (fun _ _=>rfl)) (cU _))))) (aL (cC jM)) eE))))
   (aK (cA (i:=6) ly.nd rfl (by walk_at "o") (lK Fg (by rfl) T.eg PyProof.Rows.boot_list (ai (cv 9) aw)))
   (aK (i0 (MU Zr7 PySem.F.slot_list_clear PySem.F.type_list_clear (o6 W9) (cv 9)))
   (aL (dJ (cW (pU (i4 hr)) (kz (cv 8) T.br T.bL.e (Qw T) (hm hr) T.bL.b .nil bE) (cv 6) (cU _)) (aL (cC jM)) eE)))))))))))
   (aL (cC jM)))))))))
theorem uN (T:Txt K mg a):aG P w K mg base dw 9 a.oO a.rZ ["_law_script"] (jd K):=by
 refine T.rX.n.dO ly (yK T) (fun vs H Q E h=>?_) (fun H vs Q E h=>?_)
 ·obtain ⟨p,ns,rfl,_⟩:=h;rfl
 ·obtain ⟨p,ns,rfl,hS,hl,k⟩:=h
  show O9 a K _ [some (.ref p),none,none,none,none,none,none,none,none,none,none,none,none,none] H
  unfold O9
  have big:(20000:Nat)<=sizeLine:=by decide
  walk_at "gs"
  refine ⟨p,ns,0,rfl,hS,fun c0 c00=>?_⟩
  obtain ⟨m,hm⟩:=Zub (by omega:0<=2+c0 % 5)
  walk_at "gs"
  rw [hm]
  refine ⟨p,ns,m,rfl,hS,by omega,by omega,hl,fun f dx pl kl es H1 s1 hf ok hle=>?_⟩
  have mr:(aA es).length=es.length:=Zsh ..
  walk_at "gs"
  refine ⟨f,dx,_,rfl,hf.ins,rfl,f,dx,pl,kl,m,es,rfl,hf,?_⟩
  walk_at "gs"
  refine ⟨by show 5<=sizeLine;decide,fun tp H2 n2=>⟨by omega,by omega,?_⟩⟩
  obtain ⟨lY,htot⟩:∃ lY:Nat,lY=m+1+es.length:=⟨_,rfl⟩
  have Oh:1+(m:Int)+(es.length:Int)=(lY:Int):=by omega
  rw [Oh] at n2 ⊢
  have fH:H1 tp=none:=n2.aD
  refine tS (fun i σ H3=>aQ H1 H3/\∃ (ao:List Int) (v5:Option V),H3 tp=some (.lst (ao.map V.int))/\ao.length=5+i/\(∀ t∈ao,0<=t/\t<2 * (lY:Int))/\σ=[some (.ref p),some (.int m),some (.ref f),some (.int (lY:Nat)),some (.ref tp),v5,none,none,none,none,none,none,none,none]) ⟨n2.same,[2 * (lY:Int) - 1,2 * (lY:Int) - 2,0,1,2],_,n2.at_,rfl,fun t ht=>?_,rfl⟩ ?_ ?_
  ·simp only [Zst,Zs3,or_false] at ht
   rcases ht with rfl | rfl | rfl | rfl | rfl <;> omega
  ·rintro i σ H3 hi ⟨s3,ao,v5,h3,qz,hb3,rfl⟩
   have hi:i<4:=hi
   walk_at "gs"
   refine ⟨.inl ⟨by trivial,_,.of h3⟩,p,ns,1,rfl,(s1.trans s3).seq hS,fun c c0'=>?_⟩
   have b1:=Zud (c / 2 ^ (8 * (0+(i:Int))).toNat) (show 2 * (lY:Int)≠0 by omega)
   have b2:=Zue (c / 2 ^ (8 * (0+(i:Int))).toNat) (show 0<2 * (lY:Int) by omega)
   refine ⟨.inl ⟨by omega,by omega⟩,by omega,.inl ⟨by omega,by omega⟩,by omega,tp,_,_,rfl,rfl,h3,by rw [Zsh];omega,s3.put fH,ao ++ [_],_,by rw [bR,Zss];rfl,by rw [Zsm,qz];rfl,fun t ht=>?_,rfl⟩
   rcases Zsq.mp ht with g | g
   ·exact hb3 t g
   ·rw [Zsl] at g
    rw [g]
    exact ⟨b1,b2⟩
  rintro σ3 H3 ⟨s3,ao,v5,h3,qz,hb3,rfl⟩
  have qz:ao.length=9:=qz
  walk_at "gs"
  have hf3:=hf.same s3
  refine tS (fun i σ H4=>aQ H3 H4/\∃ (vb w5 w7 w8 w9 Br Aj zJ Av:Option V),(i=0/\vb=some .non\/∃ (bp:Addr) (xq:Nat->Nat) (sb:Nat),vb=some (.ref bp)/\H4 bp=some (.lst (((ao.map fun t=>xq (t / 2).toNat)).map nv))/\gj m (aA es) sb xq/\sb<=i+1)/\σ=[some (.ref p),some (.int m),some (.ref f),some (.int (lY:Nat)),some (.ref tp),w5,vb,w7,w8,w9,Br,Aj,zJ,Av]) ⟨fun _ _ e=>e,_,_,_,_,_,_,_,_,_,.inl ⟨rfl,rfl⟩,rfl⟩ ?_ ?_
  ·rintro i σ H4 hi ⟨s4,vb,w5,w7,w8,w9,Br,Aj,zJ,Av,hvb,rfl⟩
   have hi:i<5:=hi
   have Ai:=hf3.same s4
   walk_at "gs"
   refine ⟨_,.inl (.of (s4 _ _ h3)),fun hp H5 n5=>?_⟩
   rw [show (2:Int)+(i:Int)=((2+i:Nat):Int) by omega]
   refine ⟨f,dx,pl,kl,hp,m,2+i,es,ao,rfl,Ai.same n5.same,ok,by omega,by omega,by omega,n5.at_,by omega,by omega,fun t ht=>by have:=hb3 t ht;omega,by omega,by omega,fun bx lv ps H6 s6 hB Ld wt=>?_⟩
   have Ia:=Ld.m5
   have xf:tF ps ao=ao.map fun t=>lv (t / 2).toNat:=by
    unfold tF
    refine ZsW fun t ht=>?_
    have hb:=hb3 t ht
    obtain ⟨n,hn⟩:=Zub (by omega:0<=t / 2)
    have:=Nj (P:=aA es) (s:=2+i) Ia.low Ld.wp (fun p hp=>by obtain ⟨n,C,h1,_,_,h4,h5⟩:=Ld.pc p hp;exact ⟨n,C,h1,h4,h5⟩) ps.length (ZtJ _) n (by
     rw [ZsI]
     rcases (wt.vk t ht).2 with z | z
     ·exact .inl (by omega)
     ·exact .inr (by rw [<- hn];exact z))
    rw [ZsI,<- hn] at this
    rw [this,hn,Zua]
   have Zut:=Ld.len
   have KG:=hB
   obtain ⟨bdx,bk,btt,bts,hbx,_,_⟩:=KG
   refine ⟨bx,bdx,_,rfl,hbx,rfl,bx,m,ps,ao,rfl,hB,Ld.wp,wt,by omega,by omega,fun fl H7 md7=>?_⟩
   obtain ⟨ffl,h7,s7⟩:=md7
   rw [xf] at h7
   refine ⟨_,true,.lst h7,rfl,?_⟩
   rw [if_neg (by simp)]
   refine ⟨bx,m,ps,ao,rfl,hB.same s7,Ld.wp,by omega,by omega,fun l8 H8 s8 h8=>?_⟩
   rw [xf] at h8
   refine ⟨true,.inl ⟨rfl,UM (n:=3) QZ (s8 _ _ h7) h8⟩,?_⟩
   rw [if_neg (by simp)]
   have Uu:=((n5.same.trans s6).trans s7).trans s8
   have hf8:=Ai.same Uu
   refine mk_Labels hf8 ok (by omega) (by omega) (by omega) (by omega) fun lx lxd ll fc fw H9 aJ aU aD dk fh s9 hlx HY hfc hfw hL mV=>?_
   have s49:=Uu.trans s9
   have hlen:=hL.len
   have Xf:=hL.GU (by rw [mr];exact mV)
   have RG:∀ n,n<lY->aJ.getD n 0=lv n:=fun n hn=>gj.eq ok Xf Ia (by rw [mr];omega)
   have Ro:=(hB.same s7).same (s8.trans s9)
   walk_at "gs"
   have Jw:=s9 _ _ (s8 _ _ (s7 _ _ hbx))
   have label:∀ {H':Hp}{y:Nat}{Q':VK},aQ H9 H'->y<lY->Q' (nv (lv y)) H'->∃ a_4 dx fs,V.ref lx=V.ref a_4/\H' a_4=some (HO.ins a.ae dx fs)/\Zs1 (Str.ofString "label") fs=none/\Fb a K [.ref lx,.int (y:Nat)] H' Q' E0:=fun {H' y Q'} s' hy q'=>by
    have hL':=hL.same s'
    refine ⟨lx,lxd,_,rfl,hL'.at_.ins,rfl,lx,lxd,ll,fc,fw,m,_,aJ,aU,aD,rfl,hL'.at_,fun n en hn=>?_,fun z=>absurd ⟨by omega,by omega⟩ z⟩
    have:n=y:=by omega
    subst this
    rw [RG n hy]
    exact q'
   refine ⟨bx,bdx,_,rfl,Jw,rfl,bx,m,ps,ao,rfl,Ro,by omega,fun pq ts H10 fpq s10 hP _=>?_⟩
   have tM:=hP.len
   walk_at "gs"
   refine ⟨⟨_,.of hP.lst⟩,qj (xs:=ts.map fun t=>V.ref t.1) (fun j σ H11=>aQ H10 H11/\∃ (v11 Hj IV:Option V),σ=[some (.ref p),some (.int m),some (.ref f),some (.int (lY:Nat)),some (.ref tp),w5,vb,some (.int ((2+i:Nat):Int)),some (.ref bx),some (.ref fl),some (.ref lx),v11,Hj,IV]) ⟨fun _ _ e=>e,_,_,_,rfl⟩ ?_ ?_ ?_⟩
   ·rintro j σ H11 _ ⟨s11,_⟩
    exact .of (s11 _ _ hP.lst)
   ·rintro j v σ H11 hv ⟨s11,v11,Hj,IV,rfl⟩
    have hj:j<ts.length:=by
     have:=(Zsk.mp hv).1
     rwa [Zsh] at this
    obtain ⟨pc,mv,hpt0,hpc0⟩:=(hP.same s11).get hj
    obtain ⟨n,C,e1,n1,n2,e2,Lb⟩:=Ld.pc pc (Zsz mv)
    have ev:v=.ref (ts[j]).1:=by
     rw [Zsu,Zsn hj] at hv
     cases hv
     rfl
    subst ev
    rw [e1] at hpt0
    rw [e2] at hpc0
    generalize (ts[j]).1=t1 at *
    generalize (ts[j]).2=t2 at *
    have G2:=Lb.len
    obtain ⟨cT,hcT,hcl2⟩:=Lb.top
    have cb:∀ c∈C,c<lY:=fun c hc=>by
     obtain ⟨d1,d2⟩:=Lb.dn c hc
     have:=d1.le (zX ok).lt
     omega
    walk_at "gs"
    refine ⟨t1,_,rfl,.of hpt0,rfl,_,_,rfl,_,_,rfl,_,_,rfl,rfl,?_⟩
    walk_at "gs"
    refine ⟨⟨_,.of hpc0⟩,qN (fun y=>match y with | .int y=>nv (lv y.toNat) | _=>.non) (.of hpc0) rfl (by rw [Zsh];unfold cX;rw [Zsh];omega) ?_ ?_⟩
    ·intro y H' Q' hy s' q'
     obtain ⟨z,hz,rfl⟩:=Zsi.mp hy
     obtain ⟨c,hc,rfl⟩:=Zsi.mp hz
     walk_at "gs"
     have q'':Q' (nv (lv c)) H':=by simpa using q'
     exact label ((s10.trans s11).trans s') (cb c hc) q''
    intro l6 H12 n12
    have e6:((cX C).map V.int).map (fun y=>match y with | .int y=>nv (lv y.toNat) | _=>.non)=(C.map fun c=>(lv c:Int)).map V.int:=by
     unfold cX
     rw [Zso,Zso,Zso]
     refine ZsW fun c _=>?_
     show nv (lv ((c:Int)).toNat)=V.int (lv c:Int)
     rw [Zua]
     rfl
    rw [e6] at n12
    walk_at "gs"
    refine ⟨_,n12.sq,by rw [Zsh];exact Zty hcT,fun M hM hle'=>?_⟩
    obtain ⟨y,hy,rfl⟩:=Zsi.mp hM
    have eM:lv y+1=lv n:=by
     have h1:=Lb.le y hy
     have h2:=hle' _ (Zsi.mpr ⟨cT,hcT,rfl⟩)
     omega
    refine label ((s10.trans s11).trans n12.same) (by omega) ?_
    unfold nv
    walk_at "gs"
    rw [if_neg (by omega)]
    exact ⟨s11.trans n12.same,_,_,_,rfl⟩
   rintro σ11 H11 ⟨s11,v11,Hj,IV,rfl⟩
   have ju:=s10.trans s11
   have vU:=s49.trans ju
   have yb:=ju _ _ (s9 _ _ (s8 _ _ h7))
   have AF:=vU _ _ (s4 _ _ h3)
   walk_at "gs"
   refine .inl ⟨_,.inl (.of AF),by rw [Zsh];omega,by rw [Zsh];omega,?_⟩
   rw [Zsh,Zua]
   refine tS (fun j σ H12=>H12=H11/\∃ v5:Option V,σ=[some (.ref p),some (.int m),some (.ref f),some (.int (lY:Nat)),some (.ref tp),v5,vb,some (.int ((2+i:Nat):Int)),some (.ref bx),some (.ref fl),some (.ref lx),v11,Hj,IV]) ⟨rfl,_,rfl⟩ ?_ ?_
   ·rintro j σ H12 hj ⟨rfl,v5,rfl⟩
    obtain ⟨t,ht⟩:∃ t,ao[j]? = some t:=⟨_,Zsn hj⟩
    have hb:=hb3 t (Zsz ht)
    obtain ⟨n,hn⟩:=Zub (by omega:0<=t / 2)
    have HC:jm ((ao.map fun t=>lv (t / 2).toNat).map nv) (j:Int)=some (.int (lv n:Nat)):=by
     refine UH ?_
     rw [Zsu,ht]
     show some (lv (t / 2).toNat)=_
     rw [hn,Zua]
    have Ze:jm (ao.map V.int) (j:Int)=some (.int t):=by
     rw [rP .non (by omega) (by rw [Zsh];omega),Zua,Zsy,Zsu,ht]
     rfl
    walk_at "gs"
    rw [Int.zero_add]
    refine ⟨_,_,.inl (.of yb),HC,_,true,.int _,rfl,?_⟩
    rw [if_neg (by simp)]
    refine ⟨_,_,.inl (.of yb),HC,_,false,.int _,rfl,?_⟩
    rw [if_neg (by simp)]
    refine ⟨_,_,.inl (.of yb),HC,?_⟩
    have D4:=hL.same ju
    refine ⟨lx,lxd,_,rfl,D4.at_.ins,rfl,_,_,.inl (.of AF),Ze,⟨by omega,by omega⟩,?_⟩
    rw [hn]
    refine ⟨lx,lxd,ll,fc,fw,m,_,aJ,aU,aD,rfl,D4.at_,fun n' en hn'=>?_,fun z=>absurd ⟨by omega,by omega⟩ z⟩
    have:n'=n:=by omega
    subst this
    rw [RG n' (by omega)]
    unfold nv
    walk_at "gs"
    rw [if_neg (by simp)]
    rcases hvb with ⟨_,rfl⟩ | ⟨bp,xq,sb,rfl,hbp,Lvb,hsb⟩
    ·walk_at "go"
     exact ⟨by trivial,_,rfl⟩
    ·have XI:jm ((ao.map fun t=>xq (t / 2).toNat).map nv) (j:Int)=some (.int (xq n':Nat)):=by
      refine UH ?_
      rw [Zsu,ht]
      show some (xq (t / 2).toNat)=_
      rw [hn,Zua]
     have Zux:=gj.le ok Lvb Ia (by omega) (n'+1) n' (by omega) (by rw [mr];omega)
     walk_at "gs"
     rw [if_pos (by simp)]
     refine ⟨_,_,.inl (.of yb),HC,_,_,.inl (.of (vU _ _ hbp)),XI,?_⟩
     show if ((xq n':Nat):Int)<((lv n':Nat):Int) then _ else _
     rw [if_neg (by omega)]
     exact ⟨by trivial,_,rfl⟩
   ·rintro σ H12 ⟨rfl,v5,rfl⟩
    walk_at "gs"
    refine ⟨_,.inl (.of yb),fun lb H13 n13=>?_⟩
    have oW:=n13.same _ _ yb
    refine ⟨.inl ⟨by trivial,_,.of oW⟩,fl,_,rfl,rfl,oW,?_⟩
    have nbl:lb≠fl:=(cn yb n13.aD).symm
    have t7:mY a.aq (upd H13 fl (.lst [])) bx m ps ao:=((Ro.same ju).same n13.same).nl (NL.upd oW)
    have HZ:aQ H3 (upd H13 fl (.lst [])):=((s4.trans vU).trans n13.same).put ((s4.trans (n5.same.trans s6)).nil ffl)
    have BX:upd H13 fl (.lst []) lb=some (.lst ((ao.map fun t=>lv (t / 2).toNat).map nv)):=by rw [aE nbl];exact n13.at_
    generalize upd H13 fl (.lst [])=H14 at t7 HZ BX ⊢
    have NZ:=t7
    obtain ⟨bdx',bk',btt',bts',hbx14,_,_⟩:=NZ
    refine ⟨bx,bdx',_,rfl,hbx14,rfl,bx,m,ps,ao,rfl,t7,Ld.wp,wt,by omega,by omega,fun fl2 H16 md16=>?_⟩
    obtain ⟨_,h16,s16⟩:=md16
    rw [xf] at h16
    refine ⟨true,.inl ⟨rfl,UM (n:=3) QZ h16 (s16 _ _ BX)⟩,?_⟩
    rw [if_neg (by simp)]
    exact ⟨HZ.trans s16,_,_,_,_,_,_,_,_,_,.inr ⟨lb,lv,2+i,rfl,s16 _ _ BX,Ia,by omega⟩,rfl⟩
  ·rintro σ H4 ⟨s4,vb,w5,w7,w8,w9,Br,Aj,zJ,Av,hvb,rfl⟩
   walk_at "gs"
   exact k _
theorem tU {us:List Value} (h:us.length=1):∃ a,us=[a]:=List.length_eq_one_iff.mp h
theorem sP {us:List Value} (h:us.length=2):∃ a b,us=[a,b]:=by
 obtain _ | ⟨a,t⟩:=us
 ·cases h
 ·obtain ⟨b,rfl⟩:=tU (Nat.succ.inj h)
  exact ⟨a,b,rfl⟩
theorem sS {us:List Value} (h:us.length=3):∃ a b c,us=[a,b,c]:=by
 obtain _ | ⟨a,t⟩:=us
 ·cases h
 ·obtain ⟨b,c,rfl⟩:=sP (Nat.succ.inj h)
  exact ⟨a,b,c,rfl⟩
theorem tj {us:List Value} (h:us.length=4):∃ a b c d,us=[a,b,c,d]:=by
 obtain _ | ⟨a,t⟩:=us
 ·cases h
 ·obtain ⟨b,c,d,rfl⟩:=sS (Nat.succ.inj h)
  exact ⟨a,b,c,d,rfl⟩
theorem sV {us:List Value} (h:us.length=5):∃ a b c d e,us=[a,b,c,d,e]:=by
 obtain _ | ⟨a,t⟩:=us
 ·cases h
 ·obtain ⟨b,c,d,e,rfl⟩:=tj (Nat.succ.inj h)
  exact ⟨a,b,c,d,e,rfl⟩
theorem GF {us:List Value} (h:us.length=6):∃ a b c d e f,us=[a,b,c,d,e,f]:=by
 obtain _ | ⟨a,t⟩:=us
 ·cases h
 ·obtain ⟨b,c,d,e,f,rfl⟩:=sV (Nat.succ.inj h)
  exact ⟨a,b,c,d,e,f,rfl⟩
local macro_rules | `(tactic| walk_at "b1")=>`(tactic| exact fun _ _ _ _ _ _ us hl=>by obtain ⟨_,e⟩:=tU hl;subst e;rfl)
local macro_rules | `(tactic| walk_at "b2")=>`(tactic| exact fun _ _ _ _ _ _ us hl=>by obtain ⟨_,_,e⟩:=sP hl;subst e;rfl)
local macro_rules | `(tactic| walk_at "b3")=>`(tactic| exact fun _ _ _ _ _ _ us hl=>by obtain ⟨_,_,_,e⟩:=sS hl;subst e;rfl)
local macro_rules | `(tactic| walk_at "b4")=>`(tactic| exact fun _ _ _ _ _ _ us hl=>by obtain ⟨_,_,_,_,e⟩:=tj hl;subst e;rfl)
local macro_rules | `(tactic| walk_at "b5")=>`(tactic| exact fun _ _ _ _ _ _ us hl=>by obtain ⟨_,_,_,_,_,e⟩:=sV hl;subst e;rfl)
local macro_rules | `(tactic| walk_at "b6")=>`(tactic| exact fun _ _ _ _ _ _ us hl=>by obtain ⟨_,_,_,_,_,_,e⟩:=GF hl;subst e;rfl)
theorem all_mk {l:Zr2}{w:World}{K:ZrF}{h:Heap}{mg:Str->Option Value}{fa:Addr} (X:K.In h) (G:h.Ns mainGlobals mg) (ZT:mg "law" = some (.ref fa))
  {f0:Addr}{f1:Addr}{f2:Addr}{f3:Addr}{f4:Addr}{f5:Addr}{f6:Addr}{f7:Addr}{f8:Addr}{f9:Addr}{Us:Addr}{Qn:Addr}{Vd:Addr}{Rt:Addr}{Vy:Addr}{QV:Addr}{Sj:Addr}{Qy:Addr}{Vh:Addr}{Sx:Addr}{UR:Addr}{Tg:Addr}{RN:Addr}{Sf:Addr}{Vo:Addr}{Vj:Addr}{RF:Addr}{RI:Addr}{TY:Addr}{SQ:Addr}{UC:Addr}{Qh:Addr}{VP:Addr}{VE:Addr}{QP:Addr}{VR:Addr}{R7:Addr}{Ul:Addr}{Vp:Addr}{RT:Addr}{Sq:Addr}{T4:Addr}{SJ:Addr}{Ut:Addr}{RB:Addr}{V5:Addr}{Sk:Addr}{f47:Addr}{cY:Addr}{bN:Addr}{di:Addr}{j4:Addr}{ja:Addr}{jj:Addr}{ji:Addr}{km:Addr}{nJ:Tok}{gY:Tok}{gS:Tok}{jv:Tok}{i7:Tok}{iT:Tok}{oK:Tok}
  (ko:CP K "Board" cY)
  (iW:CP K "Labels" bN)
  (lR:CP K "Fold" di)
  (aC_NoCut:ZrG K mainGlobals "NoCut" = some (some (.ref j4)))
  (aC_NoGoal:ZrG K mainGlobals "NoGoal" = some (some (.ref ja)))
  (aC_NoKnot:ZrG K mainGlobals "NoKnot" = some (some (.ref jj)))
  (aC_NoSize:ZrG K mainGlobals "NoSize" = some (some (.ref ji)))
  (aC_NoTie:ZrG K mainGlobals "NoTie" = some (some (.ref km)))
  (x0:FP K "full_column" Fq f0)
  (x1:FP K "input_columns" AI f1)
  (x2:FP K "lit_pair" Bg f2)
  (x3:FP K "lit_tie" Bj f3)
  (x4:FP K "is_whole" Fo f4)
  (x5:FP K "is_between" Dt f5)
  (x6:FP K "is_rising" AA f6)
  (x7:FP K "is_cut_of" Ae f7)
  (x8:FP K "need_pieces" Ak f8)
  (x9:FP K "need_ties" AY f9)
  (Sr:FQ K cY "__init__" "Board.__init__" z9 Us)
  (Xq:FQ K cY "pieces" "Board.pieces" z8 Qn)
  (x12:FQ K cY "ties" "Board.ties" Dp Vd)
  (Xj:FQ K cY "depths" "Board.depths" tw Rt)
  (x14:FP K "reached" zM Vy)
  (x15:FP K "cone" F6 QV)
  (x16:FP K "is_cut" rm Sj)
  (x17:FP K "head" G7 Qy)
  (x18:FP K "foot" Gj Vh)
  (x19:FP K "need_goals" EE Sx)
  (ZV:FP K "next_ends" AK UR)
  (x21:FP K "search" Be Tg)
  (x22:FP K "lead" GI RN)
  (x23:FP K "way_from" Eg Sf)
  (x24:FP K "ways_of" uh Vo)
  (x25:FP K "stops_of" Ao Vj)
  (x26:FP K "apart" CN RF)
  (YW:FP K "need_size" Em RI)
  (Ye:FP K "maze_of" Fj TY)
  (Vr:FQ K bN "__init__" "Labels.__init__" Du SQ)
  (x30:FQ K bN "settle" "Labels.settle" sG UC)
  (WZ:FQ K bN "keep" "Labels.keep" GO Qh)
  (YQ:FQ K bN "need_and_knot" "Labels.need_and_knot" Bw VP)
  (WQ:FQ K bN "label" "Labels.label" G9 VE)
  (Xb:FQ K bN "cut" "Labels.cut" A4 QP)
  (x35:FP K "table" z7 VR)
  (x36:FP K "laid" wK R7)
  (x37:FP K "turned" Gb Ul)
  (UZ:FQ K di "__init__" "Fold.__init__" E2 Vp)
  (ZS:FQ K di "total" "Fold.total" Bz RT)
  (Y3:FQ K di "has_tie" "Fold.has_tie" Fp Sq)
  (x41:FQ K di "pair" "Fold.pair" BU T4)
  (x42:FQ K di "both" "Fold.both" A7 SJ)
  (x43:FQ K di "and_knot" "Fold.and_knot" E1 Ut)
  (Ww:FP K "_law_cell_at" DV RB)
  (x45:FP K "_law_fold_by" FR V5)
  (ZA:FP K "_law_depths" vc Sk)
  (QX:FP K "law" Al f47)
  (xi_NoCut:ZrM K j4 [.type "ValueError",.type "Exception",.type "BaseException",.type "object"] "ValueError.__new__" = true)
  (xi_NoGoal:ZrM K ja [.type "ValueError",.type "Exception",.type "BaseException",.type "object"] "ValueError.__new__" = true)
  (xi_NoKnot:ZrM K jj [.type "ValueError",.type "Exception",.type "BaseException",.type "object"] "ValueError.__new__" = true)
  (xi_NoSize:ZrM K ji [.type "ValueError",.type "Exception",.type "BaseException",.type "object"] "ValueError.__new__" = true)
  (xi_NoTie:ZrM K km [.type "ValueError",.type "Exception",.type "BaseException",.type "object"] "ValueError.__new__" = true)
  (n_Board_many:ZrH K (.ref cY) "many" = some none)
  (n_Board_kept_pieces:ZrH K (.ref cY) "kept_pieces" = some none)
  (n_Board_kept_ties:ZrH K (.ref cY) "kept_ties" = some none)
  (n_Labels_levels:ZrH K (.ref bN) "levels" = some none)
  (n_Labels_found_cuts:ZrH K (.ref bN) "found_cuts" = some none)
  (n_Labels_found_ways:ZrH K (.ref bN) "found_ways" = some none)
  (n_Fold_many:ZrH K (.ref di) "many" = some none)
  (n_Fold_pairs:ZrH K (.ref di) "pairs" = some none)
  (n_Fold_knots:ZrH K (.ref di) "knots" = some none)
  (g_ALWAYS:ZrG K mainGlobals "ALWAYS" = some (some (.int 1 nJ)))
  (g_GREATEST_KNOT:ZrG K mainGlobals "GREATEST_KNOT" = some (some (.int 999 gY)))
  (g_GREATEST_SIZE:ZrG K mainGlobals "GREATEST_SIZE" = some (some (.int 6 gS)))
  (g_LEAST_SIZE:ZrG K mainGlobals "LEAST_SIZE" = some (some (.int 2 jv)))
  (g_LONGEST_CUT:ZrG K mainGlobals "LONGEST_CUT" = some (some (.int 6 i7)))
  (g_MOST_INPUTS:ZrG K mainGlobals "MOST_INPUTS" = some (some (.int 10 iT)))
  (g_NEVER:ZrG K mainGlobals "NEVER" = some (some (.int 0 oK)))
  (z_all:ZrG K mainGlobals "all" = some none)
  (z_bool:ZrG K mainGlobals "bool" = some none)
  (z_dict:ZrG K mainGlobals "dict" = some none)
  (z_int:ZrG K mainGlobals "int" = some none)
  (z_isinstance:ZrG K mainGlobals "isinstance" = some none)
  (z_len:ZrG K mainGlobals "len" = some none)
  (z_list:ZrG K mainGlobals "list" = some none)
  (z_max:ZrG K mainGlobals "max" = some none)
  (z_min:ZrG K mainGlobals "min" = some none)
  (z_range:ZrG K mainGlobals "range" = some none)
  (z_sorted:ZrG K mainGlobals "sorted" = some none)
  (z_tuple:ZrG K mainGlobals "tuple" = some none)
  (z_zip:ZrG K mainGlobals "zip" = some none) :
  ∃ fd:FuncData,(∀ (s:Shared) (v:Value),BindsTo s fd ⟨[v],[]⟩ [("_law_script",v)])/\∀ base:Heap,K.In base->base.Ns mainGlobals mg->aG l.prog w K mg base dw 9 fa fd ["_law_script"] (jd K):=by
 have e:=ZT.symm.trans (ZrI X G QX.choose_spec.1)
 cases e
 have T:Txt K mg ⟨f0,_,f1,_,f2,_,f3,_,f4,_,f5,_,f6,_,f7,_,f8,_,f9,_,Us,_,Qn,_,Vd,_,Rt,_,Vy,_,QV,_,Sj,_,Qy,_,Vh,_,Sx,_,UR,_,Tg,_,RN,_,Sf,_,Vo,_,Vj,_,RF,_,RI,_,TY,_,SQ,_,UC,_,Qh,_,VP,_,VE,_,QP,_,VR,_,R7,_,Ul,_,Vp,_,RT,_,Sq,_,T4,_,SJ,_,Ut,_,RB,_,V5,_,Sk,_,_,_,cY,bN,di,j4,ja,jj,ji,km⟩:=⟨x0.ft X G (by walk_at "b1"),x1.ft X G (by walk_at "b1"),x2.ft X G (by walk_at "b3"),x3.ft X G (by walk_at "b3"),x4.ft X G (by walk_at "b1"),x5.ft X G (by walk_at "b3"),x6.ft X G (by walk_at "b1"),x7.ft X G (by walk_at "b2"),x8.ft X G (by walk_at "b2"),x9.ft X G (by walk_at "b2"),Sr.fm (by walk_at "b4"),Xq.fm (by walk_at "b1"),x12.fm (by walk_at "b1"),Xj.fm (by walk_at "b1"),x14.ft X G (by walk_at "b3"),x15.ft X G (by walk_at "b2"),x16.ft X G (by walk_at "b3"),x17.ft X G (by walk_at "b1"),x18.ft X G (by walk_at "b1"),x19.ft X G (by walk_at "b2"),ZV.ft X G (by walk_at "b3"),x21.ft X G (by walk_at "b3"),x22.ft X G (by walk_at "b3"),x23.ft X G (by walk_at "b2"),x24.ft X G (by walk_at "b2"),x25.ft X G (by walk_at "b1"),x26.ft X G (by walk_at "b3"),YW.ft X G (by walk_at "b1"),Ye.ft X G (by walk_at "b1"),Vr.fm (by walk_at "b3"),x30.fm (by walk_at "b4"),WZ.fm (by walk_at "b5"),YQ.fm (by walk_at "b2"),WQ.fm (by walk_at "b2"),Xb.fm (by walk_at "b2"),x35.ft X G (by walk_at "b3"),x36.ft X G (by walk_at "b3"),x37.ft X G (by walk_at "b1"),UZ.fm (by walk_at "b2"),ZS.fm (by walk_at "b1"),Y3.fm (by walk_at "b2"),x41.fm (by walk_at "b2"),x42.fm (by walk_at "b3"),x43.fm (by walk_at "b2"),Ww.ft X G (by walk_at "b2"),x45.ft X G (by walk_at "b2"),ZA.ft X G (by walk_at "b1"),QX.ft X G (by walk_at "b1"),ZrI X G ko.a,ko.cl,ko.LG Sr,n_Board_many,n_Board_kept_pieces,n_Board_kept_ties,ZrI X G iW.a,iW.cl,iW.LG Vr,n_Labels_levels,n_Labels_found_cuts,n_Labels_found_ways,ZrI X G lR.a,lR.cl,lR.LG UZ,n_Fold_many,n_Fold_pairs,n_Fold_knots,ZrI X G aC_NoCut,ZrI X G aC_NoGoal,ZrI X G aC_NoKnot,ZrI X G aC_NoSize,ZrI X G aC_NoTie,xi_NoCut,xi_NoGoal,xi_NoKnot,xi_NoSize,xi_NoTie,⟨_,ZrI X G g_ALWAYS,⟨_,rfl⟩⟩,⟨_,ZrI X G g_GREATEST_KNOT,⟨_,rfl⟩⟩,⟨_,ZrI X G g_GREATEST_SIZE,⟨_,rfl⟩⟩,⟨_,ZrI X G g_LEAST_SIZE,⟨_,rfl⟩⟩,⟨_,ZrI X G g_LONGEST_CUT,⟨_,rfl⟩⟩,⟨_,ZrI X G g_MOST_INPUTS,⟨_,rfl⟩⟩,⟨_,ZrI X G g_NEVER,⟨_,rfl⟩⟩,ZrJ X G z_all,ZrJ X G z_bool,ZrJ X G z_dict,ZrJ X G z_int,ZrJ X G z_isinstance,ZrJ X G z_len,ZrJ X G z_list,ZrJ X G z_max,ZrJ X G z_min,ZrJ X G z_range,ZrJ X G z_sorted,ZrJ X G z_tuple,ZrJ X G z_zip⟩
 exact ⟨_,T.rX.n.yG fun _ _ _ _ _ _ _=>rfl,fun base _ _=>uN T⟩
theorem walk {l:Zr2}{q:Program}{loose:List Str}{XP:(Str->Option Value)->Heap->Prop}{YP:World->Heap->Prop}{d:DefRec}{K:Params->ZrF} (hn:l.most=some 63) (BG:d.params.defaults=[])
  (hY:∀ (w:World) (h:Heap),YP w h->(K w.params).In h)
  (F:∀ (w:World) (mg:Str->Option Value) (fa:Addr) (h:Heap),(K w.params).In h->h.Ns mainGlobals mg->mg d.name=some (.ref fa) ->
   ∃ fd:FuncData,(∀ (s:Shared) (u:Value),BindsTo s fd ⟨[u],[]⟩ [("_law_script",u)])/\∀ base:Heap,(K w.params).In base->base.Ns mainGlobals mg->aG l.prog w (K w.params) mg base dw 9 fa fd ["_law_script"] (jd (K w.params))) :
  PySem.W.WalkO q loose XP YP l.row.toRowW d [] (fun f vs=>PySem.call f vs) :=
 L2.Sw (n:=63) (k:=9) (x:="_law_script") (CX:=fun _=>dw) (sp:=fun w=>jd (K w.params)) hn (by decide) BG ⟨rfl,by decide,by decide⟩ hY F (fun _ _ a ns hl _ hS=>⟨a,ns,rfl,hS,hl,fun _=>rfl⟩) fun _ _ _ _ _ z=>z
end vQ
lay_quick PySem.Challenge.pw_gatefold_k37_laid_as_deep_as_labels
namespace OT
open PySem PySem.W PySem.Spec PyProof.Rows L2
noncomputable section
noncomputable abbrev PM:=Params
noncomputable abbrev OB:=Obj
noncomputable abbrev TP:Program:=PySem.W.Fast.tw14418120796843683345
noncomputable def tT (i:Nat):Stmt:=TP.main.body.getD i (.Pass ⟨0,0,0,0⟩)
noncomputable abbrev vs (s:Str) (t:Nat):Value:=.str s t
noncomputable abbrev vr (a:Nat):Value:=.ref a
noncomputable abbrev vi (a:Int) (t:Nat):Value:=.int a t
noncomputable abbrev nl:=BT.nil
noncomputable abbrev Zl (P:PM):BT:=BT.nil
noncomputable abbrev N (f:PM->OB) (a b:PM->BT) (P:PM):BT:=BT.node (f P) (a P) (b P)
noncomputable abbrev M (f:PM->OB) (a:PM->BT) (P:PM):BT:=BT.node (f P) (a P) BT.nil
noncomputable abbrev L (f:PM->OB) (P:PM):BT:=BT.node (f P) BT.nil BT.nil
noncomputable abbrev bF:Value:=.bool false
noncomputable abbrev bT:Value:=.bool true
noncomputable abbrev vb (y:String):Value:=.builtin y
noncomputable abbrev vt (y:String):Value:=.type y
noncomputable abbrev sr (a:Nat):Option Value:=some (.ref a)
noncomputable abbrev ss (s:Str) (t:Nat):Option Value:=some (.str s t)
noncomputable abbrev z0:Value:=.int 0 0
noncomputable abbrev of (y:String) (l:List Value):Obj:=⟨.type y,none,.fields ⟨l⟩,⟨[]⟩⟩
noncomputable abbrev oq (y:String) (l:List Value) (n:Nat):Obj:=⟨.type y,none,.seq ⟨l⟩ n,⟨[]⟩⟩
noncomputable abbrev od (y:String) (l:List DictEntry) (n:Nat):Obj:=⟨.type y,none,.dict ⟨l⟩ n,⟨[]⟩⟩
noncomputable abbrev vn:Value:=.none
noncomputable abbrev df (a:Array Value):Data:=.fields a
noncomputable abbrev dq (a:Array Value) (n:Nat):Data:=.seq a n
noncomputable abbrev dd (a:Array DictEntry) (n:Nat):Data:=.dict a n
noncomputable abbrev de (P:Params) (s:Str) (t:Nat) (v:Value):DictEntry:=.mk (PyData.keyHash P s) (.str s t) v
noncomputable abbrev ob (t:String) (d:Data) (sl:Array (Option Value)):Obj:=⟨.type t,none,d,sl⟩
noncomputable abbrev nd:=BT.node
noncomputable abbrev y0:String:=PySem.W.SL.s2766695959194262286x5
noncomputable abbrev y1:String:=PySem.W.SL.s5856160107412720595x4
noncomputable abbrev oC (a b c:Str) (n l k f v x:Nat):Obj:=of y1 [vs a n,vs b (n+1),vs c (n+2),vi l 0,vi k 0,z0,z0,vi f 0,vr v,bT,vi x 0,vr (v+1),vn,vn,vn,vr (v+2),vi (n+3) 0,vi l 0,vs c (n+4)]
noncomputable abbrev y2:String:=PySem.W.SL.s658472552662922059x5
noncomputable abbrev y3:String:=PySem.W.SL.s14018661285674007319x4
noncomputable abbrev y4:String:=PySem.W.SL.s7097527257260152453x26
noncomputable abbrev y5:String:=PySem.W.SL.s7174869446012820540x8
noncomputable abbrev y6:String:=PySem.W.SL.s6070975301684473832x10
noncomputable abbrev y7:String:=PySem.W.SL.s11030030927630378310x26
noncomputable abbrev y8:String:=PySem.W.SL.s10062305145149207511x16
noncomputable abbrev y9:String:=PySem.W.SL.s17162191345867700912x4
noncomputable abbrev nU:String:=PySem.W.SL.s5946037652744460706x9
noncomputable abbrev nQ:String:=PySem.W.SL.s4278001404047624695x13
noncomputable abbrev kf:String:=PySem.W.SL.s2742458400755230247x6
noncomputable abbrev oa:String:=PySem.W.SL.s4209523147560561109x18
noncomputable abbrev vh:String:=PySem.W.SL.s14755015743595814543x17
noncomputable abbrev HI:String:=PySem.W.SL.s10220274742760427390x26
noncomputable abbrev qI:String:=PySem.W.SL.s4290257624100764138x5
noncomputable abbrev qv:String:=PySem.W.SL.s4860613602091757760x24
noncomputable abbrev LQ:String:=PySem.W.SL.s11443829558043349243x14
noncomputable abbrev Kj:String:=PySem.W.SL.s6511155373996960695x17
noncomputable abbrev KQ:String:=PySem.W.SL.s12411053484034534018x21
noncomputable abbrev b0 (P:PM):OB:=PySem.W.boot_o_0 P
noncomputable abbrev b1 (P:PM):OB:=PySem.W.boot_o_1 P
noncomputable abbrev b2 (P:PM):OB:=PySem.W.boot_o_2 P
noncomputable abbrev b3 (P:PM):OB:=PySem.W.boot_o_3 P
noncomputable abbrev b4 (P:PM):OB:=PySem.W.boot_o_4 P
noncomputable abbrev b5 (P:PM):OB:=PySem.W.boot_o_5 P
noncomputable abbrev b6 (P:PM):OB:=PySem.W.boot_o_6 P
noncomputable abbrev b7 (P:PM):OB:=PySem.W.boot_o_7 P
noncomputable abbrev b8 (P:PM):OB:=PySem.W.boot_o_8 P
noncomputable abbrev b9 (P:PM):OB:=PySem.W.boot_o_9 P
noncomputable abbrev Po (P:PM):OB:=PySem.W.boot_o_10 P
noncomputable abbrev j0 (a b:Str) (s:Stmt):OB:=⟨vn,none,.func (.mk a b (oj s) (.stmts (lE s)) (aW s) 0 [] vn vn vn vn none vn vn 0),⟨[]⟩⟩
noncomputable abbrev j1 (a b:Str) (s:Stmt) (q:Str) (t n:Nat):OB:=⟨(vt y5),none,.func (.mk a b (oj s) (.stmts (lE s)) (aW s) 3 [] vn vn vn (vs q t) none (vr n) vn 0),⟨[]⟩⟩
noncomputable abbrev q0:Str:=⟨⟨[100,101,112,116,104,115]⟩⟩
noncomputable abbrev q1:Str:=⟨⟨[66,111,97,114,100,46,100,101,112,116,104,115]⟩⟩
noncomputable abbrev q2:Str:=⟨⟨[115,101,108,102]⟩⟩
noncomputable abbrev q3:Str:=⟨⟨[100,101,101,112]⟩⟩
noncomputable abbrev q4:Str:=⟨⟨[100,105,99,116]⟩⟩
noncomputable abbrev q5:Str:=⟨⟨[107,110,111,116]⟩⟩
noncomputable abbrev q6:Str:=⟨⟨[114,97,110,103,101]⟩⟩
noncomputable abbrev q7:Str:=⟨⟨[109,97,110,121]⟩⟩
noncomputable abbrev q8:Str:=⟨⟨[46,48]⟩⟩
noncomputable abbrev q9:Str:=⟨⟨[99,117,116]⟩⟩
noncomputable abbrev vD:Str:=⟨⟨[116,97,98,108,101]⟩⟩
noncomputable abbrev q11:Str:=⟨⟨[107,101,112,116,95,112,105,101,99,101,115]⟩⟩
noncomputable abbrev Z4:Str:=⟨⟨[108,111,119,101,114]⟩⟩
noncomputable abbrev HP:Str:=⟨⟨[116,105,101]⟩⟩
noncomputable abbrev YR:Str:=⟨⟨[107,101,112,116,95,116,105,101,115]⟩⟩
noncomputable abbrev xC:Str:=⟨⟨[108,105,116,95,116,105,101]⟩⟩
noncomputable abbrev Tq:Str:=⟨⟨[108,105,116]⟩⟩
noncomputable abbrev N3:Str:=⟨⟨[101,118,101,114,121]⟩⟩
noncomputable abbrev Jd:Str:=⟨⟨[103,97,116,101,102,111,108,100,46,108,105,103,104,116,105,110,103]⟩⟩
noncomputable abbrev uc:Str:=⟨⟨[104,101,97,100]⟩⟩
noncomputable abbrev IJ:Str:=⟨⟨[112,108,97,99,101]⟩⟩
noncomputable abbrev jL:Str:=⟨⟨[103,97,116,101,102,111,108,100,46,109,97,122,101,115]⟩⟩
noncomputable abbrev uR:Str:=⟨⟨[110,101,101,100,95,112,105,101,99,101,115]⟩⟩
noncomputable abbrev aR:Str:=⟨⟨[47,99,108,97,105,109,47,99,117,116,46,112,121]⟩⟩
noncomputable abbrev yg:Str:=⟨⟨[95,108,97,119,95,102,111,108,100,95,98,121]⟩⟩
noncomputable abbrev tK:Str:=⟨⟨[78,111,75,110,111,116]⟩⟩
noncomputable abbrev yj:Str:=⟨⟨[110,101,101,100,95,115,105,122,101]⟩⟩
noncomputable abbrev Qf:Str:=⟨⟨[115,105,122,101]⟩⟩
noncomputable abbrev wL:Str:=⟨⟨[105,115,95,98,101,116,119,101,101,110]⟩⟩
noncomputable abbrev q31:Str:=⟨⟨[76,69,65,83,84,95,83,73,90,69]⟩⟩
noncomputable abbrev q32:Str:=⟨⟨[71,82,69,65,84,69,83,84,95,83,73,90,69]⟩⟩
noncomputable abbrev sA:Str:=⟨⟨[78,111,83,105,122,101]⟩⟩
noncomputable abbrev iI:Str:=⟨⟨[103,97,116,101,102,111,108,100,46,108,97,98,101,108,115]⟩⟩
noncomputable abbrev vJ:Str:=⟨⟨[108,105,116,95,112,97,105,114]⟩⟩
noncomputable abbrev Ux:Str:=⟨⟨[116,104,105,110,103]⟩⟩
noncomputable abbrev Xd:Str:=⟨⟨[108,101,97,115,116]⟩⟩
noncomputable abbrev Z0:Str:=⟨⟨[103,114,101,97,116,101,115,116]⟩⟩
noncomputable abbrev xx:Str:=⟨⟨[105,115,95,119,104,111,108,101]⟩⟩
noncomputable abbrev vF:Str:=⟨⟨[110,101,101,100,95,103,111,97,108,115]⟩⟩
noncomputable abbrev He:Str:=⟨⟨[109,97,122,101]⟩⟩
noncomputable abbrev PR:Str:=⟨⟨[103,111,97,108,115]⟩⟩
noncomputable abbrev Su:Str:=⟨⟨[103,111,97,108]⟩⟩
noncomputable abbrev tL:Str:=⟨⟨[78,111,71,111,97,108]⟩⟩
noncomputable abbrev uY:Str:=⟨⟨[109,97,122,101,95,111,102]⟩⟩
noncomputable abbrev jK:Str:=⟨⟨[95,95,109,111,100,117,108,101,95,95]⟩⟩
noncomputable abbrev gP:Str:=⟨⟨[103,97,116,101,102,111,108,100,46,101,114,114,111,114,115]⟩⟩
noncomputable abbrev jY:Str:=⟨⟨[95,95,102,105,114,115,116,108,105,110,101,110,111,95,95]⟩⟩
noncomputable abbrev jW:Str:=⟨⟨[95,95,115,116,97,116,105,99,95,97,116,116,114,105,98,117,116,101,115,95,95]⟩⟩
noncomputable abbrev oZ:Str:=⟨⟨[95,95,100,111,99,95,95]⟩⟩
noncomputable abbrev BV:Str:=⟨⟨[116,111,116,97,108]⟩⟩
noncomputable abbrev Ml:Str:=⟨⟨[70,111,108,100,46,116,111,116,97,108]⟩⟩
noncomputable abbrev q56:Str:=⟨⟨[112,97,105,114,115]⟩⟩
noncomputable abbrev F1:Str:=⟨⟨[115,101,116,116,108,101]⟩⟩
noncomputable abbrev MM:Str:=⟨⟨[76,97,98,101,108,115,46,115,101,116,116,108,101]⟩⟩
noncomputable abbrev ug:Str:=⟨⟨[108,97,119]⟩⟩
noncomputable abbrev lP:Str:=⟨⟨[95,95,105,110,105,116,95,95]⟩⟩
noncomputable abbrev O7:Str:=⟨⟨[76,97,98,101,108,115,46,95,95,105,110,105,116,95,95]⟩⟩
noncomputable abbrev Lg:Str:=⟨⟨[102,111,108,100]⟩⟩
noncomputable abbrev xM:Str:=⟨⟨[105,115,95,99,117,116]⟩⟩
noncomputable abbrev rW:Str:=⟨⟨[78,111,67,117,116]⟩⟩
noncomputable abbrev xA:Str:=⟨⟨[102,117,108,108,95,99,111,108,117,109,110]⟩⟩
noncomputable abbrev xY:Str:=⟨⟨[105,110,112,117,116,95,99,111,108,117,109,110,115]⟩⟩
noncomputable abbrev uf:Str:=⟨⟨[114,101,97,99,104,101,100]⟩⟩
noncomputable abbrev wQ:Str:=⟨⟨[112,97,105,114]⟩⟩
noncomputable abbrev lI:Str:=⟨⟨[95,95,110,97,109,101,95,95]⟩⟩
noncomputable abbrev Z9:Str:=⟨⟨[95,95,112,97,99,107,97,103,101,95,95]⟩⟩
noncomputable abbrev q74:Str:=⟨⟨[95,95,108,111,97,100,101,114,95,95]⟩⟩
noncomputable abbrev Yo:Str:=⟨⟨[95,95,115,112,101,99,95,95]⟩⟩
noncomputable abbrev WW:Str:=⟨⟨[95,95,97,110,110,111,116,97,116,105,111,110,115,95,95]⟩⟩
noncomputable abbrev q77:Str:=⟨⟨[95,95,98,117,105,108,116,105,110,115,95,95]⟩⟩
noncomputable abbrev YY:Str:=⟨⟨[95,95,102,105,108,101,95,95]⟩⟩
noncomputable abbrev q79:Str:=⟨⟨[95,95,99,97,99,104,101,100,95,95]⟩⟩
noncomputable abbrev fS:Str:=⟨⟨[70,111,108,100,69,114,114,111,114]⟩⟩
noncomputable abbrev tI:Str:=⟨⟨[78,111,84,105,101]⟩⟩
noncomputable abbrev sI:Str:=⟨⟨[66,111,97,114,100]⟩⟩
noncomputable abbrev Fu:Str:=⟨⟨[104,97,115,95,116,105,101]⟩⟩
noncomputable abbrev N6:Str:=⟨⟨[70,111,108,100,46,104,97,115,95,116,105,101]⟩⟩
noncomputable abbrev xI:Str:=⟨⟨[102,111,111,116]⟩⟩
noncomputable abbrev Ni:Str:=⟨⟨[70,111,108,100,46,112,97,105,114]⟩⟩
noncomputable abbrev qd:Str:=⟨⟨[108,97,119,95,103,97,116,101,102,111,108,100,95,107,51,55,95,108,97,105,100,95,97,115,95,100,101,101,112,95,97,115,95,108,97,98,101,108,115]⟩⟩
noncomputable abbrev tG:Str:=⟨⟨[78,111,66,111,97,114,100]⟩⟩
noncomputable abbrev vm:Str:=⟨⟨[99,104,111,115,101,110,95,108,105,116]⟩⟩
noncomputable abbrev yw:Str:=⟨⟨[105,115,95,114,105,115,105,110,103]⟩⟩
noncomputable abbrev q91:Str:=⟨⟨[77,79,83,84,95,73,78,80,85,84,83]⟩⟩
noncomputable abbrev q92:Str:=⟨⟨[71,82,69,65,84,69,83,84,95,75,78,79,84]⟩⟩
noncomputable abbrev q93:Str:=⟨⟨[76,79,78,71,69,83,84,95,67,85,84]⟩⟩
noncomputable abbrev uG:Str:=⟨⟨[105,115,95,99,117,116,95,111,102]⟩⟩
noncomputable abbrev zg:Str:=⟨⟨[110,101,101,100,95,116,105,101,115]⟩⟩
noncomputable abbrev wN:Str:=⟨⟨[112,105,101,99,101,95,99,111,108,117,109,110]⟩⟩
noncomputable abbrev zf:Str:=⟨⟨[99,111,110,101]⟩⟩
noncomputable abbrev yW:Str:=⟨⟨[110,101,120,116,95,101,110,100,115]⟩⟩
noncomputable abbrev vN:Str:=⟨⟨[115,101,97,114,99,104]⟩⟩
noncomputable abbrev vq:Str:=⟨⟨[108,101,97,100]⟩⟩
noncomputable abbrev yo:Str:=⟨⟨[119,97,121,95,102,114,111,109]⟩⟩
noncomputable abbrev vV:Str:=⟨⟨[119,97,121,115,95,111,102]⟩⟩
noncomputable abbrev vC:Str:=⟨⟨[115,116,111,112,115,95,111,102]⟩⟩
noncomputable abbrev uD:Str:=⟨⟨[97,112,97,114,116]⟩⟩
noncomputable abbrev sE:Str:=⟨⟨[76,97,98,101,108,115]⟩⟩
noncomputable abbrev yd:Str:=⟨⟨[108,97,105,100]⟩⟩
noncomputable abbrev MH:Str:=⟨⟨[78,69,86,69,82]⟩⟩
noncomputable abbrev Nb:Str:=⟨⟨[65,76,87,65,89,83]⟩⟩
noncomputable abbrev uz:Str:=⟨⟨[116,117,114,110,101,100]⟩⟩
noncomputable abbrev tR:Str:=⟨⟨[70,111,108,100]⟩⟩
noncomputable abbrev ky:Str:=⟨⟨[103,97,116,101,102,111,108,100,46,102,111,108,100,115]⟩⟩
noncomputable abbrev oQ:Str:=⟨⟨[98,111,116,104]⟩⟩
noncomputable abbrev pB:Str:=⟨⟨[97,110,100,95,107,110,111,116]⟩⟩
noncomputable abbrev nZ:Str:=⟨⟨[95,95,100,105,99,116,95,95]⟩⟩
noncomputable abbrev sv:Str:=⟨⟨[95,95,119,101,97,107,114,101,102,95,95]⟩⟩
noncomputable abbrev rN:Str:=⟨⟨[97,98,111,118,101]⟩⟩
noncomputable abbrev AV:Str:=⟨⟨[115,112,114,105,110,103]⟩⟩
noncomputable abbrev Ec:Str:=⟨⟨[95,108,97,119,95,115,99,114,105,112,116]⟩⟩
noncomputable abbrev NJ:Str:=⟨⟨[95,108,97,119,95,109,97,110,121]⟩⟩
noncomputable abbrev OV:Str:=⟨⟨[95,108,97,119,95,102,111,108,100]⟩⟩
noncomputable abbrev Kz:Str:=⟨⟨[95,108,97,119,95,116,111,112]⟩⟩
noncomputable abbrev Df:Str:=⟨⟨[95,108,97,119,95,107]⟩⟩
noncomputable abbrev K7:Str:=⟨⟨[95,108,97,119,95,99,101,108,108]⟩⟩
noncomputable abbrev KJ:Str:=⟨⟨[95,108,97,119,95,108,97,115,116]⟩⟩
noncomputable abbrev Pw:Str:=⟨⟨[95,108,97,119,95,111,110,101]⟩⟩
noncomputable abbrev J5:Str:=⟨⟨[95,108,97,119,95,111,116,104,101,114]⟩⟩
noncomputable abbrev qw:Str:=⟨⟨[95,95,113,117,97,108,110,97,109,101,95,95]⟩⟩
noncomputable abbrev Kv:Str:=⟨⟨[109,111,115,116]⟩⟩
noncomputable abbrev J9:Str:=⟨⟨[110,117,109,98,101,114]⟩⟩
noncomputable abbrev LD:Str:=⟨⟨[102,111,117,110,100]⟩⟩
noncomputable abbrev m8:Str:=⟨⟨[99,111,108,117,109,110,115]⟩⟩
noncomputable abbrev Kd:Str:=⟨⟨[117,112,112,101,114]⟩⟩
noncomputable abbrev pQ:Str:=⟨⟨[108,97,98,101,108]⟩⟩
noncomputable abbrev yx:Str:=⟨⟨[76,97,98,101,108,115,46,108,97,98,101,108]⟩⟩
noncomputable abbrev vH:Str:=⟨⟨[76,97,98,101,108,115,46,99,117,116]⟩⟩
noncomputable abbrev pN:Str:=⟨⟨[112,105,101,99,101,115]⟩⟩
noncomputable abbrev yI:Str:=⟨⟨[66,111,97,114,100,46,112,105,101,99,101,115]⟩⟩
noncomputable abbrev Mt:Str:=⟨⟨[107,110,111,116,115]⟩⟩
noncomputable abbrev u6:Str:=⟨⟨[70,111,108,100,46,97,110,100,95,107,110,111,116]⟩⟩
noncomputable abbrev wc:Str:=⟨⟨[116,105,101,115]⟩⟩
noncomputable abbrev nM:Str:=⟨⟨[119,97,121,115]⟩⟩
noncomputable abbrev xD:Str:=⟨⟨[76,97,98,101,108,115,46,119,97,121,115]⟩⟩
noncomputable abbrev oY:Str:=⟨⟨[110,101,101,100,95,97,110,100,95,107,110,111,116]⟩⟩
noncomputable abbrev OY:Str:=⟨⟨[119,97,121]⟩⟩
noncomputable abbrev JA:Str:=⟨⟨[102,111,117,110,100,95,119,97,121,115]⟩⟩
noncomputable abbrev t4:Str:=⟨⟨[95,108,97,119,95,99,101,108,108,95,97,116]⟩⟩
noncomputable abbrev yS:Str:=⟨⟨[95,108,97,119,95,100,101,112,116,104,115]⟩⟩
noncomputable abbrev Oy:Str:=⟨⟨[108,111,119,101,114,115]⟩⟩
noncomputable abbrev Kp:Str:=⟨⟨[108,101,118,101,108,115]⟩⟩
noncomputable abbrev rO:Str:=⟨⟨[103,97,116,101,102,111,108,100,46,98,105,116,115]⟩⟩
noncomputable abbrev wu:Str:=⟨⟨[66,111,97,114,100,46,99,111,108,117,109,110,115]⟩⟩
noncomputable abbrev yM:Str:=⟨⟨[70,111,108,100,46,95,95,105,110,105,116,95,95]⟩⟩
noncomputable abbrev xV:Str:=⟨⟨[76,97,98,101,108,115,46,110,101,101,100,95,97,110,100,95,107,110,111,116]⟩⟩
noncomputable abbrev Ef:Str:=⟨⟨[101,110,100]⟩⟩
noncomputable abbrev Nv:Str:=⟨⟨[102,111,117,110,100,95,99,117,116,115]⟩⟩
noncomputable abbrev N2:Str:=⟨⟨[95,95,109,97,105,110,95,95]⟩⟩
noncomputable abbrev Lh:Str:=⟨⟨[111,110,101]⟩⟩
noncomputable abbrev LO:Str:=⟨⟨[111,116,104,101,114]⟩⟩
noncomputable abbrev AN:Str:=⟨⟨[102,105,114,115,116]⟩⟩
noncomputable abbrev KS:Str:=⟨⟨[115,101,99,111,110,100]⟩⟩
noncomputable abbrev xK:Str:=⟨⟨[70,111,108,100,46,98,111,116,104]⟩⟩
noncomputable abbrev vo:Str:=⟨⟨[103,97,116,101,102,111,108,100,46,99,111,110,101,115]⟩⟩
noncomputable abbrev jF:Str:=⟨⟨[103,97,116,101,102,111,108,100,46,98,111,97,114,100,115]⟩⟩
noncomputable abbrev DF:Str:=⟨⟨[103,97,116,101,102,111,108,100,46,108,97,121,105,110,103]⟩⟩
noncomputable abbrev D5:Str:=⟨⟨[99,97,109,101]⟩⟩
noncomputable abbrev CG:Str:=⟨⟨[60,109,111,100,117,108,101,62]⟩⟩
noncomputable abbrev vP:Str:=⟨⟨[66,111,97,114,100,46,95,95,105,110,105,116,95,95]⟩⟩
noncomputable abbrev pX:Str:=⟨⟨[107,101,101,112]⟩⟩
noncomputable abbrev yH:Str:=⟨⟨[76,97,98,101,108,115,46,107,101,101,112]⟩⟩
noncomputable abbrev JS:Str:=⟨⟨[108,101,118,101,108]⟩⟩
noncomputable abbrev xk:Str:=⟨⟨[103,97,116,101,102,111,108,100,46,119,104,111,108,101,115]⟩⟩
noncomputable abbrev wD:Str:=⟨⟨[66,111,97,114,100,46,116,105,101,115]⟩⟩
noncomputable abbrev LB:Str:=⟨⟨[119,97,105,116,105,110,103]⟩⟩
noncomputable abbrev Ou:Str:=⟨⟨[97,104,101,97,100]⟩⟩
noncomputable abbrev Ox:Str:=⟨⟨[103,97,116,101,102,111,108,100,46,103,97,116,101,115]⟩⟩
noncomputable abbrev Bs:Str:=⟨⟨[103,97,116,101,102,111,108,100,46,116,97,98,108,101,115]⟩⟩
noncomputable def au (P:PM):=oq y0 [] 0
noncomputable abbrev e:=L au
noncomputable def aM (P:PM):OB:=(Obj.mk vn none (df ⟨[]⟩) ⟨[]⟩)
noncomputable def Nu (P:PM):=of y1 [vs CG 182,vs CG 183,vs aR 184,vi 1 0,z0,z0,z0,z0,vr 11,bF,vi 181 0,vr 12,vn,vn,vn,vn,vi 185 0,vi 1 0,vs aR 186]
noncomputable def LK (P:PM):=(ob y2 Data.plain ⟨[(sr 13),(sr 3),(sr 3),none,(ss N2 164),none,(sr 0)]⟩)
noncomputable abbrev w0 (P:PM):List DictEntry:=[de P oZ 166 vn,de P Z9 167 vn,de P q74 168 (vb y4),de P Yo 169 vn,de P WW 170 (vr 6),de P q77 171 (vr 4),de P YY 173 (vs aR 172),de P q79 174 vn,de P xA 195 (vr 21),de P xY 201 (vr 26),de P fS 221 (vr 36)]
noncomputable def Yb (P:PM):=od y3 ([de P lI 165 (vs gP 202)]++w0 P) 12
noncomputable abbrev P8 (P:PM):List Value:=[vi 2 0,z0,vr 20,vi 4 0,z0,vr 25,vi 15 0,z0,vr 32]
noncomputable def o50 (P:PM):OB:=(Obj.mk vn none (df ⟨(P8 P)⟩) ⟨[]⟩)
noncomputable def QL (P:PM):=oq y0 [vs q7 192] 0
noncomputable def Qz (P:PM):=j0 xA xA (tT 1)
noncomputable def J1 (P:PM):=of y1 [vs xA 189,vs xA 190,vs aR 191,vi 2 0,vi 1 0,z0,z0,vi 3 0,vr 15,bT,vi 181 0,vr 16,vn,vr 17,vr 18,vr 19,vi 193 0,vi 2 0,vs aR 194]
noncomputable def Qe (P:PM):=j1 xA xA (tT 1) rO 187 20
noncomputable def VI (P:PM):=j0 xY xY (tT 2)
noncomputable def Od (P:PM):=oC xY xY aR 196 4 1 3 22 181
noncomputable def TU (P:PM):=j1 xY xY (tT 2) rO 187 25
noncomputable def V3 (P:PM):=oq y0 [(vt y6)] 0
noncomputable def jX (P:PM):=of y7 [(vb y8),(vt y9)]
noncomputable def Sh (P:PM):=od y3 [de P jK 211 (vs gP 202),de P qw 213 (vs fS 212),de P jY 215 (vi 15 214),de P jW 216 (vr 34)] 4
noncomputable def SE (P:PM):=of y1 [vs fS 206,vs fS 207,vs aR 208,vi 15 0,z0,z0,z0,z0,vr 30,bF,vi 181 0,vr 31,vn,vn,vn,vn,vi 209 0,vi 15 0,vs aR 210]
noncomputable def Rr (P:PM):=(ob y2 Data.plain ⟨[(sr 32),(sr 3),(sr 29),none,(ss gP 202),none,(sr 0)]⟩)
noncomputable def Nz (P:PM):=od y3 [de P jK 211 (vs gP 202),de P jY 215 (vi 15 214),de P jW 216 (vr 34),de P sv 218 (vr 37),de P oZ 219 vn] 3
noncomputable def o72 (P:PM):=(ob y9 (Data.cls (ClassData.mk fS [(vt y6)] [vr 36,(vt y6),(vt nU),(vt nQ),(vt kf)] 35 fS true [] [] false none false)) ⟨[(sr 27),none,(ss fS 204),(ss fS 212),(some (vb oa)),(some bT)]⟩)
noncomputable def UO (P:PM):=of vh [vs sv 217,vr 36,(vb HI),vn]
noncomputable def Ud (P:PM):=of qI [vr 36,vr 36,vr 36]
noncomputable def Uo (P:PM):=of y7 [(vb qv),vr 36]
noncomputable abbrev w1 (P:PM):List DictEntry:=w0 P++[de P tI 237 (vr 49)]
noncomputable def ZJ (P:PM):=od y3 ([de P lI 165 (vs gP 202)]++w1 P) 13
noncomputable abbrev Vn (P:PM):List Value:=P8 P++[vi 17 0,z0,vr 45]
noncomputable def Y0 (P:PM):OB:=(Obj.mk vn none (df ⟨(Vn P)⟩) ⟨[]⟩)
noncomputable def Wi (P:PM):=(ob y9 (Data.cls (ClassData.mk fS [(vt y6)] [vr 36,(vt y6),(vt nU),(vt nQ),(vt kf)] 35 fS true [] [vr 49] false none false)) ⟨[(sr 27),none,(ss fS 204),(ss fS 212),(some (vb oa)),(some bT)]⟩)
noncomputable def ow (P:PM):=oq y0 [vr 36] 0
noncomputable def SO (P:PM):=od y3 [de P jK 229 (vs gP 202),de P qw 231 (vs tI 230),de P jY 233 (vi 17 232),de P jW 234 (vr 47)] 4
noncomputable def VN (P:PM):=of y1 [vs tI 224,vs tI 225,vs aR 226,vi 17 0,z0,z0,z0,z0,vr 43,bF,vi 181 0,vr 44,vn,vn,vn,vn,vi 227 0,vi 17 0,vs aR 228]
noncomputable def TC (P:PM):=(ob y2 Data.plain ⟨[(sr 45),(sr 3),(sr 42),none,(ss gP 202),none,(sr 0)]⟩)
noncomputable def LC (P:PM):=od y3 [de P jK 229 (vs gP 202),de P jY 233 (vi 17 232),de P jW 234 (vr 47),de P oZ 235 vn] 2
noncomputable def MA (P:PM):=(ob y9 (Data.cls (ClassData.mk tI [vr 36] [vr 49,vr 36,(vt y6),(vt nU),(vt nQ),(vt kf)] 48 tI true [] [] false none false)) ⟨[(sr 40),none,(ss tI 222),(ss tI 230),(some (vb oa)),(some bT)]⟩)
noncomputable def T2 (P:PM):=of qI [vr 49,vr 49,vr 49]
noncomputable def Ru (P:PM):=of y7 [(vb qv),vr 49]
noncomputable abbrev w2 (P:PM):List DictEntry:=w1 P++[de P tK 253 (vr 61)]
noncomputable def o91 (P:PM):=od y3 ([de P lI 165 (vs gP 202)]++w2 P) 14
noncomputable abbrev VY (P:PM):List Value:=Vn P++[vi 19 0,z0,vr 57]
noncomputable def o92 (P:PM):OB:=(Obj.mk vn none (df ⟨(VY P)⟩) ⟨[]⟩)
noncomputable def o93 (P:PM):=(ob y9 (Data.cls (ClassData.mk fS [(vt y6)] [vr 36,(vt y6),(vt nU),(vt nQ),(vt kf)] 35 fS true [] [vr 49,vr 61] false none false)) ⟨[(sr 27),none,(ss fS 204),(ss fS 212),(some (vb oa)),(some bT)]⟩)
noncomputable def Vz (P:PM):=od y3 [de P jK 245 (vs gP 202),de P qw 247 (vs tK 246),de P jY 249 (vi 19 248),de P jW 250 (vr 59)] 4
noncomputable def U7 (P:PM):=of y1 [vs tK 240,vs tK 241,vs aR 242,vi 19 0,z0,z0,z0,z0,vr 55,bF,vi 181 0,vr 56,vn,vn,vn,vn,vi 243 0,vi 19 0,vs aR 244]
noncomputable def FA (P:PM):=(ob y2 Data.plain ⟨[(sr 57),(sr 3),(sr 54),none,(ss gP 202),none,(sr 0)]⟩)
noncomputable def tX (P:PM):=od y3 [de P jK 245 (vs gP 202),de P jY 249 (vi 19 248),de P jW 250 (vr 59),de P oZ 251 vn] 2
noncomputable def uu (P:PM):=(ob y9 (Data.cls (ClassData.mk tK [vr 36] [vr 61,vr 36,(vt y6),(vt nU),(vt nQ),(vt kf)] 60 tK true [] [] false none false)) ⟨[(sr 52),none,(ss tK 238),(ss tK 246),(some (vb oa)),(some bT)]⟩)
noncomputable def C7 (P:PM):=of qI [vr 61,vr 61,vr 61]
noncomputable def Gu (P:PM):=of y7 [(vb qv),vr 61]
noncomputable abbrev w3 (P:PM):List DictEntry:=w2 P++[de P rW 269 (vr 73)]
noncomputable def Ki (P:PM):=od y3 ([de P lI 165 (vs gP 202)]++w3 P) 15
noncomputable abbrev Tr (P:PM):List Value:=VY P++[vi 21 0,z0,vr 69]
noncomputable def KC (P:PM):OB:=(Obj.mk vn none (df ⟨(Tr P)⟩) ⟨[]⟩)
noncomputable def O6 (P:PM):=(ob y9 (Data.cls (ClassData.mk fS [(vt y6)] [vr 36,(vt y6),(vt nU),(vt nQ),(vt kf)] 35 fS true [] [vr 49,vr 61,vr 73] false none false)) ⟨[(sr 27),none,(ss fS 204),(ss fS 212),(some (vb oa)),(some bT)]⟩)
noncomputable def CU (P:PM):=od y3 [de P jK 261 (vs gP 202),de P qw 263 (vs rW 262),de P jY 265 (vi 21 264),de P jW 266 (vr 71)] 4
noncomputable def E3 (P:PM):=of y1 [vs rW 256,vs rW 257,vs aR 258,vi 21 0,z0,z0,z0,z0,vr 67,bF,vi 181 0,vr 68,vn,vn,vn,vn,vi 259 0,vi 21 0,vs aR 260]
noncomputable def FJ (P:PM):=(ob y2 Data.plain ⟨[(sr 69),(sr 3),(sr 66),none,(ss gP 202),none,(sr 0)]⟩)
noncomputable def zw (P:PM):=od y3 [de P jK 261 (vs gP 202),de P jY 265 (vi 21 264),de P jW 266 (vr 71),de P oZ 267 vn] 2
noncomputable def vI (P:PM):=(ob y9 (Data.cls (ClassData.mk rW [vr 36] [vr 73,vr 36,(vt y6),(vt nU),(vt nQ),(vt kf)] 72 rW true [] [] false none false)) ⟨[(sr 64),none,(ss rW 254),(ss rW 262),(some (vb oa)),(some bT)]⟩)
noncomputable def DS (P:PM):=of qI [vr 73,vr 73,vr 73]
noncomputable def BH (P:PM):=of y7 [(vb qv),vr 73]
noncomputable abbrev w4 (P:PM):List DictEntry:=w3 P++[de P tL 285 (vr 85)]
noncomputable def Pn (P:PM):=od y3 ([de P lI 165 (vs gP 202)]++w4 P) 16
noncomputable abbrev Q7 (P:PM):List Value:=Tr P++[vi 23 0,z0,vr 81]
noncomputable def NF (P:PM):OB:=(Obj.mk vn none (df ⟨(Q7 P)⟩) ⟨[]⟩)
noncomputable def Jn (P:PM):=(ob y9 (Data.cls (ClassData.mk fS [(vt y6)] [vr 36,(vt y6),(vt nU),(vt nQ),(vt kf)] 35 fS true [] [vr 49,vr 61,vr 73,vr 85] false none false)) ⟨[(sr 27),none,(ss fS 204),(ss fS 212),(some (vb oa)),(some bT)]⟩)
noncomputable def Fe (P:PM):=od y3 [de P jK 277 (vs gP 202),de P qw 279 (vs tL 278),de P jY 281 (vi 23 280),de P jW 282 (vr 83)] 4
noncomputable def Bn (P:PM):=of y1 [vs tL 272,vs tL 273,vs aR 274,vi 23 0,z0,z0,z0,z0,vr 79,bF,vi 181 0,vr 80,vn,vn,vn,vn,vi 275 0,vi 23 0,vs aR 276]
noncomputable def GG (P:PM):=(ob y2 Data.plain ⟨[(sr 81),(sr 3),(sr 78),none,(ss gP 202),none,(sr 0)]⟩)
noncomputable def wF (P:PM):=od y3 [de P jK 277 (vs gP 202),de P jY 281 (vi 23 280),de P jW 282 (vr 83),de P oZ 283 vn] 2
noncomputable def ze (P:PM):=(ob y9 (Data.cls (ClassData.mk tL [vr 36] [vr 85,vr 36,(vt y6),(vt nU),(vt nQ),(vt kf)] 84 tL true [] [] false none false)) ⟨[(sr 76),none,(ss tL 270),(ss tL 278),(some (vb oa)),(some bT)]⟩)
noncomputable def D9 (P:PM):=of qI [vr 85,vr 85,vr 85]
noncomputable def FW (P:PM):=of y7 [(vb qv),vr 85]
noncomputable abbrev w5 (P:PM):List DictEntry:=w4 P++[de P sA 301 (vr 97)]
noncomputable def Lw (P:PM):=od y3 ([de P lI 165 (vs gP 202)]++w5 P) 17
noncomputable abbrev Tf (P:PM):List Value:=Q7 P++[vi 25 0,z0,vr 93]
noncomputable def NU (P:PM):OB:=(Obj.mk vn none (df ⟨(Tf P)⟩) ⟨[]⟩)
noncomputable def K4 (P:PM):=(ob y9 (Data.cls (ClassData.mk fS [(vt y6)] [vr 36,(vt y6),(vt nU),(vt nQ),(vt kf)] 35 fS true [] [vr 49,vr 61,vr 73,vr 85,vr 97] false none false)) ⟨[(sr 27),none,(ss fS 204),(ss fS 212),(some (vb oa)),(some bT)]⟩)
noncomputable def F3 (P:PM):=od y3 [de P jK 293 (vs gP 202),de P qw 295 (vs sA 294),de P jY 297 (vi 25 296),de P jW 298 (vr 95)] 4
noncomputable def Hh (P:PM):=of y1 [vs sA 288,vs sA 289,vs aR 290,vi 25 0,z0,z0,z0,z0,vr 91,bF,vi 181 0,vr 92,vn,vn,vn,vn,vi 291 0,vi 25 0,vs aR 292]
noncomputable def DN (P:PM):=(ob y2 Data.plain ⟨[(sr 93),(sr 3),(sr 90),none,(ss gP 202),none,(sr 0)]⟩)
noncomputable def xN (P:PM):=od y3 [de P jK 293 (vs gP 202),de P jY 297 (vi 25 296),de P jW 298 (vr 95),de P oZ 299 vn] 2
noncomputable def uW (P:PM):=(ob y9 (Data.cls (ClassData.mk sA [vr 36] [vr 97,vr 36,(vt y6),(vt nU),(vt nQ),(vt kf)] 96 sA true [] [] false none false)) ⟨[(sr 88),none,(ss sA 286),(ss sA 294),(some (vb oa)),(some bT)]⟩)
noncomputable def Bp (P:PM):=of qI [vr 97,vr 97,vr 97]
noncomputable def DO (P:PM):=of y7 [(vb qv),vr 97]
noncomputable abbrev w6 (P:PM):List DictEntry:=w5 P++[de P tG 317 (vr 109),de P vm 328 (vr 118),de P vJ 339 (vr 125),de P xC 348 (vr 132),de P xx 357 (vr 139),de P wL 366 (vr 146)]
noncomputable def Kf (P:PM):=od y3 ([de P lI 165 (vs xk 349)]++w6 P) 23
noncomputable abbrev Q4 (P:PM):List Value:=Tf P++[vi 27 0,z0,vr 105,vi 30 0,z0,vr 117,vi 34 0,z0,vr 124,vi 36 0,z0,vr 131,vi 39 0,z0,vr 138,vi 41 0,z0,vr 145]
noncomputable def MI (P:PM):OB:=(Obj.mk vn none (df ⟨(Q4 P)⟩) ⟨[]⟩)
noncomputable def yv (P:PM):=(ob y9 (Data.cls (ClassData.mk fS [(vt y6)] [vr 36,(vt y6),(vt nU),(vt nQ),(vt kf)] 35 fS true [] [vr 49,vr 61,vr 73,vr 85,vr 97,vr 109] false none false)) ⟨[(sr 27),none,(ss fS 204),(ss fS 212),(some (vb oa)),(some bT)]⟩)
noncomputable def Ew (P:PM):=od y3 [de P jK 309 (vs gP 202),de P qw 311 (vs tG 310),de P jY 313 (vi 27 312),de P jW 314 (vr 107)] 4
noncomputable def FG (P:PM):=of y1 [vs tG 304,vs tG 305,vs aR 306,vi 27 0,z0,z0,z0,z0,vr 103,bF,vi 181 0,vr 104,vn,vn,vn,vn,vi 307 0,vi 27 0,vs aR 308]
noncomputable def Bv (P:PM):=(ob y2 Data.plain ⟨[(sr 105),(sr 3),(sr 102),none,(ss gP 202),none,(sr 0)]⟩)
noncomputable def wJ (P:PM):=od y3 [de P jK 309 (vs gP 202),de P jY 313 (vi 27 312),de P jW 314 (vr 107),de P oZ 315 vn] 2
noncomputable def we (P:PM):=(ob y9 (Data.cls (ClassData.mk tG [vr 36] [vr 109,vr 36,(vt y6),(vt nU),(vt nQ),(vt kf)] 108 tG true [] [] false none false)) ⟨[(sr 100),none,(ss tG 302),(ss tG 310),(some (vb oa)),(some bT)]⟩)
noncomputable def El (P:PM):=of qI [vr 109,vr 109,vr 109]
noncomputable def FX (P:PM):=of y7 [(vb qv),vr 109]
noncomputable def Et (P:PM):=oq y0 [vs m8 323,vs N3 324,vs AN 325] 0
noncomputable def D0 (P:PM):=j0 vm vm (tT 12)
noncomputable def FY (P:PM):=of y1 [vs vm 320,vs vm 321,vs aR 322,vi 30 0,vi 2 0,z0,z0,vi 3 0,vr 112,bT,vi 181 0,vr 113,vn,vr 114,vr 115,vr 116,vi 326 0,vi 30 0,vs aR 327]
noncomputable def EO (P:PM):=j1 vm vm (tT 12) Ox 318 117
noncomputable def GH (P:PM):=oq y0 [vs Tq 334,vs wQ 335,vs N3 336] 0
noncomputable def CW (P:PM):=j0 vJ vJ (tT 14)
noncomputable def xE (P:PM):=of y1 [vs vJ 331,vs vJ 332,vs aR 333,vi 34 0,vi 3 0,z0,z0,vi 3 0,vr 119,bT,vi 181 0,vr 120,vn,vr 121,vr 122,vr 123,vi 337 0,vi 34 0,vs aR 338]
noncomputable def F8 (P:PM):=j1 vJ vJ (tT 14) Jd 329 124
noncomputable def CQ (P:PM):=oq y0 [vs Tq 343,vs HP 344,vs N3 345] 0
noncomputable def AZ (P:PM):=j0 xC xC (tT 15)
noncomputable def xj (P:PM):=of y1 [vs xC 340,vs xC 341,vs aR 342,vi 36 0,vi 3 0,z0,z0,vi 3 0,vr 126,bT,vi 181 0,vr 127,vn,vr 128,vr 129,vr 130,vi 346 0,vi 36 0,vs aR 347]
noncomputable def Bm (P:PM):=j1 xC xC (tT 15) Jd 329 131
noncomputable def Eu (P:PM):=oq y0 [vs Ux 354] 0
noncomputable def EC (P:PM):=j0 xx xx (tT 17)
noncomputable def ux (P:PM):=of y1 [vs xx 351,vs xx 352,vs aR 353,vi 39 0,vi 1 0,z0,z0,vi 3 0,vr 133,bT,vi 181 0,vr 134,vn,vr 135,vr 136,vr 137,vi 355 0,vi 39 0,vs aR 356]
noncomputable def A1 (P:PM):=j1 xx xx (tT 17) xk 349 138
noncomputable def CM (P:PM):=oq y0 [vs Ux 361,vs Xd 362,vs Z0 363] 0
noncomputable def ET (P:PM):=j0 wL wL (tT 18)
noncomputable def zu (P:PM):=of y1 [vs wL 358,vs wL 359,vs aR 360,vi 41 0,vi 3 0,z0,z0,vi 3 0,vr 140,bT,vi 181 0,vr 141,vn,vr 142,vr 143,vr 144,vi 364 0,vi 41 0,vs aR 365]
noncomputable def CH (P:PM):=j1 wL wL (tT 18) xk 349 145
noncomputable abbrev w7 (P:PM):List DictEntry:=w6 P++[de P yw 372 (vr 151),de P q91 376 (vi 10 375),de P q92 378 (vi 999 377),de P q93 380 (vi 6 379),de P uG 386 (vr 156),de P uR 392 (vr 161),de P zg 401 (vr 168),de P wN 407 (vr 173)]
noncomputable def Lk (P:PM):=od y3 ([de P lI 165 (vs jF 373)]++w7 P) 31
noncomputable abbrev Sl (P:PM):List Value:=Q4 P++[vi 43 0,z0,vr 150,vi 49 0,z0,vr 155,vi 55 0,z0,vr 160,vi 66 0,z0,vr 167,vi 72 0,z0,vr 172]
noncomputable def MR (P:PM):OB:=(Obj.mk vn none (df ⟨(Sl P)⟩) ⟨[]⟩)
noncomputable def DA (P:PM):=j0 yw yw (tT 19)
noncomputable def yY (P:PM):=oC yw yw aR 367 43 1 3 147 181
noncomputable def Ba (P:PM):=j1 yw yw (tT 19) xk 349 150
noncomputable def B6 (P:PM):=j0 uG uG (tT 24)
noncomputable def wX (P:PM):=oC uG uG aR 381 49 2 3 152 181
noncomputable def EJ (P:PM):=j1 uG uG (tT 24) jF 373 155
noncomputable def Cv (P:PM):=j0 uR uR (tT 25)
noncomputable def uH (P:PM):=oC uR uR aR 387 55 2 3 157 181
noncomputable def E9 (P:PM):=j1 uR uR (tT 25) jF 373 160
noncomputable def G1 (P:PM):=oq y0 [vs wc 396,vs Oy 397,vs HP 398] 0
noncomputable def ER (P:PM):=j0 zg zg (tT 26)
noncomputable def vj (P:PM):=of y1 [vs zg 393,vs zg 394,vs aR 395,vi 66 0,vi 2 0,z0,z0,vi 3 0,vr 162,bT,vi 181 0,vr 163,vn,vr 164,vr 165,vr 166,vi 399 0,vi 66 0,vs aR 400]
noncomputable def Bc (P:PM):=j1 zg zg (tT 26) jF 373 167
noncomputable def CS (P:PM):=j0 wN wN (tT 27)
noncomputable def EH (P:PM):=oC wN wN aR 402 72 3 3 169 181
noncomputable def G0 (P:PM):=j1 wN wN (tT 27) jF 373 172
noncomputable abbrev w8 (P:PM):List DictEntry:=w7 P++[de P sI 461 (vr 210),de P uf 469 (vr 219),de P zf 477 (vr 226)]
noncomputable def Ng (P:PM):=od y3 ([de P lI 165 (vs vo 462)]++w8 P) 34
noncomputable abbrev Sm (P:PM):List Value:=Sl P++[vi 77 0,z0,vr 179,vi 106 0,z0,vr 218,vi 115 0,z0,vr 225]
noncomputable def Mm (P:PM):OB:=(Obj.mk vn none (df ⟨(Sm P)⟩) ⟨[]⟩)
noncomputable abbrev w9 (P:PM):List DictEntry:=[de P qw 417 (vs sI 416),de P jY 419 (vi 77 418),de P lP 425 (vr 185),de P pN 431 (vr 190),de P wc 438 (vr 197),de P m8 444 (vr 202),de P q0 450 (vr 207),de P jW 454 (vr 208)]
noncomputable def EY (P:PM):=od y3 ([de P jK 415 (vs jF 373)]++w9 P) 9
noncomputable abbrev Wk (P:PM):List Value:=[vi 79 0,vi 4 0,vr 184,vi 87 0,vi 4 0,vr 189,vi 90 0,vi 4 0,vr 196,vi 93 0,vi 4 0,vr 201,vi 100 0,vi 4 0,vr 206]
noncomputable def AX (P:PM):OB:=(Obj.mk vn none (df ⟨(Wk P)⟩) ⟨[]⟩)
noncomputable def Ds (P:PM):=of y1 [vs sI 410,vs sI 411,vs aR 412,vi 77 0,z0,z0,z0,z0,vr 177,bF,vi 181 0,vr 178,vn,vn,vn,vn,vi 413 0,vi 77 0,vs aR 414]
noncomputable def D3 (P:PM):=(ob y2 Data.plain ⟨[(sr 179),(sr 3),(sr 176),none,(ss jF 373),none,(sr 0)]⟩)
noncomputable def FZ (P:PM):=j0 lP vP (cM (tT 28) 0)
noncomputable def wM (P:PM):=oC lP vP aR 420 79 4 3 181 181
noncomputable def CB (P:PM):=j1 lP vP (cM (tT 28) 0) jF 373 184
noncomputable def CD (P:PM):=j0 pN yI (cM (tT 28) 1)
noncomputable def uL (P:PM):=oC pN yI aR 426 87 1 3 186 181
noncomputable def BO (P:PM):=j1 pN yI (cM (tT 28) 1) jF 373 189
noncomputable def GX (P:PM):=oq y0 [vs q2 435] 0
noncomputable def GP (P:PM):=j0 wc wD (cM (tT 28) 2)
noncomputable def vg (P:PM):=of y1 [vs wc 432,vs wD 433,vs aR 434,vi 90 0,vi 1 0,z0,z0,vi 3 0,vr 191,bT,vi 181 0,vr 192,vn,vr 193,vr 194,vr 195,vi 436 0,vi 90 0,vs aR 437]
noncomputable def Cc (P:PM):=j1 wc wD (cM (tT 28) 2) jF 373 196
noncomputable def Gs (P:PM):=j0 m8 wu (cM (tT 28) 3)
noncomputable def GB (P:PM):=oC m8 wu aR 439 93 1 3 198 181
noncomputable def BP (P:PM):=j1 m8 wu (cM (tT 28) 3) jF 373 201
noncomputable def DP (P:PM):=j0 q0 q1 (cM (tT 28) 4)
noncomputable def xT (P:PM):=oC q0 q1 aR 445 100 1 3 203 181
noncomputable def B7 (P:PM):=j1 q0 q1 (cM (tT 28) 4) jF 373 206
noncomputable def Bq (P:PM):=oq y0 [vs q11 451,vs YR 452,vs q7 453] 0
noncomputable abbrev Br (P:PM):List DictEntry:=[de P jY 419 (vi 77 418),de P lP 425 (vr 185),de P pN 431 (vr 190),de P wc 438 (vr 197),de P m8 444 (vr 202),de P q0 450 (vr 207),de P jW 454 (vr 208),de P nZ 456 (vr 211),de P sv 458 (vr 212),de P oZ 459 vn]
noncomputable def wg (P:PM):=od y3 ([de P jK 415 (vs jF 373)]++Br P) 4
noncomputable def tW (P:PM):=(ob y9 (Data.cls (ClassData.mk sI [(vt kf)] [vr 210,(vt kf)] 209 sI true [] [] false none false)) ⟨[none,none,(ss sI 408),(ss sI 416),(some (vb LQ)),(some bT)]⟩)
noncomputable def CC (P:PM):=of vh [vs nZ 455,vr 210,(vb Kj),(vb KQ)]
noncomputable def Dh (P:PM):=of vh [vs sv 457,vr 210,(vb HI),vn]
noncomputable def Fl (P:PM):=of qI [vr 210,vr 210,vr 210]
noncomputable def Cw (P:PM):=of y7 [(vb qv),vr 210]
noncomputable def BM (P:PM):=j0 uf uf (tT 30)
noncomputable def uF (P:PM):=oC uf uf aR 464 106 3 3 215 181
noncomputable def BQ (P:PM):=j1 uf uf (tT 30) vo 462 218
noncomputable def EI (P:PM):=oq y0 [vs Lg 473,vs q5 474] 0
noncomputable def Dd (P:PM):=j0 zf zf (tT 31)
noncomputable def yX (P:PM):=of y1 [vs zf 470,vs zf 471,vs aR 472,vi 115 0,vi 2 0,z0,z0,vi 3 0,vr 220,bT,vi 181 0,vr 221,vn,vr 222,vr 223,vr 224,vi 475 0,vi 115 0,vs aR 476]
noncomputable def EM (P:PM):=j1 zf zf (tT 31) vo 462 225
noncomputable abbrev Aj (P:PM):List DictEntry:=w8 P++[de P xM 483 (vr 231),de P uc 492 (vr 238),de P xI 499 (vr 245),de P vF 508 (vr 252),de P yW 514 (vr 257),de P vN 530 (vr 264),de P vq 542 (vr 271),de P yo 551 (vr 278),de P vV 557 (vr 283),de P vC 563 (vr 288),de P uD 575 (vr 295),de P q31 579 (vi 2 578),de P q32 581 (vi 6 580),de P yj 588 (vr 302)]
noncomputable def NN (P:PM):=od y3 ([de P lI 165 (vs iI 576)]++Aj P) 48
noncomputable abbrev Vl (P:PM):List Value:=Sm P++[vi 119 0,z0,vr 230,vi 128 0,z0,vr 237,vi 130 0,z0,vr 244,vi 132 0,z0,vr 251,vi 136 0,z0,vr 256,vi 143 0,z0,vr 263,vi 159 0,z0,vr 270,vi 172 0,z0,vr 277,vi 177 0,z0,vr 282,vi 180 0,z0,vr 287,vi 182 0,z0,vr 294,vi 194 0,z0,vr 301]
noncomputable def PH (P:PM):OB:=(Obj.mk vn none (df ⟨(Vl P)⟩) ⟨[]⟩)
noncomputable def ED (P:PM):=j0 xM xM (tT 32)
noncomputable def xp (P:PM):=oC xM xM aR 478 119 3 3 227 181
noncomputable def Co (P:PM):=j1 xM xM (tT 32) vo 462 230
noncomputable def EU (P:PM):=oq y0 [vs IJ 489] 0
noncomputable def Ge (P:PM):=j0 uc uc (tT 34)
noncomputable def vx (P:PM):=of y1 [vs uc 486,vs uc 487,vs aR 488,vi 128 0,vi 1 0,z0,z0,vi 3 0,vr 232,bT,vi 181 0,vr 233,vn,vr 234,vr 235,vr 236,vi 490 0,vi 128 0,vs aR 491]
noncomputable def Bu (P:PM):=j1 uc uc (tT 34) jL 484 237
noncomputable def Gq (P:PM):=oq y0 [vs IJ 496] 0
noncomputable def GD (P:PM):=j0 xI xI (tT 35)
noncomputable def xQ (P:PM):=of y1 [vs xI 493,vs xI 494,vs aR 495,vi 130 0,vi 1 0,z0,z0,vi 3 0,vr 239,bT,vi 181 0,vr 240,vn,vr 241,vr 242,vr 243,vi 497 0,vi 130 0,vs aR 498]
noncomputable def Cy (P:PM):=j1 xI xI (tT 35) jL 484 244
noncomputable def Gg (P:PM):=oq y0 [vs He 503,vs PR 504,vs Su 505] 0
noncomputable def Hf (P:PM):=j0 vF vF (tT 36)
noncomputable def xc (P:PM):=of y1 [vs vF 500,vs vF 501,vs aR 502,vi 132 0,vi 2 0,z0,z0,vi 3 0,vr 246,bT,vi 181 0,vr 247,vn,vr 248,vr 249,vr 250,vi 506 0,vi 132 0,vs aR 507]
noncomputable def Dl (P:PM):=j1 vF vF (tT 36) jL 484 251
noncomputable def C5 (P:PM):=j0 yW yW (tT 37)
noncomputable def yc (P:PM):=oC yW yW aR 509 136 3 3 253 181
noncomputable def Gr (P:PM):=j1 yW yW (tT 37) jL 484 256
noncomputable def Fd (P:PM):=oq y0 [vs He 518,vs PR 519,vs rN 520,vs D5 521,vs Su 522,vs Z4 523,vs LB 524,vs Ef 525,vs IJ 526,vs Ou 527] 0
noncomputable def FC (P:PM):=j0 vN vN (tT 38)
noncomputable def wo (P:PM):=of y1 [vs vN 515,vs vN 516,vs aR 517,vi 143 0,vi 3 0,z0,z0,vi 3 0,vr 258,bT,vi 181 0,vr 259,vn,vr 260,vr 261,vr 262,vi 528 0,vi 143 0,vs aR 529]
noncomputable def Fh (P:PM):=j1 vN vN (tT 38) jL 484 263
noncomputable def BZ (P:PM):=oq y0 [vs rN 534,vs D5 535,vs AV 536,vs Ef 537,vs IJ 538,vs Kd 539] 0
noncomputable def BK (P:PM):=j0 vq vq (tT 39)
noncomputable def xG (P:PM):=of y1 [vs vq 531,vs vq 532,vs aR 533,vi 159 0,vi 3 0,z0,z0,vi 3 0,vr 265,bT,vi 181 0,vr 266,vn,vr 267,vr 268,vr 269,vi 540 0,vi 159 0,vs aR 541]
noncomputable def DY (P:PM):=j1 vq vq (tT 39) jL 484 270
noncomputable def Ez (P:PM):=oq y0 [vs rN 546,vs AV 547,vs OY 548] 0
noncomputable def C6 (P:PM):=j0 yo yo (tT 40)
noncomputable def yB (P:PM):=of y1 [vs yo 543,vs yo 544,vs aR 545,vi 172 0,vi 2 0,z0,z0,vi 3 0,vr 272,bT,vi 181 0,vr 273,vn,vr 274,vr 275,vr 276,vi 549 0,vi 172 0,vs aR 550]
noncomputable def C8 (P:PM):=j1 yo yo (tT 40) jL 484 277
noncomputable def DJ (P:PM):=j0 vV vV (tT 41)
noncomputable def wb (P:PM):=oC vV vV aR 552 177 2 3 279 181
noncomputable def C3 (P:PM):=j1 vV vV (tT 41) jL 484 282
noncomputable def F9 (P:PM):=j0 vC vC (tT 42)
noncomputable def uA (P:PM):=oC vC vC aR 558 180 1 3 284 181
noncomputable def FF (P:PM):=j1 vC vC (tT 42) jL 484 287
noncomputable def GS (P:PM):=oq y0 [vs He 567,vs PR 568,vs Kv 569,vs rN 570,vs J9 571,vs LD 572] 0
noncomputable def Cr (P:PM):=j0 uD uD (tT 43)
noncomputable def wx (P:PM):=of y1 [vs uD 564,vs uD 565,vs aR 566,vi 182 0,vi 3 0,z0,z0,vi 3 0,vr 289,bT,vi 181 0,vr 290,vn,vr 291,vr 292,vr 293,vi 573 0,vi 182 0,vs aR 574]
noncomputable def E4 (P:PM):=j1 uD uD (tT 43) jL 484 294
noncomputable def EA (P:PM):=oq y0 [vs Qf 585] 0
noncomputable def Gm (P:PM):=j0 yj yj (tT 47)
noncomputable def yr (P:PM):=of y1 [vs yj 582,vs yj 583,vs aR 584,vi 194 0,vi 1 0,z0,z0,vi 3 0,vr 296,bT,vi 181 0,vr 297,vn,vr 298,vr 299,vr 300,vi 586 0,vi 194 0,vs aR 587]
noncomputable def Gx (P:PM):=j1 yj yj (tT 47) iI 576 301
noncomputable abbrev zJ (P:PM):List DictEntry:=Aj P++[de P uY 598 (vr 309)]
noncomputable def J6 (P:PM):=od y3 ([de P lI 165 (vs iI 576)]++zJ P) 49
noncomputable abbrev RK (P:PM):List Value:=Vl P++[vi 197 0,z0,vr 308]
noncomputable def OF (P:PM):OB:=(Obj.mk vn none (df ⟨(RK P)⟩) ⟨[]⟩)
noncomputable def BC (P:PM):=oq y0 [vs Lg 592,vs He 593,vs q5 594,vs wQ 595] 0
noncomputable def BW (P:PM):=j0 uY uY (tT 48)
noncomputable def uw (P:PM):=of y1 [vs uY 589,vs uY 590,vs aR 591,vi 197 0,vi 1 0,z0,z0,vi 3 0,vr 303,bT,vi 181 0,vr 304,vn,vr 305,vr 306,vr 307,vi 596 0,vi 197 0,vs aR 597]
noncomputable def D7 (P:PM):=j1 uY uY (tT 48) iI 576 308
noncomputable abbrev Av (P:PM):List DictEntry:=zJ P++[de P sE 679 (vr 364)]
noncomputable def PB (P:PM):=od y3 ([de P lI 165 (vs iI 576)]++Av P) 50
noncomputable abbrev R1 (P:PM):List Value:=RK P++[vi 203 0,z0,vr 315]
noncomputable def NX (P:PM):OB:=(Obj.mk vn none (df ⟨(R1 P)⟩) ⟨[]⟩)
noncomputable abbrev Wx (P:PM):List DictEntry:=[de P qw 608 (vs sE 607),de P jY 610 (vi 203 609),de P lP 621 (vr 323),de P F1 627 (vr 328),de P pX 638 (vr 335),de P oY 646 (vr 342),de P pQ 654 (vr 349),de P q9 662 (vr 356),de P nM 668 (vr 361),de P jW 672 (vr 362)]
noncomputable def EW (P:PM):=od y3 ([de P jK 606 (vs iI 576)]++Wx P) 11
noncomputable abbrev Ws (P:PM):List Value:=[vi 205 0,vi 4 0,vr 322,vi 214 0,vi 4 0,vr 327,vi 229 0,vi 4 0,vr 334,vi 234 0,vi 4 0,vr 341,vi 238 0,vi 4 0,vr 348,vi 243 0,vi 4 0,vr 355,vi 247 0,vi 4 0,vr 360]
noncomputable def DB (P:PM):OB:=(Obj.mk vn none (df ⟨(Ws P)⟩) ⟨[]⟩)
noncomputable def EK (P:PM):=of y1 [vs sE 601,vs sE 602,vs aR 603,vi 203 0,z0,z0,z0,z0,vr 313,bF,vi 181 0,vr 314,vn,vn,vn,vn,vi 604 0,vi 203 0,vs aR 605]
noncomputable def Ha (P:PM):=(ob y2 Data.plain ⟨[(sr 315),(sr 3),(sr 312),none,(ss iI 576),none,(sr 0)]⟩)
noncomputable def Gv (P:PM):=oq y0 [vs q2 614,vs Lg 615,vs Qf 616,vs He 617,vs q5 618] 0
noncomputable def Dx (P:PM):=j0 lP O7 (cM (tT 49) 0)
noncomputable def wZ (P:PM):=of y1 [vs lP 611,vs O7 612,vs aR 613,vi 205 0,vi 3 0,z0,z0,vi 3 0,vr 317,bT,vi 181 0,vr 318,vn,vr 319,vr 320,vr 321,vi 619 0,vi 205 0,vs aR 620]
noncomputable def Ee (P:PM):=j1 lP O7 (cM (tT 49) 0) iI 576 322
noncomputable def Gw (P:PM):=j0 F1 MM (cM (tT 49) 1)
noncomputable def vY (P:PM):=oC F1 MM aR 622 214 4 3 324 181
noncomputable def E5 (P:PM):=j1 F1 MM (cM (tT 49) 1) iI 576 327
noncomputable def Ff (P:PM):=oq y0 [vs q2 631,vs q5 632,vs JS 633,vs q9 634,vs nM 635] 0
noncomputable def Bi (P:PM):=j0 pX yH (cM (tT 49) 2)
noncomputable def zp (P:PM):=of y1 [vs pX 628,vs yH 629,vs aR 630,vi 229 0,vi 5 0,z0,z0,vi 3 0,vr 329,bT,vi 181 0,vr 330,vn,vr 331,vr 332,vr 333,vi 636 0,vi 229 0,vs aR 637]
noncomputable def CF (P:PM):=j1 pX yH (cM (tT 49) 2) iI 576 334
noncomputable def Fz (P:PM):=oq y0 [vs q2 642,vs q5 643] 0
noncomputable def Dw (P:PM):=j0 oY xV (cM (tT 49) 3)
noncomputable def vz (P:PM):=of y1 [vs oY 639,vs xV 640,vs aR 641,vi 234 0,vi 2 0,z0,z0,vi 3 0,vr 336,bT,vi 181 0,vr 337,vn,vr 338,vr 339,vr 340,vi 644 0,vi 234 0,vs aR 645]
noncomputable def Ci (P:PM):=j1 oY xV (cM (tT 49) 3) iI 576 341
noncomputable def Ce (P:PM):=oq y0 [vs q2 650,vs q5 651] 0
noncomputable def C4 (P:PM):=j0 pQ yx (cM (tT 49) 4)
noncomputable def wO (P:PM):=of y1 [vs pQ 647,vs yx 648,vs aR 649,vi 238 0,vi 2 0,z0,z0,vi 3 0,vr 343,bT,vi 181 0,vr 344,vn,vr 345,vr 346,vr 347,vi 652 0,vi 238 0,vs aR 653]
noncomputable def Gd (P:PM):=j1 pQ yx (cM (tT 49) 4) iI 576 348
noncomputable def Cu (P:PM):=oq y0 [vs q2 658,vs q5 659] 0
noncomputable def GZ (P:PM):=j0 q9 vH (cM (tT 49) 5)
noncomputable def zc (P:PM):=of y1 [vs q9 655,vs vH 656,vs aR 657,vi 243 0,vi 2 0,z0,z0,vi 3 0,vr 350,bT,vi 181 0,vr 351,vn,vr 352,vr 353,vr 354,vi 660 0,vi 243 0,vs aR 661]
noncomputable def Eh (P:PM):=j1 q9 vH (cM (tT 49) 5) iI 576 355
noncomputable def Dr (P:PM):=j0 nM xD (cM (tT 49) 6)
noncomputable def Dk (P:PM):=oC nM xD aR 663 247 2 3 357 181
noncomputable def A0 (P:PM):=j1 nM xD (cM (tT 49) 6) iI 576 360
noncomputable def D6 (P:PM):=oq y0 [vs Nv 669,vs JA 670,vs Kp 671] 0
noncomputable abbrev ZR (P:PM):List DictEntry:=[de P jY 610 (vi 203 609),de P lP 621 (vr 323),de P F1 627 (vr 328),de P pX 638 (vr 335),de P oY 646 (vr 342),de P pQ 654 (vr 349),de P q9 662 (vr 356),de P nM 668 (vr 361),de P jW 672 (vr 362),de P nZ 674 (vr 365),de P sv 676 (vr 366),de P oZ 677 vn]
noncomputable def yA (P:PM):=od y3 ([de P jK 606 (vs iI 576)]++ZR P) 4
noncomputable def uB (P:PM):=(ob y9 (Data.cls (ClassData.mk sE [(vt kf)] [vr 364,(vt kf)] 363 sE true [] [] false none false)) ⟨[none,none,(ss sE 599),(ss sE 607),(some (vb LQ)),(some bT)]⟩)
noncomputable def CI (P:PM):=of vh [vs nZ 673,vr 364,(vb Kj),(vb KQ)]
noncomputable def Er (P:PM):=of vh [vs sv 675,vr 364,(vb HI),vn]
noncomputable def Eo (P:PM):=of qI [vr 364,vr 364,vr 364]
noncomputable def Dv (P:PM):=of y7 [(vb qv),vr 364]
noncomputable abbrev Um (P:PM):List DictEntry:=Av P++[de P vD 687 (vr 373),de P yd 695 (vr 378),de P MH 699 (vi 0 698),de P Nb 701 (vi 1 700),de P uz 708 (vr 385)]
noncomputable def Kw (P:PM):=od y3 ([de P lI 165 (vs ky 696)]++Um P) 55
noncomputable abbrev Qq (P:PM):List Value:=R1 P++[vi 251 0,z0,vr 372,vi 261 0,z0,vr 377,vi 275 0,z0,vr 384]
noncomputable def JD (P:PM):OB:=(Obj.mk vn none (df ⟨(Qq P)⟩) ⟨[]⟩)
noncomputable def Gz (P:PM):=j0 vD vD (tT 51)
noncomputable def yy (P:PM):=oC vD vD aR 682 251 3 3 369 181
noncomputable def DK (P:PM):=j1 vD vD (tT 51) Bs 680 372
noncomputable def GK (P:PM):=j0 yd yd (tT 53)
noncomputable def uQ (P:PM):=oC yd yd aR 690 261 3 3 374 181
noncomputable def DD (P:PM):=j1 yd yd (tT 53) DF 688 377
noncomputable def DC (P:PM):=oq y0 [vs HP 705] 0
noncomputable def C0 (P:PM):=j0 uz uz (tT 57)
noncomputable def zi (P:PM):=of y1 [vs uz 702,vs uz 703,vs aR 704,vi 275 0,vi 1 0,z0,z0,vi 3 0,vr 379,bT,vi 181 0,vr 380,vn,vr 381,vr 382,vr 383,vi 706 0,vi 275 0,vs aR 707]
noncomputable def Fx (P:PM):=j1 uz uz (tT 57) ky 696 384
noncomputable abbrev Qa (P:PM):List DictEntry:=Um P++[de P tR 781 (vr 437)]
noncomputable def Nh (P:PM):=od y3 ([de P lI 165 (vs qd 782)]++Qa P) 56
noncomputable abbrev Th (P:PM):List Value:=Qq P++[vi 277 0,z0,vr 391]
noncomputable def L6 (P:PM):OB:=(Obj.mk vn none (df ⟨(Th P)⟩) ⟨[]⟩)
noncomputable abbrev w18 (P:PM):List DictEntry:=[de P qw 718 (vs tR 717),de P jY 720 (vi 277 719),de P lP 728 (vr 399),de P BV 735 (vr 406),de P Fu 743 (vr 413),de P wQ 751 (vr 420),de P oQ 762 (vr 427),de P pB 770 (vr 434),de P jW 774 (vr 435)]
noncomputable def EV (P:PM):=od y3 ([de P jK 716 (vs ky 696)]++w18 P) 10
noncomputable abbrev Wf (P:PM):List Value:=[vi 279 0,vi 4 0,vr 398,vi 284 0,vi 4 0,vr 405,vi 287 0,vi 4 0,vr 412,vi 290 0,vi 4 0,vr 419,vi 297 0,vi 4 0,vr 426,vi 310 0,vi 4 0,vr 433]
noncomputable def B4 (P:PM):OB:=(Obj.mk vn none (df ⟨(Wf P)⟩) ⟨[]⟩)
noncomputable def FU (P:PM):=of y1 [vs tR 711,vs tR 712,vs aR 713,vi 277 0,z0,z0,z0,z0,vr 389,bF,vi 181 0,vr 390,vn,vn,vn,vn,vi 714 0,vi 277 0,vs aR 715]
noncomputable def DU (P:PM):=(ob y2 Data.plain ⟨[(sr 391),(sr 3),(sr 388),none,(ss ky 696),none,(sr 0)]⟩)
noncomputable def GC (P:PM):=oq y0 [vs q2 724,vs q7 725] 0
noncomputable def FD (P:PM):=j0 lP yM (cM (tT 58) 0)
noncomputable def uX (P:PM):=of y1 [vs lP 721,vs yM 722,vs aR 723,vi 279 0,vi 2 0,z0,z0,vi 3 0,vr 393,bT,vi 181 0,vr 394,vn,vr 395,vr 396,vr 397,vi 726 0,vi 279 0,vs aR 727]
noncomputable def Ct (P:PM):=j1 lP yM (cM (tT 58) 0) ky 696 398
noncomputable def EF (P:PM):=oq y0 [vs q2 732] 0
noncomputable def Dg (P:PM):=j0 BV Ml (cM (tT 58) 1)
noncomputable def va (P:PM):=of y1 [vs BV 729,vs Ml 730,vs aR 731,vi 284 0,vi 1 0,z0,z0,vi 3 0,vr 400,bT,vi 181 0,vr 401,vn,vr 402,vr 403,vr 404,vi 733 0,vi 284 0,vs aR 734]
noncomputable def A8 (P:PM):=j1 BV Ml (cM (tT 58) 1) ky 696 405
noncomputable def DG (P:PM):=oq y0 [vs q2 739,vs HP 740] 0
noncomputable def Ep (P:PM):=j0 Fu N6 (cM (tT 58) 2)
noncomputable def wa (P:PM):=of y1 [vs Fu 736,vs N6 737,vs aR 738,vi 287 0,vi 2 0,z0,z0,vi 3 0,vr 407,bT,vi 181 0,vr 408,vn,vr 409,vr 410,vr 411,vi 741 0,vi 287 0,vs aR 742]
noncomputable def FV (P:PM):=j1 Fu N6 (cM (tT 58) 2) ky 696 412
noncomputable def DH (P:PM):=oq y0 [vs q2 747,vs q5 748] 0
noncomputable def Bf (P:PM):=j0 wQ Ni (cM (tT 58) 3)
noncomputable def vy (P:PM):=of y1 [vs wQ 744,vs Ni 745,vs aR 746,vi 290 0,vi 2 0,z0,z0,vi 3 0,vr 414,bT,vi 181 0,vr 415,vn,vr 416,vr 417,vr 418,vi 749 0,vi 290 0,vs aR 750]
noncomputable def FO (P:PM):=j1 wQ Ni (cM (tT 58) 3) ky 696 419
noncomputable def DM (P:PM):=oq y0 [vs q2 755,vs Lh 756,vs LO 757,vs AN 758,vs KS 759] 0
noncomputable def Bd (P:PM):=j0 oQ xK (cM (tT 58) 4)
noncomputable def xB (P:PM):=of y1 [vs oQ 752,vs xK 753,vs aR 754,vi 297 0,vi 3 0,z0,z0,vi 3 0,vr 421,bT,vi 181 0,vr 422,vn,vr 423,vr 424,vr 425,vi 760 0,vi 297 0,vs aR 761]
noncomputable def BF (P:PM):=j1 oQ xK (cM (tT 58) 4) ky 696 426
noncomputable def C2 (P:PM):=oq y0 [vs q2 766,vs wc 767] 0
noncomputable def AW (P:PM):=j0 pB u6 (cM (tT 58) 5)
noncomputable def yu (P:PM):=of y1 [vs pB 763,vs u6 764,vs aR 765,vi 310 0,vi 2 0,z0,z0,vi 3 0,vr 428,bT,vi 181 0,vr 429,vn,vr 430,vr 431,vr 432,vi 768 0,vi 310 0,vs aR 769]
noncomputable def AM (P:PM):=j1 pB u6 (cM (tT 58) 5) ky 696 433
noncomputable def Cg (P:PM):=oq y0 [vs Mt 771,vs q7 772,vs q56 773] 0
noncomputable abbrev w19 (P:PM):List DictEntry:=[de P jY 720 (vi 277 719),de P lP 728 (vr 399),de P BV 735 (vr 406),de P Fu 743 (vr 413),de P wQ 751 (vr 420),de P oQ 762 (vr 427),de P pB 770 (vr 434),de P jW 774 (vr 435),de P nZ 776 (vr 438),de P sv 778 (vr 439),de P oZ 779 vn]
noncomputable def xt (P:PM):=od y3 ([de P jK 716 (vs ky 696)]++w19 P) 4
noncomputable def yN (P:PM):=(ob y9 (Data.cls (ClassData.mk tR [(vt kf)] [vr 437,(vt kf)] 436 tR true [] [] false none false)) ⟨[none,none,(ss tR 709),(ss tR 717),(some (vb LQ)),(some bT)]⟩)
noncomputable def Gn (P:PM):=of vh [vs nZ 775,vr 437,(vb Kj),(vb KQ)]
noncomputable def GJ (P:PM):=of vh [vs sv 777,vr 437,(vb HI),vn]
noncomputable def FK (P:PM):=of qI [vr 437,vr 437,vr 437]
noncomputable def EG (P:PM):=of y7 [(vb qv),vr 437]
noncomputable abbrev w20 (P:PM):List DictEntry:=Qa P++[de P t4 791 (vr 448),de P yg 806 (vr 455),de P yS 812 (vr 460),de P ug 818 (vr 465)]
noncomputable def xh (P:PM):=od y3 ([de P lI 165 (vs qd 782)]++w20 P) 60
noncomputable abbrev w38 (P:PM):List Value:=Th P++[vi 316 0,z0,vr 447,vi 320 0,z0,vr 454,vi 337 0,z0,vr 459,vi 342 0,z0,vr 464]
noncomputable def CT (P:PM):OB:=(Obj.mk vn none (df ⟨(w38 P)⟩) ⟨[]⟩)
noncomputable def FL (P:PM):=oq y0 [vs Ec 787,vs Df 788] 0
noncomputable def BE (P:PM):=j0 t4 t4 (tT 60)
noncomputable def vd (P:PM):=of y1 [vs t4 784,vs t4 785,vs aR 786,vi 316 0,vi 2 0,z0,z0,vi 3 0,vr 442,bT,vi 181 0,vr 443,vn,vr 444,vr 445,vr 446,vi 789 0,vi 316 0,vs aR 790]
noncomputable def Cj (P:PM):=j1 t4 t4 (tT 60) qd 782 447
noncomputable def Dj (P:PM):=oq y0 [vs Ec 795,vs NJ 796,vs OV 797,vs Kz 798,vs Df 799,vs K7 800,vs KJ 801,vs Pw 802,vs J5 803] 0
noncomputable def DI (P:PM):=j0 yg yg (tT 61)
noncomputable def xn (P:PM):=of y1 [vs yg 792,vs yg 793,vs aR 794,vi 320 0,vi 2 0,z0,z0,vi 3 0,vr 449,bT,vi 181 0,vr 450,vn,vr 451,vr 452,vr 453,vi 804 0,vi 320 0,vs aR 805]
noncomputable def GW (P:PM):=j1 yg yg (tT 61) qd 782 454
noncomputable def BS (P:PM):=j0 yS yS (tT 62)
noncomputable def zm (P:PM):=oC yS yS aR 807 337 1 3 456 181
noncomputable def Cd (P:PM):=j1 yS yS (tT 62) qd 782 459
noncomputable def G5 (P:PM):=j0 ug ug (tT 63)
noncomputable def wU (P:PM):=oC ug ug aR 813 342 1 3 461 181
noncomputable def EL (P:PM):=j1 ug ug (tT 63) qd 782 464
noncomputable def Rb (P:Params):Heap:=(Heap.mk ⟨[b0 P,b1 P,b2 P,b3 P,b4 P,b5 P,b6 P,b7 P,b8 P,b9 P,Po P,au P,aM P,Nu P,LK P]⟩ (PySem.Life.mk [] [] [] 0 [] [] false ⟨[]⟩ [] 0 false false false 0 [2000,10,10] false 0 true [] [] 0 false))
noncomputable def VO (f:Nat):Nat->OB->BT->BT:=Nat.rec (fun _ _ t=>t) (fun _ r i x t=>BT.casesOn t (.node x .nil .nil) (fun y a b=>cond (Nat.beq i 0) (.node x a b) (cond (Nat.beq (i % 2) 1) (.node y (r (i / 2) x a) b) (.node y a (r (i / 2 - 1) x b))))) f
noncomputable def lz (P:PM) (l:List (PM->OB)):Nat->BT->BT:=List.rec (fun _ t=>t) (fun o _ r n t=>r (n+1) (VO 12 n (o P) t)) l
noncomputable def up (P:PM) (l:List (Nat × (PM->OB))) (t:BT):BT:=List.rec (fun t=>t) (fun o _ r t=>r (VO 12 o.1 (o.2 P) t)) l t
noncomputable def M5 (P:PM):BT:=lz P [b0,b1,b2,b3,b4,b5,b6,b7,b8,b9,Po,au,aM,Nu,LK] 0 BT.nil
noncomputable def Oj (P:PM):BT:=lz P [au,aM,QL,au,Qz,J1,Qe,au,aM,VI,Od,TU,V3,jX,Sh,au,aM,SE,Rr,au,Nz,o72,UO,Ud,Uo] 15 (up P [(3,Yb),(12,o50)] (M5 P))
noncomputable def Nk (P:PM):BT:=lz P [ow,jX,SO,au,aM,VN,TC,au,LC,MA,T2,Ru] 40 (up P [(3,ZJ),(12,Y0),(36,Wi)] (Oj P))
noncomputable def J0 (P:PM):BT:=lz P [ow,jX,Vz,au,aM,U7,FA,au,tX,uu,C7,Gu] 52 (up P [(3,o91),(12,o92),(36,o93)] (Nk P))
noncomputable def PJ (P:PM):BT:=lz P [ow,jX,CU,au,aM,E3,FJ,au,zw,vI,DS,BH] 64 (up P [(3,Ki),(12,KC),(36,O6)] (J0 P))
noncomputable def Lu (P:PM):BT:=lz P [ow,jX,Fe,au,aM,Bn,GG,au,wF,ze,D9,FW] 76 (up P [(3,Pn),(12,NF),(36,Jn)] (PJ P))
noncomputable def N1 (P:PM):BT:=lz P [ow,jX,F3,au,aM,Hh,DN,au,xN,uW,Bp,DO] 88 (up P [(3,Lw),(12,NU),(36,K4)] (Lu P))
noncomputable def LM (P:PM):BT:=lz P [ow,jX,Ew,au,aM,FG,Bv,au,wJ,we,El,FX,au,aM,Et,au,D0,FY,EO,au,aM,GH,au,CW,xE,F8,au,aM,CQ,au,AZ,xj,Bm,au,aM,Eu,au,EC,ux,A1,au,aM,CM,au,ET,zu,CH] 100 (up P [(3,Kf),(12,MI),(36,yv)] (N1 P))
noncomputable def OE (P:PM):BT:=lz P [au,aM,DA,yY,Ba,au,aM,B6,wX,EJ,au,aM,Cv,uH,E9,au,aM,G1,au,ER,vj,Bc,au,aM,CS,EH,G0] 147 (up P [(3,Lk),(12,MR)] (LM P))
noncomputable def Li (P:PM):BT:=lz P [au,jX,EY,au,AX,Ds,D3,au,aM,FZ,wM,CB,au,aM,CD,uL,BO,au,aM,GX,au,GP,vg,Cc,au,aM,Gs,GB,BP,au,aM,DP,xT,B7,Bq,wg,tW,CC,Dh,Fl,Cw,au,aM,BM,uF,BQ,au,aM,EI,au,Dd,yX,EM] 174 (up P [(3,Ng),(12,Mm)] (OE P))
noncomputable def Kk (P:PM):BT:=lz P [au,aM,ED,xp,Co,au,aM,EU,au,Ge,vx,Bu,au,aM,Gq,au,GD,xQ,Cy,au,aM,Gg,au,Hf,xc,Dl,au,aM,C5,yc,Gr,au,aM,Fd,au,FC,wo,Fh,au,aM,BZ,au,BK,xG,DY,au,aM,Ez,au,C6,yB,C8,au,aM,DJ,wb,C3,au,aM,F9,uA,FF,au,aM,GS,au,Cr,wx,E4,au,aM,EA,au,Gm,yr,Gx] 227 (up P [(3,NN),(12,PH)] (Li P))
noncomputable def Of (P:PM):BT:=lz P [au,aM,BC,au,BW,uw,D7] 303 (up P [(3,J6),(12,OF)] (Kk P))
noncomputable def MJ (P:PM):BT:=lz P [au,jX,EW,au,DB,EK,Ha,au,aM,Gv,au,Dx,wZ,Ee,au,aM,Gw,vY,E5,au,aM,Ff,au,Bi,zp,CF,au,aM,Fz,au,Dw,vz,Ci,au,aM,Ce,au,C4,wO,Gd,au,aM,Cu,au,GZ,zc,Eh,au,aM,Dr,Dk,A0,D6,yA,uB,CI,Er,Eo,Dv] 310 (up P [(3,PB),(12,NX)] (Of P))
noncomputable def LJ (P:PM):BT:=lz P [au,aM,Gz,yy,DK,au,aM,GK,uQ,DD,au,aM,DC,au,C0,zi,Fx] 369 (up P [(3,Kw),(12,JD)] (MJ P))
noncomputable def Mo (P:PM):BT:=lz P [au,jX,EV,au,B4,FU,DU,au,aM,GC,au,FD,uX,Ct,au,aM,EF,au,Dg,va,A8,au,aM,DG,au,Ep,wa,FV,au,aM,DH,au,Bf,vy,FO,au,aM,DM,au,Bd,xB,BF,au,aM,C2,au,AW,yu,AM,Cg,xt,yN,Gn,GJ,FK,EG] 386 (up P [(3,Nh),(12,L6)] (LJ P))
noncomputable def SG (P:PM):BT:=lz P [au,aM,FL,au,BE,vd,Cj,au,aM,Dj,au,DI,xn,GW,au,aM,BS,zm,Cd,au,aM,G5,wU,EL] 442 (up P [(3,xh),(12,CT)] (Mo P))
noncomputable def Au (P:Params):Heap:=(Heap.mk ⟨[b0 P,b1 P,b2 P,xh P,b4 P,b5 P,b6 P,b7 P,b8 P,b9 P,Po P,au P,CT P,Nu P,LK P,au P,aM P,QL P,au P,Qz P,J1 P,Qe P,au P,aM P,VI P,Od P,TU P,V3 P,jX P,Sh P,au P,aM P,SE P,Rr P,au P,Nz P,yv P,UO P,Ud P,Uo P,ow P,jX P,SO P,au P,aM P,VN P,TC P,au P,LC P,MA P,T2 P,Ru P,ow P,jX P,Vz P,au P,aM P,U7 P,FA P,au P,tX P,uu P,C7 P,Gu P,ow P,jX P,CU P,au P,aM P,E3 P,FJ P,au P,zw P,vI P,DS P,BH P,ow P,jX P,Fe P,au P,aM P,Bn P,GG P,au P,wF P,ze P,D9 P,FW P,ow P,jX P,F3 P,au P,aM P,Hh P,DN P,au P,xN P,uW P,Bp P,DO P,ow P,jX P,Ew P,au P,aM P,FG P,Bv P,au P,wJ P,we P,El P,FX P,au P,aM P,Et P,au P,D0 P,FY P,EO P,au P,aM P,GH P,au P,CW P,xE P,F8 P,au P,aM P,CQ P,au P,AZ P,xj P,Bm P,au P,aM P,Eu P,au P,EC P,ux P,A1 P,au P,aM P,CM P,au P,ET P,zu P,CH P,au P,aM P,DA P,yY P,Ba P,au P,aM P,B6 P,wX P,EJ P,au P,aM P,Cv P,uH P,E9 P,au P,aM P,G1 P,au P,ER P,vj P,Bc P,au P,aM P,CS P,EH P,G0 P,au P,jX P,EY P,au P,AX P,Ds P,D3 P,au P,aM P,FZ P,wM P,CB P,au P,aM P,CD P,uL P,BO P,au P,aM P,GX P,au P,GP P,vg P,Cc P,au P,aM P,Gs P,GB P,BP P,au P,aM P,DP P,xT P,B7 P,Bq P,wg P,tW P,CC P,Dh P,Fl P,Cw P,au P,aM P,BM P,uF P,BQ P,au P,aM P,EI P,au P,Dd P,yX P,EM P,au P,aM P,ED P,xp P,Co P,au P,aM P,EU P,au P,Ge P,vx P,Bu P,au P,aM P,Gq P,au P,GD P,xQ P,Cy P,au P,aM P,Gg P,au P,Hf P,xc P,Dl P,au P,aM P,C5 P,yc P,Gr P,au P,aM P,Fd P,au P,FC P,wo P,Fh P,au P,aM P,BZ P,au P,BK P,xG P,DY P,au P,aM P,Ez P,au P,C6 P,yB P,C8 P,au P,aM P,DJ P,wb P,C3 P,au P,aM P,F9 P,uA P,FF P,au P,aM P,GS P,au P,Cr P,wx P,E4 P,au P,aM P,EA P,au P,Gm P,yr P,Gx P,au P,aM P,BC P,au P,BW P,uw P,D7 P,au P,jX P,EW P,au P,DB P,EK P,Ha P,au P,aM P,Gv P,au P,Dx P,wZ P,Ee P,au P,aM P,Gw P,vY P,E5 P,au P,aM P,Ff P,au P,Bi P,zp P,CF P,au P,aM P,Fz P,au P,Dw P,vz P,Ci P,au P,aM P,Ce P,au P,C4 P,wO P,Gd P,au P,aM P,Cu P,au P,GZ P,zc P,Eh P,au P,aM P,Dr P,Dk P,A0 P,D6 P,yA P,uB P,CI P,Er P,Eo P,Dv P,au P,aM P,Gz P,yy P,DK P,au P,aM P,GK P,uQ P,DD P,au P,aM P,DC P,au P,C0 P,zi P,Fx P,au P,jX P,EV P,au P,B4 P,FU P,DU P,au P,aM P,GC P,au P,FD P,uX P,Ct P,au P,aM P,EF P,au P,Dg P,va P,A8 P,au P,aM P,DG P,au P,Ep P,wa P,FV P,au P,aM P,DH P,au P,Bf P,vy P,FO P,au P,aM P,DM P,au P,Bd P,xB P,BF P,au P,aM P,C2 P,au P,AW P,yu P,AM P,Cg P,xt P,yN P,Gn P,GJ P,FK P,EG P,au P,aM P,FL P,au P,BE P,vd P,Cj P,au P,aM P,Dj P,au P,DI P,xn P,GW P,au P,aM P,BS P,zm P,Cd P,au P,aM P,G5 P,wU P,EL P]⟩ (PySem.Life.mk [] [] [] 0 [] [] false ⟨[]⟩ [] 0 false false false 0 [2000,10,10] false 0 true [] [] 0 false))
noncomputable def ev (p:Program):Env:=Env.mk p.main.scope mainNs mainNs [] Str.empty none (.ref 13) (some 14) 0
noncomputable def cE (p:Program):Code:=.body (behindTheImports p) (ev p)
noncomputable def st (p:Program) (i k:Nat):List Stmt:=((behindTheImports p).drop i).take k
noncomputable def LF:Life:=Life.mk [] [] [] 0 [] [] false #[] [] 0 false false false 0 [2000,10,10] false 0 true [] [] 0 false
noncomputable def SS (T:Params->BT) (n k:Nat) (w:World) (os:OsState):SharedT:=⟨T w.params,n,LF,⟨[]⟩,⟨0,0,0,0⟩,k,os⟩
noncomputable def Pc (f:(String->Option Builtin)->Program->World->Nat->Option Value->Nat->Nat->SharedT->Thread->Option (Flow × SharedT × Code × Pos)) (tb:String->Option Builtin) (p:Program) (N i k:Nat) (pos pos':Pos) (T T':Params->BT) (n t n' t':Nat):Prop :=
 ∀ (w:World) (os:OsState),f tb p w 11 (some (.ref 6)) 1 N (SS T n t w os) (piecesOf (st p i k) (ev p) (cE p) pos [topFrame ⟨0,0,0,0⟩])=some (.next,SS T' n' t' w os,cE p,pos')
theorem Pc.plain {N i k:Nat}{pos pos':Pos}{T T':Params->BT}{n t n' t':Nat} (h:Pc PySem.W.Fast.tw10110043849684766642 PySem.W.Fast.tw14364793385576792824 TP N i k pos pos' T T' n t n' t'):Pc segRunT treeTable PySem.Challenge.pw_gatefold_k37_laid_as_deep_as_labels N i k pos pos' T T' n t n' t':=by
 rw [PySem.W.Fast.te10110043849684766642,PySem.W.Fast.te14364793385576792824,PySem.W.Fast.te14418120796843683345]
 exact h
noncomputable abbrev PW:Program:=PySem.Challenge.pw_gatefold_k37_laid_as_deep_as_labels
noncomputable abbrev PC:=Pc segRunT treeTable PW
theorem c0:PC 260 0 5 ⟨0,0,0,0⟩ ⟨15,0,16,8⟩ M5 Oj 15 187 40 222:=.plain fun w os=>by kernel_rfl
theorem c1:PC 214 5 1 ⟨15,0,16,8⟩ ⟨17,0,18,8⟩ Oj Nk 40 222 52 238:=.plain fun w os=>by kernel_rfl
theorem c2:PC 214 6 1 ⟨17,0,18,8⟩ ⟨19,0,20,8⟩ Nk J0 52 238 64 254:=.plain fun w os=>by kernel_rfl
theorem c3:PC 214 7 1 ⟨19,0,20,8⟩ ⟨21,0,22,8⟩ J0 PJ 64 254 76 270:=.plain fun w os=>by kernel_rfl
theorem c4:PC 214 8 1 ⟨21,0,22,8⟩ ⟨23,0,24,8⟩ PJ Lu 76 270 88 286:=.plain fun w os=>by kernel_rfl
theorem c5:PC 214 9 1 ⟨23,0,24,8⟩ ⟨25,0,26,8⟩ Lu N1 88 286 100 302:=.plain fun w os=>by kernel_rfl
theorem c6:PC 394 10 9 ⟨25,0,26,8⟩ ⟨41,0,42,57⟩ N1 LM 100 302 147 367:=.plain fun w os=>by kernel_rfl
theorem c7:PC 172 19 9 ⟨41,0,42,57⟩ ⟨72,0,76,17⟩ LM OE 147 367 174 408:=.plain fun w os=>by kernel_rfl
theorem c8:PC 401 28 4 ⟨72,0,76,17⟩ ⟨115,0,118,36⟩ OE Li 174 408 227 478:=.plain fun w os=>by kernel_rfl
theorem c9:PC 396 32 16 ⟨115,0,118,36⟩ ⟨194,0,196,54⟩ Li Kk 227 478 303 589:=.plain fun w os=>by kernel_rfl
theorem c10:PC 33 48 1 ⟨194,0,196,54⟩ ⟨197,0,202,15⟩ Kk Of 303 589 310 599:=.plain fun w os=>by kernel_rfl
theorem c11:PC 415 49 1 ⟨197,0,202,15⟩ ⟨203,0,249,59⟩ Of MJ 310 599 369 680:=.plain fun w os=>by kernel_rfl
theorem c12:PC 127 50 8 ⟨203,0,249,59⟩ ⟨275,0,276,18⟩ MJ LJ 369 680 386 709:=.plain fun w os=>by kernel_rfl
theorem c13:PC 396 58 2 ⟨275,0,276,18⟩ ⟨315,0,315,8⟩ LJ Mo 386 709 442 784:=.plain fun w os=>by kernel_rfl
theorem c14:PC 120 60 4 ⟨315,0,315,8⟩ ⟨342,0,368,15⟩ Mo SG 442 784 466 819:=.plain fun w os=>by kernel_rfl
theorem step {p:Program}{N i k:Nat}{pos pos':Pos}{T T':Params->BT}{n t n' t':Nat} (c:Pc segRunT treeTable p N i k pos pos' T T' n t n' t') {M:Nat}{r:Shared}{w:World}{os:OsState}
  (h:topRun treeTable p w 11 (some (.ref 6)) M (SS T' n' t' w os).abs (restOf ((behindTheImports p).drop (i+k)) (ev p) (cE p) pos' [topFrame ⟨0,0,0,0⟩])=some r) :
  topRun treeTable p w 11 (some (.ref 6)) (N+M) (SS T n t w os).abs (restOf ((behindTheImports p).drop i) (ev p) (cE p) pos [topFrame ⟨0,0,0,0⟩])=some r:=by
 have e:(behindTheImports p).drop i=st p i k ++ (behindTheImports p).drop (i+k):=by
  unfold st
  rw [<- List.drop_drop]
  exact (List.take_append_drop _ _).symm
 rw [e]
 exact piece_app (segRun_of (c w os)) h
noncomputable def Fn (f:(String->Option Builtin)->Program->World->Nat->Option Value->Nat->Shared->Thread->Option Shared) (tb:String->Option Builtin) (p:Program):Prop :=
 ∀ (w:World) (os:OsState),f tb p w 11 (some (.ref 6)) 2 (SS SG 466 819 w os).abs ⟨doneF .next,cE p,⟨342,0,368,15⟩,[topFrame ⟨0,0,0,0⟩]⟩=some ⟨Au w.params,⟨[]⟩,⟨0,0,0,0⟩,819,os⟩
theorem fin:Fn topRun treeTable PW:=by
 rw [PySem.W.Fast.te14082659384304107361,PySem.W.Fast.te14364793385576792824,show PW=TP from PySem.W.Fast.te14418120796843683345]
 exact fun w os=>by kernel_rfl
noncomputable def Pr (f:(String->Option Builtin)->Program->World->Nat->Option Value->Nat->Shared->Thread->Option (Shared × Thread)) (d:(String->Option Builtin)->Code->Sem Fin) (tb:String->Option Builtin) (p:Program):Prop :=
 ∀ (w:World) (os:OsState),f tb p w 11 (some (.ref 6)) 12 ⟨boot_heap w.params,⟨[]⟩,boot_drawn,boot_toks,os⟩ (topStub p)=some (⟨Rb w.params,⟨[]⟩,⟨0,0,0,0⟩,187,os⟩,⟨d tb (cE p),cE p,⟨0,0,0,0⟩,[topFrame ⟨0,0,0,0⟩]⟩)
theorem Lr:Pr topGo denote treeTable PW:=by
 rw [PySem.W.Fast.te15667345088766844465,PySem.W.Fast.te11892475500146522536,PySem.W.Fast.te14364793385576792824,show PW=TP from PySem.W.Fast.te14418120796843683345]
 exact fun w os=>by kernel_rfl
noncomputable def Bl (f:(String->Option Builtin)->Program->World->Nat->Option Value->Nat->Nat->Shared->Thread->Option (Flow × Shared × Code × Pos)) (tb:String->Option Builtin) (p:Program):Prop :=
 ∀ (w:World) (os:OsState),f tb p w 11 (some (.ref 6)) 1 1 ⟨Rb w.params,⟨[]⟩,⟨0,0,0,0⟩,187,os⟩ (blockOf (behindTheImports p) (ev p) (cE p) ⟨0,0,0,0⟩ [topFrame ⟨0,0,0,0⟩])=some (.next,(SS M5 15 187 w os).abs,cE p,⟨0,0,0,0⟩)
theorem blk:Bl segRun treeTable PW:=by
 rw [PySem.W.Fast.te14374325043358763698,PySem.W.Fast.te14364793385576792824,show PW=TP from PySem.W.Fast.te14418120796843683345]
 exact fun w os=>by kernel_rfl
theorem Xz:(behindTheImports PW).drop 64=[]:=by kernel_rfl
theorem run (w:World) (os:OsState):topRun treeTable PW w 11 (some (.ref 6)) (12+(1+(260+(214+(214+(214+(214+(214+(394+(172+(401+(396+(33+(415+(127+(396+(120+2))))))))))))))))) ⟨boot_heap w.params,⟨[]⟩,boot_drawn,boot_toks,os⟩ (topStub PW)=some ⟨Au w.params,⟨[]⟩,⟨0,0,0,0⟩,819,os⟩:=by
 refine go_top (Lr w os) ?_
 refine piece_block (blk w os) ?_
 refine step c0 (step c1 (step c2 (step c3 (step c4 (step c5 (step c6 (step c7 (step c8 (step c9 (step c10 (step c11 (step c12 (step c13 (step c14 ?_))))))))))))))
 rw [Xz]
 exact fin w os
theorem size (w:World):((boot_heap w.params).isNs mainGlobals && (Array.mk ([]:List GenState)).size == 0,(boot_heap w.params).objs.size,(boot_heap w.params).nsMap mainGlobals "__annotations__")=(true,11,some (.ref 6)):=by kernel_rfl
theorem op:∀ w:World,(fencedOpening treeTable PW w 7678).map (fun s=>(s.heap,s.gens,s.drawn,s.toks))=some (boot_heap w.params,Array.mk [],boot_drawn,boot_toks) :=
 boot_open (by kernel_rfl) (by decide) (fun s=>by kernel_rfl)
noncomputable def KP:List Nat:=[1,2,4,5,6,7,8,9,10,12,14,15,17,18,19,21,22,23,24,25,26,27,28,30,31,32,34,35,36,37,38,39,40,41,42,43,45,46,47,48,49,51,53,55,56,57,58,60,61,62,63]
noncomputable def VW (p:Program):Program:={ p with main:={ p.main with body:=KP.filterMap fun i=>p.main.body[i]? } }
noncomputable abbrev S9 (w:World) (os:OsState):Shared:=⟨Au w.params,⟨[]⟩,⟨0,0,0,0⟩,819,os⟩
noncomputable def LA (im:List Stmt->List Str) (p:Program):Prop :=
 ∀ (w:World) (os:OsState),(staticsOk (im p.main.body) (boot_heap w.params) (Au w.params) && namesBound p (Au w.params) && gensDone (S9 w os) && laidKept (boot_heap w.params) (Au w.params))=true
theorem la:LA importedModules PW:=by
 rw [PySem.W.Fast.te5923862056798008813,show PW=TP from PySem.W.Fast.te14418120796843683345]
 exact fun w os=>by kernel_rfl
noncomputable abbrev XT (q:Program):Shared->Bool:=fun s=>xlAt q [] s && recOk [] s
theorem Yr (w:World) (os:OsState):PySem.W.Fast.tw4187177175401517315 (VW TP) [] (PySem.W.Fast.tw5923862056798008813 TP.main.body) (XT (VW TP)) true (S9 w os)=openGood (VW TP) []:=by kernel_rfl
end
end OT
namespace vQ
open PySem PySem.Spec PyProof.Rows L2
noncomputable abbrev Q (l:List Nat):Str:=⟨⟨l⟩⟩
noncomputable abbrev fq (b c:Str) (s:Stmt) (q:Str) (t n:Nat):Obj:=⟨(Value.type "function"),none,.func (ZrK b c (oj s) (lE s) (aW s) Value.none Value.none Value.none (Value.str q t) none (Value.ref n) Value.none),⟨[]⟩⟩
set_option maxRecDepth 100000 in
noncomputable def KF:Params->ZrF:=fun P =>
 (nat_lit 21,fq "full_column" "full_column" Fq OT.rO 187 20) ::
 (nat_lit 26,fq "input_columns" "input_columns" AI OT.rO 187 25) ::
 (nat_lit 125,fq "lit_pair" "lit_pair" Bg OT.Jd 329 124) ::
 (nat_lit 132,fq "lit_tie" "lit_tie" Bj OT.Jd 329 131) ::
 (nat_lit 139,fq "is_whole" "is_whole" Fo OT.xk 349 138) ::
 (nat_lit 146,fq "is_between" "is_between" Dt OT.xk 349 145) ::
 (nat_lit 151,fq "is_rising" "is_rising" AA OT.xk 349 150) ::
 (nat_lit 156,fq "is_cut_of" "is_cut_of" Ae OT.jF 373 155) ::
 (nat_lit 161,fq "need_pieces" "need_pieces" Ak OT.jF 373 160) ::
 (nat_lit 168,fq "need_ties" "need_ties" AY OT.jF 373 167) ::
 (nat_lit 185,fq "__init__" "Board.__init__" z9 OT.jF 373 184) ::
 (nat_lit 190,fq "pieces" "Board.pieces" z8 OT.jF 373 189) ::
 (nat_lit 197,fq "ties" "Board.ties" Dp OT.jF 373 196) ::
 (nat_lit 207,fq "depths" "Board.depths" tw OT.jF 373 206) ::
 (nat_lit 219,fq "reached" "reached" zM OT.vo 462 218) ::
 (nat_lit 226,fq "cone" "cone" F6 OT.vo 462 225) ::
 (nat_lit 231,fq "is_cut" "is_cut" rm OT.vo 462 230) ::
 (nat_lit 238,fq "head" "head" G7 OT.jL 484 237) ::
 (nat_lit 245,fq "foot" "foot" Gj OT.jL 484 244) ::
 (nat_lit 252,fq "need_goals" "need_goals" EE OT.jL 484 251) ::
 (nat_lit 257,fq "next_ends" "next_ends" AK OT.jL 484 256) ::
 (nat_lit 264,fq "search" "search" Be OT.jL 484 263) ::
 (nat_lit 271,fq "lead" "lead" GI OT.jL 484 270) ::
 (nat_lit 278,fq "way_from" "way_from" Eg OT.jL 484 277) ::
 (nat_lit 283,fq "ways_of" "ways_of" uh OT.jL 484 282) ::
 (nat_lit 288,fq "stops_of" "stops_of" Ao OT.jL 484 287) ::
 (nat_lit 295,fq "apart" "apart" CN OT.jL 484 294) ::
 (nat_lit 302,fq "need_size" "need_size" Em OT.iI 576 301) ::
 (nat_lit 309,fq "maze_of" "maze_of" Fj OT.iI 576 308) ::
 (nat_lit 323,fq "__init__" "Labels.__init__" Du OT.iI 576 322) ::
 (nat_lit 328,fq "settle" "Labels.settle" sG OT.iI 576 327) ::
 (nat_lit 335,fq "keep" "Labels.keep" GO OT.iI 576 334) ::
 (nat_lit 342,fq "need_and_knot" "Labels.need_and_knot" Bw OT.iI 576 341) ::
 (nat_lit 349,fq "label" "Labels.label" G9 OT.iI 576 348) ::
 (nat_lit 356,fq "cut" "Labels.cut" A4 OT.iI 576 355) ::
 (nat_lit 373,fq "table" "table" z7 OT.Bs 680 372) ::
 (nat_lit 378,fq "laid" "laid" wK OT.DF 688 377) ::
 (nat_lit 385,fq "turned" "turned" Gb OT.ky 696 384) ::
 (nat_lit 399,fq "__init__" "Fold.__init__" E2 OT.ky 696 398) ::
 (nat_lit 406,fq "total" "Fold.total" Bz OT.ky 696 405) ::
 (nat_lit 413,fq "has_tie" "Fold.has_tie" Fp OT.ky 696 412) ::
 (nat_lit 420,fq "pair" "Fold.pair" BU OT.ky 696 419) ::
 (nat_lit 427,fq "both" "Fold.both" A7 OT.ky 696 426) ::
 (nat_lit 434,fq "and_knot" "Fold.and_knot" E1 OT.ky 696 433) ::
 (nat_lit 448,fq "_law_cell_at" "_law_cell_at" DV OT.qd 782 447) ::
 (nat_lit 455,fq "_law_fold_by" "_law_fold_by" FR OT.qd 782 454) ::
 (nat_lit 460,fq "_law_depths" "_law_depths" vc OT.qd 782 459) ::
 (nat_lit 465,fq "law" "law" Al OT.qd 782 464) ::
 (nat_lit 20,OT.J1 P) ::
 (nat_lit 25,OT.Od P) ::
 (nat_lit 124,OT.xE P) ::
 (nat_lit 131,OT.xj P) ::
 (nat_lit 138,OT.ux P) ::
 (nat_lit 145,OT.zu P) ::
 (nat_lit 150,OT.yY P) ::
 (nat_lit 155,OT.wX P) ::
 (nat_lit 160,OT.uH P) ::
 (nat_lit 167,OT.vj P) ::
 (nat_lit 184,OT.wM P) ::
 (nat_lit 189,OT.uL P) ::
 (nat_lit 196,OT.vg P) ::
 (nat_lit 206,OT.xT P) ::
 (nat_lit 218,OT.uF P) ::
 (nat_lit 225,OT.yX P) ::
 (nat_lit 230,OT.xp P) ::
 (nat_lit 237,OT.vx P) ::
 (nat_lit 244,OT.xQ P) ::
 (nat_lit 251,OT.xc P) ::
 (nat_lit 256,OT.yc P) ::
 (nat_lit 263,OT.wo P) ::
 (nat_lit 270,OT.xG P) ::
 (nat_lit 277,OT.yB P) ::
 (nat_lit 282,OT.wb P) ::
 (nat_lit 287,OT.uA P) ::
 (nat_lit 294,OT.wx P) ::
 (nat_lit 301,OT.yr P) ::
 (nat_lit 308,OT.uw P) ::
 (nat_lit 322,OT.wZ P) ::
 (nat_lit 327,OT.vY P) ::
 (nat_lit 334,OT.zp P) ::
 (nat_lit 341,OT.vz P) ::
 (nat_lit 348,OT.wO P) ::
 (nat_lit 355,OT.zc P) ::
 (nat_lit 372,OT.yy P) ::
 (nat_lit 377,OT.uQ P) ::
 (nat_lit 384,OT.zi P) ::
 (nat_lit 398,OT.uX P) ::
 (nat_lit 405,OT.va P) ::
 (nat_lit 412,OT.wa P) ::
 (nat_lit 419,OT.vy P) ::
 (nat_lit 426,OT.xB P) ::
 (nat_lit 433,OT.yu P) ::
 (nat_lit 447,OT.vd P) ::
 (nat_lit 454,OT.xn P) ::
 (nat_lit 459,OT.zm P) ::
 (nat_lit 464,OT.wU P) ::
 (nat_lit 2,OT.b2 P) ::
 (nat_lit 3,OT.xh P) ::
 (nat_lit 36,OT.yv P) ::
 (nat_lit 35,OT.Nz P) ::
 (nat_lit 49,OT.MA P) ::
 (nat_lit 48,OT.LC P) ::
 (nat_lit 61,OT.uu P) ::
 (nat_lit 60,OT.tX P) ::
 (nat_lit 73,OT.vI P) ::
 (nat_lit 72,OT.zw P) ::
 (nat_lit 85,OT.ze P) ::
 (nat_lit 84,OT.wF P) ::
 (nat_lit 97,OT.uW P) ::
 (nat_lit 96,OT.xN P) ::
 (nat_lit 109,OT.we P) ::
 (nat_lit 108,OT.wJ P) ::
 (nat_lit 210,OT.tW P) ::
 (nat_lit 209,OT.wg P) ::
 (nat_lit 364,OT.uB P) ::
 (nat_lit 363,OT.yA P) ::
 (nat_lit 437,OT.yN P) ::
 (nat_lit 436,OT.xt P) :: []
end vQ
namespace OT
open PySem PySem.W PySem.Spec
noncomputable abbrev AS:List Addr:=(nat_lit 21 :: nat_lit 26 :: nat_lit 125 :: nat_lit 132 :: nat_lit 139 :: nat_lit 146 :: nat_lit 151 :: nat_lit 156 :: nat_lit 161 :: nat_lit 168 :: nat_lit 185 :: nat_lit 190 :: nat_lit 197 :: nat_lit 207 :: nat_lit 219 :: nat_lit 226 :: nat_lit 231 :: nat_lit 238 :: nat_lit 245 :: nat_lit 252 :: nat_lit 257 :: nat_lit 264 :: nat_lit 271 :: nat_lit 278 :: nat_lit 283 :: nat_lit 288 :: nat_lit 295 :: nat_lit 302 :: nat_lit 309 :: nat_lit 323 :: nat_lit 328 :: nat_lit 335 :: nat_lit 342 :: nat_lit 349 :: nat_lit 356 :: nat_lit 373 :: nat_lit 378 :: nat_lit 385 :: nat_lit 399 :: nat_lit 406 :: nat_lit 413 :: nat_lit 420 :: nat_lit 427 :: nat_lit 434 :: nat_lit 448 :: nat_lit 455 :: nat_lit 460 :: nat_lit 465 :: nat_lit 20 :: nat_lit 25 :: nat_lit 124 :: nat_lit 131 :: nat_lit 138 :: nat_lit 145 :: nat_lit 150 :: nat_lit 155 :: nat_lit 160 :: nat_lit 167 :: nat_lit 184 :: nat_lit 189 :: nat_lit 196 :: nat_lit 206 :: nat_lit 218 :: nat_lit 225 :: nat_lit 230 :: nat_lit 237 :: nat_lit 244 :: nat_lit 251 :: nat_lit 256 :: nat_lit 263 :: nat_lit 270 :: nat_lit 277 :: nat_lit 282 :: nat_lit 287 :: nat_lit 294 :: nat_lit 301 :: nat_lit 308 :: nat_lit 322 :: nat_lit 327 :: nat_lit 334 :: nat_lit 341 :: nat_lit 348 :: nat_lit 355 :: nat_lit 372 :: nat_lit 377 :: nat_lit 384 :: nat_lit 398 :: nat_lit 405 :: nat_lit 412 :: nat_lit 419 :: nat_lit 426 :: nat_lit 433 :: nat_lit 447 :: nat_lit 454 :: nat_lit 459 :: nat_lit 464 :: nat_lit 2 :: nat_lit 3 :: nat_lit 36 :: nat_lit 35 :: nat_lit 49 :: nat_lit 48 :: nat_lit 61 :: nat_lit 60 :: nat_lit 73 :: nat_lit 72 :: nat_lit 85 :: nat_lit 84 :: nat_lit 97 :: nat_lit 96 :: nat_lit 109 :: nat_lit 108 :: nat_lit 210 :: nat_lit 209 :: nat_lit 364 :: nat_lit 363 :: nat_lit 437 :: nat_lit 436 :: [])
noncomputable abbrev HK:Hook:=kHook vQ.KF AS (fun _=>by kernel_rfl)
theorem lb (w:World) (os:OsState):openSeen (VW PW) [] (importedModules PW.main.body) (XT (VW PW)) true (S9 w os)=openGood (VW PW) []:=by
 rw [PySem.W.Fast.te4187177175401517315,PySem.W.Fast.te5923862056798008813,show PW=TP from PySem.W.Fast.te14418120796843683345]
 exact Yr w os
theorem lc (w:World) (os:OsState):HK.obs (S9 w os)=HK.val w:=by kernel_rfl
theorem left:LeftO PW (VW PW) [] (XT (VW PW)) HK.obs HK.val 7678 :=
 LeftO.of_pieces op size run (by decide) fun w=>funext fun os=>by
  rw [la w os,lb w os,lc w os]
end OT
open PySem PySem.W PyProof.Rows
set_option maxRecDepth 100000 in
set_option maxHeartbeats 0 in
theorem PySem.Challenge.cw_gatefold_k37_laid_as_deep_as_labels_holds : PySem.Challenge.rw_gatefold_k37_laid_as_deep_as_labels.Holds := by
 w_on;o_law
 refine holds_open (q:=OT.VW OT.PW) (loose:=[]) (Xt:=OT.XT (OT.VW OT.PW)) (XP:=XL (OT.VW OT.PW) []) (Yf:=OT.HK.obs) (Ya:=OT.HK.val) (YP:=OT.HK.says) (N:=7678) OT.left OT.HK.of OT.HK.keeps
  (fun s e=>xl_of s (Zuq.mp e).1) XL.keeps (by rfl) (by rfl) (by rfl)
  (fun s e=>recFacts_of (Zuq.mp e).2) (by rfl) (by first | assumption | decide +kernel)
  (by decide +kernel)
  ⟨rfl,rfl,rfl,rfl,rfl,by decide +kernel⟩ ?hw ?hc
 case hw=>w_witness2
 refine vQ.walk (l:=PySem.Challenge.rw_gatefold_k37_laid_as_deep_as_labels) (K:=vQ.KF) rfl rfl (fun w h Y=>PySem.W.kIn_of Y) ?F
 case F =>
  intro w mg fa h KX G hmg
  k_fill
  refine' vQ.all_mk KX G hmg ⟨?aC_Board,?pg_Board,?hd_Board,?po_Board,?sa_Board,?mk_Board,?kc_Board⟩ ⟨?aC_Labels,?pg_Labels,?hd_Labels,?po_Labels,?sa_Labels,?mk_Labels,?kc_Labels⟩ ⟨?aC_Fold,?pg_Fold,?hd_Fold,?po_Fold,?sa_Fold,?mk_Fold,?kc_Fold⟩ ?aC_NoCut ?aC_NoGoal ?aC_NoKnot ?aC_NoSize ?aC_NoTie (.mk' ?a0 ?l0 ?c0 ?k0) (.mk' ?a1 ?l1 ?c1 ?k1) (.mk' ?a2 ?l2 ?c2 ?k2) (.mk' ?a3 ?l3 ?c3 ?k3) (.mk' ?a4 ?l4 ?c4 ?k4) (.mk' ?a5 ?l5 ?c5 ?k5) (.mk' ?a6 ?l6 ?c6 ?k6) (.mk' ?a7 ?l7 ?c7 ?k7) (.mk' ?a8 ?l8 ?c8 ?k8) (.mk' ?a9 ?l9 ?c9 ?k9) (.mk' ?a10 ?i10 ?l10 ?c10 ?k10) (.mk' ?a11 ?i11 ?l11 ?c11 ?k11) (.mk' ?a12 ?i12 ?l12 ?c12 ?k12) (.mk' ?a13 ?i13 ?l13 ?c13 ?k13) (.mk' ?a14 ?l14 ?c14 ?k14) (.mk' ?a15 ?l15 ?c15 ?k15) (.mk' ?a16 ?l16 ?c16 ?k16) (.mk' ?a17 ?l17 ?c17 ?k17) (.mk' ?a18 ?l18 ?c18 ?k18) (.mk' ?a19 ?l19 ?c19 ?k19) (.mk' ?a20 ?l20 ?c20 ?k20) (.mk' ?a21 ?l21 ?c21 ?k21) (.mk' ?a22 ?l22 ?c22 ?k22) (.mk' ?a23 ?l23 ?c23 ?k23) (.mk' ?a24 ?l24 ?c24 ?k24) (.mk' ?a25 ?l25 ?c25 ?k25) (.mk' ?a26 ?l26 ?c26 ?k26) (.mk' ?a27 ?l27 ?c27 ?k27) (.mk' ?a28 ?l28 ?c28 ?k28) (.mk' ?a29 ?i29 ?l29 ?c29 ?k29) (.mk' ?a30 ?i30 ?l30 ?c30 ?k30) (.mk' ?a31 ?i31 ?l31 ?c31 ?k31) (.mk' ?a32 ?i32 ?l32 ?c32 ?k32) (.mk' ?a33 ?i33 ?l33 ?c33 ?k33) (.mk' ?a34 ?i34 ?l34 ?c34 ?k34) (.mk' ?a35 ?l35 ?c35 ?k35) (.mk' ?a36 ?l36 ?c36 ?k36) (.mk' ?a37 ?l37 ?c37 ?k37) (.mk' ?a38 ?i38 ?l38 ?c38 ?k38) (.mk' ?a39 ?i39 ?l39 ?c39 ?k39) (.mk' ?a40 ?i40 ?l40 ?c40 ?k40) (.mk' ?a41 ?i41 ?l41 ?c41 ?k41) (.mk' ?a42 ?i42 ?l42 ?c42 ?k42) (.mk' ?a43 ?i43 ?l43 ?c43 ?k43) (.mk' ?a44 ?l44 ?c44 ?k44) (.mk' ?a45 ?l45 ?c45 ?k45) (.mk' ?a46 ?l46 ?c46 ?k46) (.mk' ?a47 ?l47 ?c47 ?k47) ?xi_NoCut ?xi_NoGoal ?xi_NoKnot ?xi_NoSize ?xi_NoTie ?n_Board_many ?n_Board_kept_pieces ?n_Board_kept_ties ?n_Labels_levels ?n_Labels_found_cuts ?n_Labels_found_ways ?n_Fold_many ?n_Fold_pairs ?n_Fold_knots ?g_ALWAYS ?g_GREATEST_KNOT ?g_GREATEST_SIZE ?g_LEAST_SIZE ?g_LONGEST_CUT ?g_MOST_INPUTS ?g_NEVER ?z_all ?z_bool ?z_dict ?z_int ?z_isinstance ?z_len ?z_list ?z_max ?z_min ?z_range ?z_sorted ?z_tuple ?z_zip
  (case aC_Board | pg_Board | hd_Board | po_Board | sa_Board | mk_Board | kc_Board | aC_Labels | pg_Labels | hd_Labels | po_Labels | sa_Labels | mk_Labels | kc_Labels | aC_Fold | pg_Fold | hd_Fold | po_Fold | sa_Fold | mk_Fold | kc_Fold | aC_NoCut | aC_NoGoal | aC_NoKnot | aC_NoSize | aC_NoTie | a0 | l0 | c0 | k0 | a1 | l1 | c1 | k1 | a2 | l2 | c2 | k2 | a3 | l3 | c3 | k3 | a4 | l4 | c4 | k4 | a5 | l5 | c5 | k5 | a6 | l6 | c6 | k6 | a7 | l7 | c7 | k7 | a8 | l8 | c8 | k8 | a9 | l9 | c9 | k9 | a10 | i10 | l10 | c10 | k10 | a11 | i11 | l11 | c11 | k11 | a12 | i12 | l12 | c12 | k12 | a13 | i13 | l13 | c13 | k13 | a14 | l14 | c14 | k14 | a15 | l15 | c15 | k15 | a16 | l16 | c16 | k16 | a17 | l17 | c17 | k17 | a18 | l18 | c18 | k18 | a19 | l19 | c19 | k19 | a20 | l20 | c20 | k20 | a21 | l21 | c21 | k21 | a22 | l22 | c22 | k22 | a23 | l23 | c23 | k23 | a24 | l24 | c24 | k24 | a25 | l25 | c25 | k25 | a26 | l26 | c26 | k26 | a27 | l27 | c27 | k27 | a28 | l28 | c28 | k28 | a29 | i29 | l29 | c29 | k29 | a30 | i30 | l30 | c30 | k30 | a31 | i31 | l31 | c31 | k31 | a32 | i32 | l32 | c32 | k32 | a33 | i33 | l33 | c33 | k33 | a34 | i34 | l34 | c34 | k34 | a35 | l35 | c35 | k35 | a36 | l36 | c36 | k36 | a37 | l37 | c37 | k37 | a38 | i38 | l38 | c38 | k38 | a39 | i39 | l39 | c39 | k39 | a40 | i40 | l40 | c40 | k40 | a41 | i41 | l41 | c41 | k41 | a42 | i42 | l42 | c42 | k42 | a43 | i43 | l43 | c43 | k43 | a44 | l44 | c44 | k44 | a45 | l45 | c45 | k45 | a46 | l46 | c46 | k46 | a47 | l47 | c47 | k47=>k_is)
  (case xi_NoCut=>kernel_rfl)
  (case xi_NoGoal=>kernel_rfl)
  (case xi_NoKnot=>kernel_rfl)
  (case xi_NoSize=>kernel_rfl)
  (case xi_NoTie=>kernel_rfl)
  (case n_Board_many | n_Board_kept_pieces | n_Board_kept_ties | n_Labels_levels | n_Labels_found_cuts | n_Labels_found_ways | n_Fold_many | n_Fold_pairs | n_Fold_knots | g_ALWAYS | g_GREATEST_KNOT | g_GREATEST_SIZE | g_LEAST_SIZE | g_LONGEST_CUT | g_MOST_INPUTS | g_NEVER | z_all | z_bool | z_dict | z_int | z_isinstance | z_len | z_list | z_max | z_min | z_range | z_sorted | z_tuple | z_zip=>k_is)

