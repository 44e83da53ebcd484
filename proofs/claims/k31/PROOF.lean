import PyProof.Rows.All
import Wide.All
import OpenK.AllK
import Wide.FinOn
import Lean
import PyProof.EqAt
import PyProof.EqKinds
import PyProof.TupleCall
import PyProof.ZipIter
import PyProof.WalksMore
import PyProof.ListNew
import PyProof.IsiBase
import PyProof.DictList
import PyProof.AttrMiss
import PyProof.FactsAll.dict
import PyProof.ListRange
import PyProof.StrLawsWords
import PyProof.StationsW
import KE.KIsAll
import PyProof.PassesOwn
import PyProof.DictIter
import KE.KRevIter
import KE.KRangeStep
import KE.RegMulBits
import KE.KDictList
import PyProof.Rows.SortShell
import PyProof.EnumStmt
import PySem.Challenge.RW_gatefold_k31_ways_show_it
open PySem.W renaming Frag → Zrk, findIn → Zrl, nsIn → Zrm, mg_of → Zrn, fnOf → Zro, kitOne → Zrp, kia_one → Zrq, emptyDict → Zrr, excIn → Zrs, mg_none_of → Zrt, instObj → Zru, keepIn → Zrv, ktsIn → Zrw, plainGet → Zrx, codeIn → Zry, lookIn → Zrz, hasDictIn → ZrA, isFn → ZrB, methodObj → ZrC, plainGet_of → ZrD, plainOver → ZrE, takerIn → ZrF, makesIn → ZrG, specialIn → ZrH, mroIn → ZrI, callWith_K → ZrJ, OpenLaw → ZrK, KdlSrc → ZrL, methodCall_KW → ZrM, cellsFrom_some → ZrN, rangeSize_downNat → ZrO
open PySem.F renaming plainAttrs_list → ZrP, slot_list_append → ZrQ, type_list_append → ZrR, excBase_ValueError → ZrS, slot_dict_pop → ZrT, plainAttrs_dict → ZrU, slot_list_index → ZrV, slot_dict_keys → ZrW
open List renaming length_map → ZrX, getElem?_eq_getElem → ZrY, replicate → ZrZ, length_append → Zr0, getElem?_eq_some_iff → Zr1, mem_singleton → Zr2, mem_append → Zr3, map_append → Zr4, mem_of_getElem? → Zr5, range → Zr6, mem_cons → Zr7, mem_map → Zr8, size_toArray → Zr9, getElem?_map → Zsa, length_replicate → Zsb, getD_eq_getElem?_getD → Zsc, map_map → Zsd, getElem?_append_left → Zse, length_cons → Zsf, map_cons → Zsg, append_assoc → Zsh, getElem?_append_right → Zsi, take_add_one → Zsj, length_singleton → Zsk, mem_cons_self → Zsl, mem_append_right → Zsm, Perm → Zsn, mem_cons_of_mem → Zso, mem_append_left → Zsp, length_take → Zsq, mem_iff_getElem? → Zsr, Nodup → Zss, length_nil → Zst, getElem?_eq_none → Zsu, lookup_cons → Zsv, getD → Zsw, take_length → Zsx, mem_filter → Zsy, append_nil → Zsz, take_append_drop → ZsA, map_nil → ZsB, replicate_succ → ZsC, getElem_mem → ZsD, perm_append_comm → ZsE, filter_cons → ZsF, length_range → ZsG, lookup → ZsH, nodup_cons → ZsI, getElem?_cons_succ → ZsJ, take_zero → ZsK, map_congr_left → ZsL, getElem?_replicate → ZsM, any_cons → ZsN, find?_cons → ZsO, nodup_nil → ZsP, filter_append → ZsQ, take_of_length_le → ZsR, mem_of_mem_take → ZsS, drop_of_length_le → ZsT, pairwise_iff_getElem → ZsU, getElem?_take → ZsV, extract_eq_take_drop → ZsW, map_id → ZsX, mem_range → ZsY, filterMap_cons → ZsZ, flatten_cons → Zs0, length_filter_le → Zs1, all_eq_true → Zs2, range_succ → Zs3, getElem?_cons_zero → Zs4, nodup_append → Zs5, drop_eq_getElem_cons → Zs6, getElem?_drop → Zs7, filter_map → Zs8, length → Zs9, mem_of_mem_drop → Zta, of_mem_zip → Ztb, getElem?_take_of_lt → Ztc, length_drop → Ztd, Pairwise → Zte, filter_nil → Ztf, any_map → Ztg, any_eq_true → Zth, take_add → Zti, drop_drop → Ztj, mem_reverse → Ztk, take_take → Ztl, length_eq_zero_iff → Ztm, not_mem_nil → Ztn, getElem?_set_self → Zto, pairwise_singleton → Ztp, find?_cons_of_pos → Ztq, find?_cons_of_neg → Ztr
open Nat renaming le_refl → Zts, lt_or_ge → Ztt, ne_of_lt → Ztu, le_trans → Ztv, lt_of_lt_of_le → Ztw, zero_le → Ztx, sub_self → Zty, lt_irrefl → Ztz, ne_of_gt → ZtA, le_of_eq → ZtB, le_of_lt → ZtC, lt_succ_self → ZtD, min_eq_left → ZtE, lt_of_not_le → ZtF, zero_add → ZtG, div_add_mod → ZtH, mod_two_eq_zero_or_one → ZtI, not_lt_zero → ZtJ, lt_trichotomy → ZtK
open Int renaming toNat_natCast → ZtL, eq_ofNat_of_zero_le → ZtM, le_refl → ZtN, emod_nonneg → ZtO, emod_lt_of_pos → ZtP, toNat → ZtQ, le_trans → ZtR, le_of_lt → ZtS
open Array renaming getElem?_toList → ZtT, length_toList → ZtU, toList_append → ZtV, toList_push → ZtW, toList_extract → ZtX, getElem?_eq_some_iff → ZtY, getElem?_eq_getElem → ZtZ, size_setIfInBounds → Zt0, toArray_toList → Zt1, toList_reverse → Zt2, perm_iff_toList_perm → Zt3, eraseIdxIfInBounds → Zt4
open Bool renaming false_ne_true → Zt5, and_eq_true → Zt6, false_eq_true → Zt7, eq_iff_iff → Zt8, false_or → Zt9, or_eq_true → Zua
local macro_rules | `(tactic| omega) => `(tactic| first | ((fail_if_success (fail_if_success omega +splitDisjunctions)); lia) | omega +splitDisjunctions)
set_option Elab.async false
set_option linter.all false
set_option maxRecDepth 100000
namespace L2
open PySem PySem.Spec PyProof.Rows
noncomputable abbrev Key:=Sum Int Str
noncomputable def zF:Key->Value->Bool
 | .inl k,v=>Value.isInt k v
 | .inr x,v=>Value.isStrOf x v
noncomputable def Ja (w:World):Key->Int
 | .inl k=>hashInt k
 | .inr x=>hashStr w x
theorem pZ:∀ {k:Key}{v:Value},zF k v=true->(∃ i t,k=Sum.inl i/\v=Value.int i t)\/(∃ x t,k=Sum.inr x/\v=Value.str x t)
 | .inl i,v,h=>by
  obtain ⟨t,e⟩:=Value.isInt_shape (k:=i) (v:=v) h
  exact .inl ⟨i,t,rfl,e⟩
 | .inr x,v,h=>by
  obtain ⟨t,e⟩:=Value.isStrOf_shape (x:=x) (v:=v) h
  exact .inr ⟨x,t,rfl,e⟩
theorem ZnO (i:Int) (t:Tok):zF (.inl i) (.int i t)=true:=by simp [zF,Value.isInt]
theorem Wn (x:Str) (t:Tok):zF (.inr x) (.str x t)=true:=by simp [zF,Value.isStrOf]
theorem vU (a b:Int):decide ((Sum.inl a:Key)=Sum.inl b)=(a == b):=by
 by_cases e:a=b
 ·subst e;simp
 ·have h:¬ (Sum.inl a:Key)=Sum.inl b:=fun q=>e (Sum.inl.inj q)
  rw [decide_eq_false h]
  exact (beq_eq_false_iff_ne.mpr e).symm
theorem xH (a b:Str):decide ((Sum.inr a:Key)=Sum.inr b)=decide (a=b):=by
 by_cases e:a=b
 ·subst e;simp
 ·have h:¬ (Sum.inr a:Key)=Sum.inr b:=fun q=>e (Sum.inr.inj q)
  rw [decide_eq_false h,decide_eq_false e]
theorem yi (a:Int) (b:Str):decide ((Sum.inl a:Key)=Sum.inr b)=false:=decide_eq_false (fun q=>nomatch q)
theorem uY (a:Str) (b:Int):decide ((Sum.inr a:Key)=Sum.inl b)=false:=decide_eq_false (fun q=>nomatch q)
noncomputable def iP (prog:Program) (w:World):PySem.KeyKind prog w Key where
 is:=zF
 hash:=Ja w
 inj:=fun v a b ha hb=>by
  rcases pZ ha with ⟨i,t,rfl,rfl⟩ | ⟨x,t,rfl,rfl⟩
  ·rcases pZ hb with ⟨j,u,rfl,e⟩ | ⟨y,u,rfl,e⟩
   ·injection e with e1 _;rw [e1]
   ·exact nomatch e
  ·rcases pZ hb with ⟨j,u,rfl,e⟩ | ⟨y,u,rfl,e⟩
   ·exact nomatch e
   ·injection e with e1 _;rw [e1]
 byValue:=fun k v h=>by
  rcases pZ h with ⟨i,t,rfl,rfl⟩ | ⟨x,t,rfl,rfl⟩ <;> rfl
 pyHash:=fun hv h=>by
  rcases pZ hv with ⟨i,t,rfl,rfl⟩ | ⟨x,t,rfl,rfl⟩
  ·exact wpAny_pyHash_int h
  ·exact wpAny_pyHash_str h
 eqBool:=fun hu hv h=>by
  rcases pZ hu with ⟨i,t,rfl,rfl⟩ | ⟨x,t,rfl,rfl⟩
  ·rcases pZ hv with ⟨j,u,rfl,rfl⟩ | ⟨y,u,rfl,rfl⟩
   ·rw [vU] at h;exact wpAny_eqBool_int h
   ·rw [yi] at h;exact SeqAt.EqAt.int_str i t y u _ _ _ _ h
  ·rcases pZ hv with ⟨j,u,rfl,rfl⟩ | ⟨y,u,rfl,rfl⟩
   ·rw [uY] at h;exact SeqAt.EqAt.str_int x t j u _ _ _ _ h
   ·rw [xH] at h;exact wpAny_eqBool_str h
 «strs»:=fun k x t v h=>by
  rcases pZ h with ⟨i,u,rfl,e⟩ | ⟨y,u,rfl,e⟩
  ·exact nomatch e
  ·injection e with e1 _
   subst e1
   cases v <;> rfl
theorem Wm (prog:Program) (w:World) (i:Int) (t:Tok):(iP prog w).is (.inl i) (.int i t)=true:=ZnO i t
theorem ZkN (prog:Program) (w:World) (x:Str) (t:Tok):(iP prog w).is (.inr x) (.str x t)=true:=Wn x t
inductive V where
 | non | bl (b:Bool) | int (i:Int) | str (x:Str) | byt (b:Array UInt8) | flt (b:UInt64) | ref (a:Addr) | ty (n:String)
 deriving DecidableEq
noncomputable def bu:V->Value->Prop
 | .non,u=>u=Value.none
 | .bl b,u=>u=Value.bool b
 | .int i,u=>∃ t,u=Value.int i t
 | .str x,u=>∃ t,u=Value.str x t
 | .byt b,u=>∃ t,u=Value.bytes b t
 | .flt b,u=>∃ t,u=Value.float b t
 | .ref a,u=>u=Value.ref a
 | .ty n,u=>u=Value.type n
noncomputable abbrev Vals:List V->List Value->Prop:=Paired bu
theorem Vals.length {xs:List V}{us:List Value} (r:Vals xs us):xs.length=us.length:=Paired.length r
theorem Vals.get:∀ {xs:List V}{us:List Value}{i:Nat}{x:V},Vals xs us->xs[i]? = some x->∃ u,us[i]? = some u/\bu x u
 | _,_,_,_,.nil,e=>by simp at e
 | _,_,0,_,.cons r _,e=>by simp at e;subst e;exact ⟨_,rfl,r⟩
 | _,_,i+1,x,.cons _ t,e=>by
  obtain ⟨u,h1,h2⟩:=Vals.get (i:=i) (x:=x) t (by simpa using e)
  exact ⟨u,by simpa using h1,h2⟩
theorem Vals.set {x:V}{u:Value} (r:bu x u):∀ {xs:List V}{us:List Value} (i:Nat),Vals xs us->Vals (xs.set i x) (us.set i u)
 | _,_,_,.nil=>.nil
 | _,_,0,.cons _ t=>.cons r t
 | _,_,i+1,.cons q t=>.cons q (Vals.set r i t)
theorem Vals.append:∀ {xs ys:List V}{us ws:List Value},Vals xs us->Vals ys ws->Vals (xs ++ ys) (us ++ ws)
 | _,_,_,_,.nil,s=>s
 | _,_,_,_,.cons r t,s=>.cons r (Vals.append t s)
theorem Vals.take:∀ {xs:List V}{us:List Value} (n:Nat),Vals xs us->Vals (xs.take n) (us.take n)
 | _,_,0,_=>.nil
 | _,_,_+1,.nil=>.nil
 | _,_,n+1,.cons r t=>.cons r (Vals.take n t)
theorem Vals.drop:∀ {xs:List V}{us:List Value} (n:Nat),Vals xs us->Vals (xs.drop n) (us.drop n)
 | _,_,0,r=>r
 | _,_,_+1,.nil=>.nil
 | _,_,n+1,.cons _ t=>Vals.drop n t
noncomputable def j6:Option V->Option Value->Prop
 | some v,some u=>bu v u
 | none,none=>True
 | _,_=>False
noncomputable def KV {κ:Type}:List (κ × V)->List (κ × Value)->Prop:=Paired fun (p:κ × V) (q:κ × Value)=>p.1=q.1/\bu p.2 q.2
noncomputable def kV:Key->V
 | .inl i=>.int i
 | .inr x=>.str x
inductive HO where
  | lst (xs:List V)
  | tup (xs:List V)
  | dK (kvs:List (Key × V)) | dT (kvs:List (List Key × V))
  | set (S:Int->Bool) (n:Nat)
  | ins (C dx:Addr) (fs:List (Str × V))
  | own (x:Addr)
  | xd (fs:List (Str × V))
  | met (f x:Addr)
  | rng (lo hi:Int)
  | frz (o:Obj) (u:HO)
  | tbl (ps:Array Value)
  | ext (φ:Heap->Prop)
noncomputable abbrev Hp:=Addr->Option HO
noncomputable def upd (H:Hp) (a:Addr) (o:HO):Hp:=fun b=>if b=a then some o else H b
theorem cz {H:Hp}{a:Addr}{o:HO}:upd H a o a=some o:=by unfold upd;rw [if_pos rfl]
theorem aQ {H:Hp}{a b:Addr}{o:HO} (h:b≠a):upd H a o b=H b:=by unfold upd;rw [if_neg h]
theorem G6 {H:Hp}{a:Addr}{o u:HO}:upd (upd H a o) a u=upd H a u:=by
 funext b;unfold upd;split <;> rfl
theorem cZ {H:Hp}{a b:Addr}{o u:HO} (h:H a=some o) (h':H b=some u) (d:o≠u):a≠b:=by
 intro e;subst e;rw [h] at h';exact d (Option.some.inj h')
theorem cq {H:Hp}{a b:Addr}{o:HO} (h:H a=some o) (h':H b=none):a≠b:=by
 intro e;subst e;rw [h] at h';cases h'
section
variable (P:Program) (w:World)
noncomputable def fz (H:Hp) (h:Heap) (a:Addr):HO->Prop
 | .lst xs=>xs.length<=sizeLine/\∃ (its:List Value) (n:Nat),Vals xs its/\h.get? a=some { cls:=.type "list",data:=.seq its.toArray n }
 | .tup xs=>xs.length<=sizeLine/\∃ its:List Value,Vals xs its/\IsTup h a its.toArray
 | .dK kvs=>kvs.length<=sizeLine/\(a == sysModules)=false/\∃ vs,KV kvs vs/\h.DictOf (iP P w) a vs
 | .dT kvs=>kvs.length<=sizeLine/\(a == sysModules)=false/\∃ xs:List (List Key × Addr × Value),
   Paired (fun (p:List Key × V) (q:List Key × Addr × Value)=>p.1=q.1/\H q.2.1=some (.tup (p.1.map kV))/\bu p.2 q.2.2) kvs xs /\
   ∃ o es ep,h.get? a=some o/\o.ExactDict/\o.data=.dict es ep/\es.toList=xs.map (entryOfKey (tupleKind (iP P w)))/\(xs.map (·.1)).Nodup
 | .set S n=>h.SetOf (intKind P w) a S n
 | .ins C dx fs=>H dx=some (.own a)/\fs.length<=1000/\dx≠a/\h.get? a=some (Zru C dx) /\
   ∃ mA,h.Ns1 dx mA/\(∀ f,j6 (fs.lookup f) (mA f))/\PySem.Within mA (fs.map (·.1))
 | .own _=>∃ o,h.get? a=some o
 | .xd fs=>∃ mA,h.Ns1 a mA/\∀ f,j6 (fs.lookup f) (mA f)
 | .rng lo hi=>∃ t u v,h.get? a=some { cls:=.type "range",data:=.fields #[.int lo t,.int hi u,.int 1 v] }
 | .frz o u=>h.get? a=some o/\fz H h a u
 | .tbl ps=>h.get? a=some { cls:=.none,data:=.fields ps }
 | .met f x=>h.get? a=some (ZrC (.ref f) (.ref x))
 | .ext φ=>φ h/\(∃ o,h.get? a=some o)/\∀ h1 h2:Heap,φ h1->(∀ o,h1.get? a=some o->h2.get? a=some o)->φ h2
noncomputable def e7 (H:Hp) (h:Heap):Prop:=∀ a o,H a=some o->fz P w H h a o
end
section
variable {P:Program}{w:World}{H H':Hp}{h h':Heap}{a:Addr}{o:HO}
theorem fz.lt (x:fz P w H h a o):a<h.objs.size:=by
 cases o with
 | lst xs=>obtain ⟨_,_,_,_,e⟩:=x;exact Heap.lt_size e
 | tup xs=>obtain ⟨_,_,_,p⟩:=x;exact p.lt
 | dK kvs=>obtain ⟨_,_,_,_,o,_,_,e,_⟩:=x;exact Heap.lt_size e
 | dT kvs=>obtain ⟨_,_,_,_,o,_,_,e,_⟩:=x;exact Heap.lt_size e
 | set S n=>obtain ⟨o,_,_,_,e,_⟩:=x;exact Heap.lt_size e
 | ins C dx fs=>obtain ⟨_,_,_,e,_⟩:=x;exact Heap.lt_size e
 | own y=>obtain ⟨_,e⟩:=x;exact Heap.lt_size e
 | xd fs=>obtain ⟨_,⟨_,_,_,e,_⟩,_⟩:=x;exact Heap.lt_size e
 | rng lo hi=>obtain ⟨_,_,_,e⟩:=x;exact Heap.lt_size e
 | frz ob u=>obtain ⟨e,_⟩:=x;exact Heap.lt_size e
 | tbl ps=>exact Heap.lt_size (show h.get? a=some _ from x)
 | met f y=>exact Heap.lt_size (show h.get? a=some _ from x)
 | ext φ=>obtain ⟨_,⟨_,e⟩,_⟩:=x;exact Heap.lt_size e
theorem Paired.yA {α β:Type}{F G:α->β->Prop}:∀ {l₁:List α}{l₂:List β},Paired F l₁ l₂->(∀ a b,F a b->G a b)->Paired G l₁ l₂
 | _,_,.nil,_=>.nil
 | _,_,.cons r t,f=>.cons (f _ _ r) (Paired.yA t f)
theorem fz.jU (x:fz P w H h a o) (k:∀ b u,(b=a\/H b=some (.own a))->h.get? b=some u->h'.get? b=some u)
  (ho:∀ b,H b=some (.own a)->H' b=some (.own a)) (ht:∀ b xs,H b=some (.tup xs)->H' b=some (.tup xs)):fz P w H' h' a o:=by
 induction o with
 | lst xs=>obtain ⟨z,its,n,r,e⟩:=x;exact ⟨z,its,n,r,k _ _ (.inl rfl) e⟩
 | tup xs=>obtain ⟨z,its,r,ob,e,c⟩:=x;exact ⟨z,its,r,ob,k _ _ (.inl rfl) e,c⟩
 | dK kvs=>obtain ⟨z,y,vs,r,ob,es,ep,e,c⟩:=x;exact ⟨z,y,vs,r,ob,es,ep,k _ _ (.inl rfl) e,c⟩
 | dT kvs =>
  obtain ⟨z,y,xs,r,ob,es,ep,e,c⟩:=x
  exact ⟨z,y,xs,Paired.yA r fun p q z=>⟨z.1,ht _ _ z.2.1,z.2.2⟩,ob,es,ep,k _ _ (.inl rfl) e,c⟩
 | set S n=>obtain ⟨ob,es,ep,t,e,c⟩:=x;exact ⟨ob,es,ep,t,k _ _ (.inl rfl) e,c⟩
 | ins C dx fs =>
  obtain ⟨d,z,ne,e,mA,⟨od,es,ep,e2,c⟩,r⟩:=x
  exact ⟨ho _ d,z,ne,k _ _ (.inl rfl) e,mA,⟨od,es,ep,k _ _ (.inr d) e2,c⟩,r⟩
 | own y=>obtain ⟨ob,e⟩:=x;exact ⟨ob,k _ _ (.inl rfl) e⟩
 | xd fs=>obtain ⟨mA,⟨od,es,ep,e,c⟩,r⟩:=x;exact ⟨mA,⟨od,es,ep,k _ _ (.inl rfl) e,c⟩,r⟩
 | rng lo hi=>obtain ⟨t,u,v,e⟩:=x;exact ⟨t,u,v,k _ _ (.inl rfl) e⟩
 | frz ob u ih=>obtain ⟨e,q⟩:=x;exact ⟨k _ _ (.inl rfl) e,ih q⟩
 | tbl ps =>
  have e:h.get? a=some { cls:=.none,data:=.fields ps }:=x
  show h'.get? a=some { cls:=.none,data:=.fields ps }
  exact k a _ (.inl rfl) e
 | met f y =>
  have e:h.get? a=some (ZrC (.ref f) (.ref y)):=x
  show h'.get? a=some (ZrC (.ref f) (.ref y))
  exact k a _ (.inl rfl) e
 | ext φ=>obtain ⟨p,⟨o,e⟩,st⟩:=x;exact ⟨st _ _ p fun o q=>k _ _ (.inl rfl) q,⟨o,k _ _ (.inl rfl) e⟩,st⟩
theorem e7.lt (x:e7 P w H h) (e:H a=some o):a<h.objs.size:=(x a o e).lt
theorem e7.fresh (x:e7 P w H h) (e:h.objs.size<=a):H a=none:=by
 cases q:H a with
 | none=>rfl
 | some u=>exact absurd (Ztw (x.lt q) e) (Ztz _)
theorem e7.kept (x:e7 P w H h) (k:∀ b u,h.get? b=some u->h'.get? b=some u):e7 P w H h':=fun a o e =>
 (x a o e).jU (fun b u _ q=>k b u q) (fun _ q=>q) fun _ _ q=>q
theorem e7.laid (x:e7 P w H h) (k:∀ b u,h.get? b=some u->h'.get? b=some u) (hp:h.objs.size<=a) (new:fz P w (upd H a o) h' a o):e7 P w (upd H a o) h':=fun b u e=>by
 have hn:=x.fresh hp
 by_cases hb:b=a
 ·subst hb;rw [cz] at e;cases e;exact new
 ·rw [aQ hb] at e
  exact (x b u e).jU (fun c v _ q=>k c v q) (fun c q=>by rw [aQ (cq q hn)];exact q) fun c xs q=>by rw [aQ (cq q hn)];exact q
end
noncomputable def Rd (H:Hp) (a:Addr) (u:HO):Prop:=H a=some u\/∃ o,H a=some (.frz o u)
theorem Rd.ok {P:Program}{w:World}{H:Hp}{h:Heap}{a:Addr}{u:HO} (r:Rd H a u) (x:e7 P w H h):fz P w H h a u:=by
 rcases r with r | ⟨o,r⟩
 ·exact x a u r
 ·obtain ⟨_,q⟩:=x a _ r
  exact q
noncomputable def BF:Option HO->Prop
 | some (.lst _)=>True
 | some (.dK _)=>True
 | some (.dT _)=>True
 | some (.set _ _)=>True
 | some (.ins _ _ _)=>True
 | some (.ext _)=>True
 | _=>False
section
variable {P:Program}{w:World}{H:Hp}{h h':Heap}{x e:Addr}{o':HO}
theorem e7.write (ok:e7 P w H h) (mu:BF (H x)) (he:e=x\/H e=some (.own x)) (k:∀ b u,b≠e->h.get? b=some u->h'.get? b=some u) (zT:∃ u,h'.get? e=some u)
  (new:fz P w (upd H x o') h' x o'):e7 P w (upd H x o') h':=fun b u q=>by
 have AO:∀ c y,H c=some (.own y)->c≠x:=fun c y r z=>by subst z;rw [r] at mu;exact mu
 have Ia:∀ c xs,H c=some (.tup xs)->c≠x:=fun c xs r z=>by subst z;rw [r] at mu;exact mu
 by_cases hb:b=x
 ·subst hb;rw [cz] at q;cases q;exact new
 ·rw [aQ hb] at q
  by_cases hbe:b=e
  ·have q':H b=some (.own x):=by
    rcases he with z | z
    ·exact absurd (hbe.trans z) hb
    ·rw [hbe];exact z
   rw [q] at q';cases q'
   obtain ⟨v,hv⟩:=zT
   exact ⟨v,by rw [hbe];exact hv⟩
  ·refine (ok b u q).jU (fun c v hc r=>k c v ?_ r) (fun c r=>by rw [aQ (AO c b r)];exact r) fun c xs r=>by rw [aQ (Ia c xs r)];exact r
   rcases hc with rfl | hc
   ·exact hbe
   ·rintro rfl
    rcases he with z | z
    ·exact AO c b hc z
    ·rw [hc] at z;cases z;exact hb rfl
end
structure Un (fs ex:List Addr) (H H':Hp) (h h':Heap):Prop where
 keep:∀ b o,h.get? b=some o->H b=none->b ∉ fs->b ∉ ex->h'.get? b=some o
 slot:∀ b o,h.get? b=some o->H b=none->b∈fs->b ∉ ex->∃ sl,h'.get? b=some { o with slots:=sl }
 free:∀ b o,h.get? b=some o->H b=none->b ∉ ex->H' b=none
 there:∀ b o,h.get? b=some o->b ∉ ex->∃ o',h'.get? b=some o'
 hJ:∀ b xs,H b=some (.tup xs)->H' b=some (.tup xs)
 gD:∀ b o u,H b=some (.frz o u)->H' b=some (.frz o u)
 ie:∀ b ps,H b=some (.tbl ps)->∃ more,H' b=some (.tbl (ps ++ more))
section
variable {fs UD ex ex':List Addr}{H H1 H2:Hp}{h h1 h2 h':Heap}{a x e:Addr}{o:HO}
theorem Un.any (u:Un fs ex H H1 h h1) {b:Addr}{ob:Obj} (q:h.get? b=some ob) (n:H b=none) (hx:b ∉ ex):∃ sl,h1.get? b=some { ob with slots:=sl }:=by
 by_cases hb:b∈fs
 ·exact u.slot b ob q n hb hx
 ·exact ⟨ob.slots,u.keep b ob q n hb hx⟩
theorem Un.kept (k:∀ b u,h.get? b=some u->h'.get? b=some u):Un fs ex H H h h' :=
 ⟨fun b ob q _ _ _=>k b ob q,fun b ob q _ _ _=>⟨ob.slots,k b ob q⟩,fun _ _ _ n _=>n,fun b ob q _=>⟨ob,k b ob q⟩,fun _ _ q=>q,fun _ _ _ q=>q,fun _ ps q=>⟨#[],by rw [q];simp⟩⟩
theorem Un.refl:Un fs ex H H h h:=Un.kept fun _ _ q=>q
theorem Un.laid (k:∀ b u,h.get? b=some u->h'.get? b=some u) (hp:h.objs.size<=a) (hn:H a=none):Un fs ex H (upd H a o) h h' where
 keep:=fun b u q _ _ _=>k b u q
 slot:=fun b u q _ _ _=>⟨u.slots,k b u q⟩
 free:=fun b u q n _=>by rw [aQ (Ztu (Ztw (Heap.lt_size q) hp))];exact n
 there:=fun b u q _=>⟨u,k b u q⟩
 hJ:=fun b xs q=>by rw [aQ (cq q hn)];exact q
 gD:=fun b u xs q=>by rw [aQ (cq q hn)];exact q
 ie:=fun b ps q=>⟨#[],by rw [aQ (cq q hn),q];simp⟩
theorem Un.write (mu:BF (H x)) (he:e=x\/H e=some (.own x)) (k:∀ b u,b≠e->h.get? b=some u->h'.get? b=some u) (zT:∃ u,h'.get? e=some u):Un fs ex H (upd H x o) h h':=by
 have hx:∀ b,H b=none->b≠x:=fun b n z=>by subst z;rw [n] at mu;exact mu
 have hb:∀ b,H b=none->b≠e:=fun b n z=>by
  subst z
  rcases he with r | r
  ·exact hx b n r
  ·rw [n] at r;cases r
 have hm:∀ b u,H b=some u->¬ BF (some u)->b≠x:=fun b u q nm z=>by subst z;rw [q] at mu;exact nm mu
 refine ⟨fun b u q n _ _=>k b u (hb b n) q,fun b u q n _ _=>⟨u.slots,k b u (hb b n) q⟩,fun b u q n _=>by rw [aQ (hx b n)];exact n,fun b u q _=>?_,
  fun b xs q=>by rw [aQ (hm b _ q fun z=>z)];exact q,fun b u xs q=>by rw [aQ (hm b _ q fun z=>z)];exact q,fun b ps q=>⟨#[],by rw [aQ (hm b _ q fun z=>z),q];simp⟩⟩
 by_cases hbe:b=e
 ·subst hbe;exact zT
 ·exact ⟨u,k b u hbe q⟩
end
noncomputable def GR (h:Heap) (H:Hp):List Addr:=(Zr6 h.objs.size).filter fun a=>(H a).isSome
noncomputable def qA (h:Heap) (H:Hp):Heap:=PySem.W.hideAll h (GR h H)
theorem ZnR (h:Heap) (H:Hp):(qA h H).objs.size=h.objs.size:=PySem.W.hideAll_size _ _
theorem ZL {h:Heap}{H:Hp}{b:Addr}{o:Obj} (e:h.get? b=some o) (n:H b=none):(qA h H).get? b=some o :=
 PySem.W.hideAll_get _ e fun hm=>by
  have q:(H b).isSome=true:=(Zsy.mp hm).2
  rw [n] at q;simp at q
theorem ZqL {h:Heap}{H:Hp}{b:Addr}{o:Obj} (e:(qA h H).get? b=some o):h.get? b=some o/\H b=none:=by
 have e':h.get? b=some o:=PySem.W.of_hideAll (GR h H) e
 refine ⟨e',?_⟩
 cases q:H b with
 | none=>rfl
 | some x =>
  have hm:b∈GR h H:=Zsy.mpr ⟨ZsY.mpr (Heap.lt_size e'),by simp [q]⟩
  have z:(qA h H).get? b=none:=PySem.W.hideAll_none (GR h H) hm
  rw [z] at e;cases e
noncomputable def ZS (g h:Heap) (L:Addr):List (Addr × Obj):=(Zr6 h.objs.size).filterMap fun a=>if a=L\/(g.get? a).isSome=true then none else (h.get? a).map fun o=>(a,o)
noncomputable def rest (g h:Heap) (L d:Addr):List (Addr × Obj):=(ZS g h L).filter fun p=>decide (p.1≠d)
structure Mod (K:Zrk) (mg:Str->Option Value) (base:Heap):Prop where
 pG:K.In base
 glob:base.Ns mainGlobals mg
 blt:∃ mb,base.Ns builtinsNs mb/\∀ x:Str,x ≠ "__name__" -> mb x=bootBuiltins x
 nolimit:base.NoLimit
structure Cx where
 prog:Program
 w:World
 K:Zrk
 mg:Str->Option Value
 base:Heap
 A:Around
 N:List Str
 s₀:Shared
 H₀:Hp
 env:Env
 outer:List Env
 stack:List Env
 ex:List Addr
 fn:Str->Bool
 calm:Bool
 pn:List (Addr × Obj)
 xe:Value->Shared->Prop
noncomputable def jD (l:List Env):List Addr:=l.filterMap (·.frame)
noncomputable abbrev Cx.fs (X:Cx):List Addr:=jD X.outer
noncomputable def IQ (sc:Scope) (x:Str):Prop:=sc.names.lookup x=some .local\/sc.names.lookup x=some .cell\/sc.names.lookup x=some .free
noncomputable def Loc (sc:Scope) (x:Str):Prop:=sc.names.lookup x=some .local\/sc.names.lookup x=some .cell
noncomputable def Look (env:Env) (h:Heap) (m:Str->Option Value) (x:Str) (u:Value):Prop :=
 (env.kindOf x=some .local/\m x=some u)\/((env.kindOf x=some .cell\/env.kindOf x=some .free)/\∃ c,env.cells.lookup x=some c/\h.IsCell c (some u))
structure Cx.Ok (X:Cx):Prop where
 mod:Mod X.K X.mg X.base
 kind:X.env.scope.kind=.function
 glob:X.env.globals=mainGlobals
 blt:X.env.builtins=builtinsNs
 above:X.s₀.heap.objs.size<=X.env.locals
 inj:∀ x y c,X.env.cells.lookup x=some c->X.env.cells.lookup y=some c->x=y
 has:∀ x,(X.env.kindOf x=some .cell\/X.env.kindOf x=some .free)->∃ c,X.env.cells.lookup x=some c
 rZ:∀ x c,X.fn x=true->X.env.cells.lookup x=some c->X.s₀.heap.objs.size<=c
 hd:X.calm=true->X.A.handled=none
 frames:X.A.frames=some X.stack
 xU:X.stack=X.outer\/(X.stack=X.env :: X.outer/\X.env.frame=some X.env.locals)
 D9:∀ b∈X.ex,b≠X.env.locals/\∀ x c,X.env.cells.lookup x=some c->c≠b
 bs:∀ b o,X.base.get? b=some o->X.s₀.heap.get? b=some o/\X.H₀ b=none
 lU:X.base.objs.size<=X.s₀.heap.objs.size
 jP:∀ b o,X.base.get? b=some o->b ∉ X.ex
 ku:∀ b∈X.ex,b ∉ X.fs
 eL:X.s₀.heap.FunFrames X.base X.outer
 pk:∀ b∈X.fs,X.H₀ b=none
structure Inv (X:Cx) (pins:List (Addr × Obj)) (σ:List (Option V)) (H:Hp) (s:Shared):Prop where
 ok:X.Ok
 os:s.os=X.s₀.os
 bare:AllBare s.gens
 base:Un X.fs X.ex X.H₀ H X.s₀.heap s.heap
 loc:∃ m,s.heap.Ns X.env.locals m/\∀ (i:Nat) (x:Str) (v:V),X.N[i]? = some x->σ[i]? = some (some v)->IQ X.env.scope x->∃ u,bu v u/\Look X.env s.heap m x u
 cell:∀ x c,X.env.cells.lookup x=some c->∃ v,s.heap.IsCell c v
 free:H X.env.locals=none
 dv:∀ x c,X.env.cells.lookup x=some c->H c=none
 pin:∀ p∈X.pn ++ pins,s.heap.get? p.1=some p.2/\H p.1=none/\p.1≠X.env.locals/\p.1 ∉ X.fs/\∀ v,p.2.data≠.cell v
 aF:e7 X.prog X.w H s.heap
 len:σ.length=X.N.length
section
variable {X:Cx}{pins:List (Addr × Obj)}{σ:List (Option V)}{H H':Hp}{s:Shared}{h':Heap}
theorem Cx.Ok.Ii (ok:X.Ok) {b:Addr}{o:Obj} (e:X.base.get? b=some o):b ∉ X.fs:=fun hb=>by
 have:=(ok.eL.mem hb).1
 rw [e] at this;cases this
theorem Inv.bs (I:Inv X pins σ H s):∀ b o,X.base.get? b=some o->s.heap.get? b=some o/\H b=none:=fun b o e =>
 ⟨I.base.keep b o (I.ok.bs b o e).1 (I.ok.bs b o e).2 (I.ok.Ii e) (I.ok.jP b o e),I.base.free b o (I.ok.bs b o e).1 (I.ok.bs b o e).2 (I.ok.jP b o e)⟩
theorem Inv.bk (I:Inv X pins σ H s):∀ b o,X.base.get? b=some o->s.heap.get? b=some o:=fun b o e=>(I.bs b o e).1
theorem Inv.mod (I:Inv X pins σ H s):Mod X.K X.mg X.base:=I.ok.mod
theorem Inv.hV (I:Inv X pins σ H s):X.K.In s.heap:=I.ok.mod.pG.keeps I.bk
theorem Inv.nolimit (I:Inv X pins σ H s):s.heap.NoLimit:=I.ok.mod.nolimit.keeps I.bk
theorem Inv.fr (I:Inv X pins σ H s):∃ m,Fr X.base X.env.locals s.heap m :=
 let ⟨m,hn,_⟩:=I.loc
 ⟨m,hn,I.bk,Ztv I.ok.lU I.ok.above⟩
theorem Inv.lt (I:Inv X pins σ H s):X.env.locals<s.heap.objs.size:=let ⟨_,hn,_⟩:=I.loc;hn.lt
theorem Inv.sz (I:Inv X pins σ H s):X.s₀.heap.objs.size<=s.heap.objs.size:=Ztv I.ok.above (ZtC I.lt)
theorem Inv.Iw (I:Inv X pins σ H s) {a:Addr} (h:s.heap.objs.size<=a):a ∉ X.fs:=fun hb=>by
 obtain ⟨_,o,ho,_⟩:=I.ok.eL.mem hb
 exact absurd (Ztw (Heap.lt_size ho) (Ztv I.sz h)) (Ztz _)
theorem Inv.uP (I:Inv X pins σ H s):∀ x c,X.env.cells.lookup x=some c->c≠X.env.locals:=fun x c e z=>by
 obtain ⟨v,o,ho,hd⟩:=I.cell x c e
 obtain ⟨m,⟨o',es,ep,ki,hd',_⟩,_⟩:=I.loc
 rw [z,ki] at ho;cases ho;rw [hd'] at hd;cases hd
theorem Inv.eL (I:Inv X pins σ H s):s.heap.FunFrames X.base X.outer:=by
 have all:∀ (l:List Env),(∀ b∈jD l,b∈X.fs)->X.s₀.heap.FunFrames X.base l->s.heap.FunFrames X.base l:=by
  intro l
  induction l with
  | nil=>intro _ _;trivial
  | cons env r ih =>
   intro hs hl
   obtain ⟨hk,⟨L,o,hf,hn,ho,hd⟩,hr⟩:=hl
   have hL:L∈X.fs:=hs L (by unfold jD;rw [ZsZ,hf];exact Zsl)
   obtain ⟨sl,e⟩:=I.base.slot L o ho (I.ok.pk L hL) hL fun z=>I.ok.ku L z hL
   exact ⟨hk,⟨L,_,hf,hn,e,hd⟩,ih (fun b hb=>hs b (by unfold jD;rw [ZsZ,hf];exact Zso _ hb)) hr⟩
 exact all X.outer (fun _ hb=>hb) I.ok.eL
theorem Inv.stack (I:Inv X pins σ H s):s.heap.FunFrames X.base X.stack:=by
 rcases I.ok.xU with e | ⟨e,hf⟩
 ·rw [e];exact I.eL
 ·rw [e]
  obtain ⟨m,hn,_⟩:=I.loc
  refine .cons (by rw [I.ok.kind];decide) hf hn ?_ I.eL
  exact Heap.get?_none_of_le (Ztv I.ok.lU I.ok.above)
theorem Inv.lJ (I:Inv X pins σ H s):∀ b∈jD X.stack,b∈X.env.locals :: X.fs:=fun b hb=>by
 rcases I.ok.xU with e | ⟨e,hf⟩
 ·rw [e] at hb;exact Zso _ hb
 ·rw [e] at hb
  unfold jD at hb
  rw [ZsZ,hf] at hb
  exact hb
theorem Inv.iy (I:Inv X pins σ H s):∀ b∈jD X.stack,H b=none:=fun b hb=>by
 rcases Zr7.mp (I.lJ b hb) with e | hb
 ·rw [e];exact I.free
 ·obtain ⟨_,o,ho,_⟩:=I.ok.eL.mem hb
  exact I.base.free b o ho (I.ok.pk b hb) fun z=>I.ok.ku b z hb
theorem Inv.step {g':Array GenState}{t':Nat}{d':Drawn}{ch:List Addr} (I:Inv X pins σ H s)
  (kY:∀ b∈ch,(b∈X.ex\/X.s₀.heap.objs.size<=b)/\b≠X.env.locals/\(∀ x c,X.env.cells.lookup x=some c->c≠b)/\∀ p∈X.pn ++ pins,p.1≠b)
  (keep:∀ b o,b≠X.env.locals->b ∉ X.fs->b ∉ ch->s.heap.get? b=some o->H b=none->h'.get? b=some o)
  (slot:∀ b o,b≠X.env.locals->b∈X.fs->b ∉ ch->s.heap.get? b=some o->H b=none->∃ sl,h'.get? b=some { o with slots:=sl }) (free:∀ b o,b ∉ ch->s.heap.get? b=some o->H b=none->H' b=none)
  (there:∀ b o,b ∉ ch->s.heap.get? b=some o->∃ o',h'.get? b=some o')
  (hJ:∀ b xs,H b=some (.tup xs)->H' b=some (.tup xs)) (gD:∀ b o u,H b=some (.frz o u)->H' b=some (.frz o u)) (ie:∀ b ps,H b=some (.tbl ps)->∃ more,H' b=some (.tbl (ps ++ more)))
  (ns:∀ m,s.heap.Ns X.env.locals m->h'.Ns X.env.locals m) (aF:e7 X.prog X.w H' h') (hg:AllBare g') :
  Inv X pins σ H' { s with heap:=h',gens:=g',drawn:=d',toks:=t' }:=by
 have PZ:∀ b o,X.s₀.heap.get? b=some o->b≠X.env.locals:=fun b o e=>Ztu (Ztw (Heap.lt_size e) I.ok.above)
 have Hv:∀ b o,X.s₀.heap.get? b=some o->b ∉ X.ex->b ∉ ch:=fun b o e hx hb=>by
  rcases (kY b hb).1 with z | z
  ·exact hx z
  ·exact absurd (Ztw (Heap.lt_size e) z) (Ztz _)
 have cellK:∀ x c,X.env.cells.lookup x=some c->∀ v,s.heap.IsCell c v->h'.IsCell c v:=fun x c e v ⟨o,ho,hd⟩=>by
  have sS:c ∉ ch:=fun z=>(kY c z).2.2.1 x c e rfl
  by_cases hc:c∈X.fs
  ·obtain ⟨sl,q⟩:=slot c o (I.uP x c e) hc sS ho (I.dv x c e)
   exact ⟨_,q,hd⟩
  ·exact ⟨o,keep c o (I.uP x c e) hc sS ho (I.dv x c e),hd⟩
 refine ⟨I.ok,I.os,hg,⟨fun b o e n hb hx=>?_,fun b o e n hb hx=>?_,fun b o e n hx=>?_,fun b o e hx=>?_,fun b xs e=>hJ b xs (I.base.hJ b xs e),fun b o xs e=>gD b o xs (I.base.gD b o xs e),fun b ps e=>?_⟩,?_,fun x c e=>?_,?_,fun x c e=>?_,fun p hp=>?_,aF,I.len⟩
 ·exact keep b o (PZ b o e) hb (Hv b o e hx) (I.base.keep b o e n hb hx) (I.base.free b o e n hx)
 ·obtain ⟨sl,e1⟩:=I.base.slot b o e n hb hx
  obtain ⟨sl',e2⟩:=slot b _ (PZ b o e) hb (Hv b o e hx) e1 (I.base.free b o e n hx)
  exact ⟨sl',e2⟩
 ·obtain ⟨o',e1⟩:=I.base.there b o e hx
  exact free b o' (Hv b o e hx) e1 (I.base.free b o e n hx)
 ·obtain ⟨o',e1⟩:=I.base.there b o e hx
  exact there b o' (Hv b o e hx) e1
 ·obtain ⟨m1,e1⟩:=I.base.ie b ps e
  obtain ⟨m2,e2⟩:=ie b _ e1
  exact ⟨m1 ++ m2,by rw [e2,Array.append_assoc]⟩
 ·obtain ⟨m,hn,hl⟩:=I.loc
  refine ⟨m,ns m hn,fun i x v e1 e2 e3=>?_⟩
  obtain ⟨u,r,l⟩:=hl i x v e1 e2 e3
  refine ⟨u,r,?_⟩
  rcases l with l | ⟨k,c,e,z⟩
  ·exact .inl l
  ·exact .inr ⟨k,c,e,cellK x c e _ z⟩
 ·obtain ⟨v,z⟩:=I.cell x c e
  exact ⟨v,cellK x c e v z⟩
 ·obtain ⟨m,⟨o,_,_,ho,_⟩,_⟩:=I.loc
  exact free _ o (fun z=>(kY _ z).2.1 rfl) ho I.free
 ·obtain ⟨v,o,ho,hd⟩:=I.cell x c e
  exact free c o (fun z=>(kY c z).2.2.1 x c e rfl) ho (I.dv x c e)
 ·obtain ⟨e,n,ne,nf,d⟩:=I.pin p hp
  have sS:p.1 ∉ ch:=fun z=>(kY p.1 z).2.2.2 p hp rfl
  exact ⟨keep p.1 p.2 ne nf sS e n,free p.1 p.2 sS e n,ne,nf,d⟩
theorem Inv.un {t':Nat} (I:Inv X pins σ H s) (u:Un X.fs [] H H' s.heap h') (aF:e7 X.prog X.w H' h'):Inv X pins σ H' { s with heap:=h',toks:=t' }:=by
 obtain ⟨m,⟨o,es,ep,ho,r⟩,_⟩:=id I.loc
 obtain ⟨sl,hL⟩:=u.any ho I.free (by simp)
 exact I.step (g':=s.gens) (d':=s.drawn) (ch:=[]) (fun _ z=>nomatch z) (fun b o _ hb _ e n=>u.keep b o e n hb (by simp)) (fun b o _ hb _ e n=>u.slot b o e n hb (by simp)) (fun b o _ e n=>u.free b o e n (by simp)) (fun b o _ e=>u.there b o e (by simp)) u.hJ u.gD u.ie (fun m' hm=>by
  obtain ⟨o',es',ep',ki,r'⟩:=hm
  rw [ho] at ki;cases ki
  exact ⟨_,es',ep',hL,r'⟩) aF I.bare
theorem Inv.call {g':Array GenState}{t':Nat}{d':Drawn}{ch:List Addr} (I:Inv X pins σ H s) (u:Un (jD X.stack) ch H H' s.heap h') (aF:e7 X.prog X.w H' h') (hg:AllBare g')
  (kY:∀ b∈ch,(b∈X.ex\/X.s₀.heap.objs.size<=b)/\b≠X.env.locals/\(∀ x c,X.env.cells.lookup x=some c->c≠b)/\∀ p∈X.pn ++ pins,p.1≠b) :
  Inv X pins σ H' { s with heap:=h',gens:=g',drawn:=d',toks:=t' }:=by
 obtain ⟨m,⟨o,es,ep,ho,r⟩,_⟩:=id I.loc
 obtain ⟨sl,hL⟩:=u.any ho I.free fun z=>(kY _ z).2.1 rfl
 exact I.step (ch:=ch) kY (fun b o hL hb hc e n=>u.keep b o e n (fun z=>(Zr7.mp (I.lJ b z)).elim hL hb) hc) (fun b o _ _ hc e n=>u.any e n hc) (fun b o hc e n=>u.free b o e n hc) (fun b o hc e=>u.there b o e hc) u.hJ u.gD u.ie (fun m' hm=>by
  obtain ⟨o',es',ep',ki,r'⟩:=hm
  rw [ho] at ki;cases ki
  exact ⟨_,es',ep',hL,r'⟩) aF hg
theorem Inv.turned {t':Nat}{it:Addr} (I:Inv X pins σ H s) (k:∀ b o,b≠it->s.heap.get? b=some o->h'.get? b=some o) (hn:H it=none) (hL:it≠X.env.locals)
  (h1:it∈X.ex\/X.s₀.heap.objs.size<=it) (h2:∀ x c,X.env.cells.lookup x=some c->c≠it) (h3:∀ p∈X.pn ++ pins,p.1≠it):Inv X pins σ H { s with heap:=h',toks:=t' }:=by
 have NX:∀ b u,H b=some u->b≠it:=fun b u e z=>by rw [z,hn] at e;cases e
 refine I.step (g':=s.gens) (d':=s.drawn) (ch:=[it]) (fun b hb=>?_) (fun b o _ _ hc e _=>k b o (fun z=>hc (by simp [z])) e) (fun b o _ _ hc e _=>⟨o.slots,k b o (fun z=>hc (by simp [z])) e⟩) (fun _ _ _ _ n=>n)
  (fun b o hc e=>⟨o,k b o (fun z=>hc (by simp [z])) e⟩) (fun _ _ e=>e) (fun _ _ _ e=>e) (fun b ps e=>⟨#[],by rw [e];simp⟩) (fun m hm=>?_) (fun b u e=>?_) I.bare
 ·have e:b=it:=by simpa using hb
  subst e
  exact ⟨h1,hL,h2,h3⟩
 ·obtain ⟨o,es,ep,ho,r⟩:=hm
  exact ⟨o,es,ep,k _ o (Ne.symm hL) ho,r⟩
 ·refine (I.aF b u e).jU (fun c v hc q=>k c v ?_ q) (fun _ q=>q) fun _ _ q=>q
  rcases hc with z | z
  ·rw [z];exact NX b u e
  ·exact NX c _ z
theorem Inv.tok (I:Inv X pins σ H s) (t:Nat):Inv X pins σ H { s with toks:=t }:=I.un (h':=s.heap) (t':=t) Un.refl I.aF
theorem Inv.kept {t':Nat} (I:Inv X pins σ H s) (k:∀ b u,s.heap.get? b=some u->h'.get? b=some u):Inv X pins σ H { s with heap:=h',toks:=t' }:=I.un (Un.kept k) (I.aF.kept k)
theorem Inv.laid {a:Addr}{o:HO}{t':Nat} (I:Inv X pins σ H s) (k:∀ b u,s.heap.get? b=some u->h'.get? b=some u) (hp:s.heap.objs.size<=a) (new:fz X.prog X.w (upd H a o) h' a o) :
  Inv X pins σ (upd H a o) { s with heap:=h',toks:=t' }:=I.un (Un.laid k hp (I.aF.fresh hp)) (I.aF.laid k hp new)
theorem Inv.write {x e:Addr}{o:HO}{t':Nat} (I:Inv X pins σ H s) (mu:BF (H x)) (he:e=x\/H e=some (.own x)) (k:∀ b u,b≠e->s.heap.get? b=some u->h'.get? b=some u) (zT:∃ u,h'.get? e=some u)
  (new:fz X.prog X.w (upd H x o) h' x o):Inv X pins σ (upd H x o) { s with heap:=h',toks:=t' }:=I.un (Un.write mu he k zT) (I.aF.write mu he k zT new)
theorem Inv.lT {rz:List (Addr × Obj)} (I:Inv X pins σ H s) (h:∀ p∈rz,s.heap.get? p.1=some p.2/\H p.1=none/\p.1≠X.env.locals/\p.1 ∉ X.fs/\∀ v,p.2.data≠.cell v):Inv X rz σ H s :=
 ⟨I.ok,I.os,I.bare,I.base,I.loc,I.cell,I.free,I.dv,fun p hp=>(Zr3.mp hp).elim (fun z=>I.pin p (Zsp _ z)) (h p),I.aF,I.len⟩
theorem Qj {N:List Str} (hN:N.Nodup) {i j:Nat}{x:Str} (a:N[i]? = some x) (b:N[j]? = some x):i=j:=by
 obtain ⟨h1,e1⟩:=Zr1.mp a
 obtain ⟨h2,e2⟩:=Zr1.mp b
 exact (List.getElem_inj hN).mp (e1.trans e2.symm)
theorem OE {M:Model}{A:Around}{E:Value->Shared->Prop}{i:Nat}{x:Str}{v:V}{u:Value}{Q:Unit->Shared->Prop} (I:Inv X pins σ H s) (hN:X.N.Nodup) (hi:X.N[i]? = some x) (hx:Loc X.env.scope x) (r:bu v u)
  (h:∀ s',Inv X pins (σ.set i (some v)) H s'->(∃ a,Heap.SameBut a s.heap s'.heap/\(a=X.env.locals\/X.env.cells.lookup x=some a))->Q () s') (hf:X.fn x=true\/X.env.scope.names.lookup x=some .local:=by first | exact .inl rfl | exact .inr rfl | assumption):wpAny M A (storeName X.env x u) Q E s:=by
 obtain ⟨m,hn,hl⟩:=id I.loc
 have Kn:(X.env.scope.kind == .class || (X.env.scope.kind == .module && X.env.locals != X.env.globals))=false:=by rw [I.ok.kind];rfl
 have Rj:i<σ.length:=by rw [I.len];exact (Zr1.mp hi).1
 have uP:=I.uP
 have tracked:∀ {a:Addr}{h':Heap},(∃ o,s.heap.get? a=some o/\H a=none)->Heap.SameBut a s.heap h'->e7 X.prog X.w H h':=fun {a h'} ha hs b ob e=>by
  obtain ⟨_,_,hfree⟩:=ha
  refine (I.aF b ob e).jU (fun c w' hc q=>(hs.2 c ?_).trans q) (fun _ q=>q) fun _ _ q=>q
  rintro rfl
  rcases hc with rfl | hc
  ·rw [hfree] at e;cases e
  ·rw [hfree] at hc;cases hc
 rcases hx with hk | hk
 ·refine wpAny_storeName_local hk hn (fun h' hn' hs=>?_) Kn
  obtain ⟨oL,_,_,Dk,_⟩:=id hn
  refine h _ ⟨I.ok,I.os,I.bare,⟨fun b o e n hb hx=>?_,fun b o e n hb hx=>?_,I.base.free,fun b o e hx=>?_,I.base.hJ,I.base.gD,I.base.ie⟩,⟨_,hn',fun j y v' e1 e2 e3=>?_⟩,fun y c e=>?_,I.free,I.dv,fun p hp=>?_,tracked ⟨oL,Dk,I.free⟩ hs,by simpa using I.len⟩ ⟨_,hs,.inl rfl⟩
  ·exact (hs.2 b (Ztu (Ztw (Heap.lt_size e) I.ok.above))).trans (I.base.keep b o e n hb hx)
  ·obtain ⟨sl,e1⟩:=I.base.slot b o e n hb hx
   exact ⟨sl,(hs.2 b (Ztu (Ztw (Heap.lt_size e) I.ok.above))).trans e1⟩
  ·obtain ⟨o',e1⟩:=I.base.there b o e hx
   exact ⟨o',(hs.2 b (Ztu (Ztw (Heap.lt_size e) I.ok.above))).trans e1⟩
  ·by_cases hj:j=i
   ·subst hj
    rw [hi] at e1;cases e1
    rw [Zto Rj] at e2
    cases e2
    exact ⟨u,r,.inl ⟨hk,by simp⟩⟩
   ·rw [List.getElem?_set_ne (Ne.symm hj)] at e2
    obtain ⟨u',r',q⟩:=hl j y v' e1 e2 e3
    refine ⟨u',r',?_⟩
    rcases q with ⟨k,e⟩ | ⟨k,c,e,z⟩
    ·refine .inl ⟨k,?_⟩
     have:y≠x:=fun e=>hj (Qj hN e1 (e ▸ hi))
     simp [this,e]
    ·exact .inr ⟨k,c,e,z.sameBut hs (uP y c e)⟩
  ·obtain ⟨w',z⟩:=I.cell y c e
   exact ⟨w',z.sameBut hs (uP y c e)⟩
  ·obtain ⟨e,n,ne,nf,d⟩:=I.pin p hp
   exact ⟨(hs.2 p.1 ne).trans e,n,ne,nf,d⟩
 ·have IU:X.fn x=true:=by
   rcases hf with z | z
   ·exact z
   ·rw [z] at hk;cases hk
  obtain ⟨c,hc⟩:=I.ok.has x (.inl hk)
  obtain ⟨w',z⟩:=I.cell x c hc
  refine wpAny_storeName_cell I.ok.kind hk hc z (fun h' hc' hs=>?_)
  obtain ⟨oc,hoc,hocd⟩:=id z
  refine h { s with heap:=h' } ⟨I.ok,I.os,I.bare,⟨fun b o e n hb hx=>?_,fun b o e n hb hx=>?_,I.base.free,fun b o e hx=>?_,I.base.hJ,I.base.gD,I.base.ie⟩,⟨m,hn.sameBut hs (Ne.symm (uP x c hc)),fun j y v' e1 e2 e3=>?_⟩,fun y c' e=>?_,I.free,I.dv,fun p hp=>?_,tracked ⟨oc,hoc,I.dv x c hc⟩ hs,by simpa using I.len⟩ ⟨c,hs,.inr hc⟩
  ·exact (hs.2 b (Ztu (Ztw (Heap.lt_size e) (I.ok.rZ x c IU hc)))).trans (I.base.keep b o e n hb hx)
  ·obtain ⟨sl,e1⟩:=I.base.slot b o e n hb hx
   exact ⟨sl,(hs.2 b (Ztu (Ztw (Heap.lt_size e) (I.ok.rZ x c IU hc)))).trans e1⟩
  ·obtain ⟨o',e1⟩:=I.base.there b o e hx
   exact ⟨o',(hs.2 b (Ztu (Ztw (Heap.lt_size e) (I.ok.rZ x c IU hc)))).trans e1⟩
  ·by_cases hj:j=i
   ·subst hj
    rw [hi] at e1;cases e1
    rw [Zto Rj] at e2
    cases e2
    exact ⟨u,r,.inr ⟨.inl hk,c,hc,hc'⟩⟩
   ·rw [List.getElem?_set_ne (Ne.symm hj)] at e2
    obtain ⟨u',r',q⟩:=hl j y v' e1 e2 e3
    refine ⟨u',r',?_⟩
    rcases q with q | ⟨k,c',e,z'⟩
    ·exact .inl q
    ·refine .inr ⟨k,c',e,z'.sameBut hs ?_⟩
     rintro rfl
     exact hj (Qj hN e1 (I.ok.inj _ _ _ e hc ▸ hi))
  ·by_cases hcc:c'=c
   ·subst hcc;exact ⟨_,hc'⟩
   ·obtain ⟨w2,z2⟩:=I.cell y c' e
    exact ⟨w2,z2.sameBut hs hcc⟩
  ·obtain ⟨e,n,ne,nf,d⟩:=I.pin p hp
   refine ⟨(hs.2 p.1 ?_).trans e,n,ne,nf,d⟩
   intro q
   rw [q,hoc] at e
   have q':oc=p.2:=Option.some.inj e
   exact d w' (by rw [<- q'];exact hocd)
theorem ON {M:Model}{A:Around}{E:Value->Shared->Prop}{i:Nat}{x:Str}{v:V}{u:Value}{Q:Unit->Shared->Prop} (I:Inv X pins σ H s) (hN:X.N.Nodup) (hi:X.N[i]? = some x) (hx:Loc X.env.scope x) (r:bu v u)
  (h:∀ s',Inv X pins (σ.set i (some v)) H s'->Q () s') (hf:X.fn x=true\/X.env.scope.names.lookup x=some .local:=by first | exact .inl rfl | exact .inr rfl | assumption):wpAny M A (storeName X.env x u) Q E s :=
 OE I hN hi hx r (fun s' I' _=>h s' I') hf
theorem Inv.CA {s':Shared}{ch:List Addr} (I:Inv X pins σ H s) (ho:s'.os=s.os) (u:Un (jD X.stack) ch H H' s.heap s'.heap) (aF:e7 X.prog X.w H' s'.heap) (hg:AllBare s'.gens)
  (kY:∀ b∈ch,(b∈X.ex\/X.s₀.heap.objs.size<=b)/\b≠X.env.locals/\(∀ x c,X.env.cells.lookup x=some c->c≠b)/\∀ p∈X.pn ++ pins,p.1≠b):Inv X pins σ H' s':=by
 obtain ⟨h',g',d',t',o'⟩:=s'
 have e:o'=s.os:=ho
 subst e
 exact I.call (g':=g') (t':=t') (d':=d') u aF hg kY
end
noncomputable abbrev XK:=Value->Option Addr->Hp->Prop
noncomputable abbrev St:=List (Option V)
noncomputable abbrev VK:=V->Hp->Prop
noncomputable abbrev TE:=St->Hp->VK->Prop
noncomputable abbrev TT:=St->Hp->(Bool->Hp->Prop)->Prop
noncomputable abbrev TA:=St->Hp->(List V->Hp->Prop)->Prop
structure Ends where
 nx:St->Hp->Prop
 rt:VK
 bk:St->Hp->Prop:=fun _ _=>False
 ct:St->Hp->Prop:=fun _ _=>False
noncomputable abbrev TS:=Ends->St->Hp->Prop
noncomputable def EP (X:Cx) (pins:List (Addr × Obj)) (σ:St) (Q:VK) (u:Value) (s':Shared):Prop:=∃ v H',Inv X pins σ H' s'/\bu v u/\Q v H'
noncomputable def TP (X:Cx) (pins:List (Addr × Obj)) (σ:St) (Q:Bool->Hp->Prop) (b:Bool) (s':Shared):Prop:=∃ H',Inv X pins σ H' s'/\Q b H'
noncomputable def AP (X:Cx) (pins:List (Addr × Obj)) (σ:St) (Q:List V->Hp->Prop) (us:List Value) (s':Shared):Prop:=∃ vs H',Inv X pins σ H' s'/\Vals vs us/\Q vs H'
noncomputable def SP (X:Cx) (pins:List (Addr × Obj)) (D:Ends) (f:Flow) (s':Shared):Prop :=
 match f with
 | .next=>∃ σ' H',Inv X pins σ' H' s'/\D.nx σ' H'
 | .brk=>∃ σ' H',Inv X pins σ' H' s'/\D.bk σ' H'
 | .cont=>∃ σ' H',Inv X pins σ' H' s'/\D.ct σ' H'
 | .ret u=>∃ v σ' H',Inv X pins σ' H' s'/\bu v u/\D.rt v H'
noncomputable def PE (X:Cx) (e:Expr) (t:TE):Prop :=
 ∀ (pins:List (Addr × Obj)) (s:Shared) (σ:St) (H:Hp) (Q:VK),Inv X pins σ H s->t σ H Q->wpAny (model X.prog X.w) X.A (eval e X.env) (EP X pins σ Q) X.xe s
noncomputable def PT (X:Cx) (e:Expr) (t:TT):Prop :=
 ∀ (pins:List (Addr × Obj)) (s:Shared) (σ:St) (H:Hp) (Q:Bool->Hp->Prop),Inv X pins σ H s->t σ H Q->wpAny (model X.prog X.w) X.A (isTrue e X.env (eval e X.env)) (TP X pins σ Q) X.xe s
noncomputable def PW (X:Cx) (e:Expr) (t:TT):Prop :=
 ∀ (whole:Sem Value) (pins:List (Addr × Obj)) (s:Shared) (σ:St) (H:Hp) (Q:Bool->Hp->Prop),Inv X pins σ H s->t σ H Q->wpAny (model X.prog X.w) X.A (isTrue e X.env whole) (TP X pins σ Q) X.xe s
theorem PW.pt {X:Cx}{e:Expr}{t:TT} (h:PW X e t):PT X e t:=h _
noncomputable def PA (X:Cx) (es:List Expr) (t:TA):Prop :=
 ∀ (pos:Pos) (pins:List (Addr × Obj)) (s:Shared) (σ:St) (H:Hp) (Q:List V->Hp->Prop),Inv X pins σ H s->t σ H Q->wpAny (model X.prog X.w) X.A (spliced (backTo pos (starEach es X.env))) (AP X pins σ Q) X.xe s
noncomputable def PS (X:Cx) (st:Stmt) (t:TS):Prop :=
 ∀ (pins:List (Addr × Obj)) (s:Shared) (σ:St) (H:Hp) (D:Ends),Inv X pins σ H s->t D σ H->wpAny (model X.prog X.w) X.A (exec st X.env) (SP X pins D) X.xe s
noncomputable def jl (X:Cx) (st:List Stmt) (t:TS):Prop :=
 ∀ (pins:List (Addr × Obj)) (s:Shared) (σ:St) (H:Hp) (D:Ends),Inv X pins σ H s->t D σ H->wpAny (model X.prog X.w) X.A (execs st X.env) (SP X pins D) X.xe s
theorem aS {α:Type}{t:Sem α}{Q Q':α->Shared->Prop}{M:Model}{A:Around}{E:Value->Shared->Prop}{s:Shared} (h:wpAny M A t Q E s) (hQ:∀ a s,Q a s->Q' a s):wpAny M A t Q' E s:=wpAny_mono h hQ fun _ _ x=>x
section
variable {X:Cx}
noncomputable def EH (i:Nat):TE:=fun σ H Q=>∃ v,σ[i]? = some (some v)/\Q v H
noncomputable def tC (v:V):TE:=fun _ H Q=>Q v H
theorem wK {i:Nat}{x:Str}{pos:Pos} (hN:X.N[i]? = some x) (hv:IQ X.env.scope x) (hd:(x == ("__debug__" : Str))=false:=by decide) (mh:(x == ("__classdict__" : Str))=false:=by decide):PE X (.Name x pos) (EH i):=by
 intro pins s σ H Q I h
 obtain ⟨v,e,h⟩:=h
 obtain ⟨m,hn,hl⟩:=I.loc
 obtain ⟨u,r,l⟩:=hl i x v hN e hv
 have fin:EP X pins σ Q u s:=⟨v,H,I,r,h⟩
 rcases l with ⟨hk,hm⟩ | ⟨hk,c,hc,hcell⟩
 ·exact wpAny_Name (wpAny_loadName_local I.ok.kind hk hn hm fin) hd
 ·rcases hk with hk | hk
  ·exact wpAny_Name (wpAny_loadName_cell I.ok.kind hk hc hcell fin) hd
  ·exact wpAny_Name (wpAny_loadName_free I.ok.kind hk hc hcell fin mh) hd
theorem ax {i j pos}:PE X (.Constant (.int i) j pos) (tC (.int i)):=fun _ _ _ H _ I h=>wpAny_Constant_int ⟨.int i,H,I.tok _,⟨_,rfl⟩,h⟩
theorem jv {b j pos}:PE X (.Constant (.bool b) j pos) (tC (.bl b)):=fun _ _ _ H _ I h=>Constant_bool ⟨.bl b,H,I,rfl,h⟩
theorem kg {j pos}:PE X (.Constant .none j pos) (tC .non):=fun _ _ _ H _ I h=>Constant_none ⟨.non,H,I,rfl,h⟩
theorem sG {x j pos}:PE X (.Constant (.str x) j pos) (tC (.str x)):=fun _ _ _ H _ I h=>Calls.Constant_str ⟨.str x,H,I.tok _,⟨_,rfl⟩,h⟩
noncomputable def Gl (X:Cx) (x:Str):Prop:=X.env.kindOf x=some .globalImplicit
theorem He {E:Value->Shared->Prop}{pins:List (Addr × Obj)}{s:Shared}{σ:St}{H:Hp}{x:Str}{u:Value}{pos:Pos}{Q:Value->Shared->Prop} (I:Inv X pins σ H s) (hg:Gl X x) (hm:X.mg x=some u) (h:Q u s)
  (hd:(x == ("__debug__" : Str))=false:=by decide):wpAny (model X.prog X.w) X.A (eval (.Name x pos) X.env) Q E s :=
 Calls.Name_function_global I.ok.kind hg (Calls.loadGlobal_global (by rw [I.ok.glob];exact I.mod.glob.keeps I.bk) hm h) hd
theorem vQ {E:Value->Shared->Prop}{pins:List (Addr × Obj)}{s:Shared}{σ:St}{H:Hp}{x:Str}{u:Value}{pos:Pos}{Q:Value->Shared->Prop} (I:Inv X pins σ H s) (hg:Gl X x) (hm:X.mg x=none) (hv:bootBuiltins x=some u) (h:Q u s)
  (hn:x ≠ "__name__":=by decide) (hd:(x == ("__debug__" : Str))=false:=by decide):wpAny (model X.prog X.w) X.A (eval (.Name x pos) X.env) Q E s:=by
 obtain ⟨mb,h1,h2⟩:=I.mod.blt
 exact Calls.Name_function_global I.ok.kind hg (Calls.loadGlobal_builtin (by rw [I.ok.glob];exact I.mod.glob.keeps I.bk) hm (by rw [I.ok.blt];exact h1.keeps I.bk) ((h2 x hn).trans hv) h) hd
theorem ZqE {x:Str}{v:V}{u:Value}{pos:Pos} (hg:Gl X x) (hm:X.mg x=some u) (r:bu v u) (hd:(x == ("__debug__" : Str))=false:=by decide):PE X (.Name x pos) (tC v) :=
 fun _ _ _ H _ I h=>He I hg hm ⟨v,H,I,r,h⟩ hd
theorem zm {x:Str}{v:V}{u:Value}{pos:Pos} (hg:Gl X x) (hm:X.mg x=none) (hv:bootBuiltins x=some u) (r:bu v u) (hn:x ≠ "__name__":=by decide) (hd:(x == ("__debug__" : Str))=false:=by decide):PE X (.Name x pos) (tC v) :=
 fun _ _ _ H _ I h=>vQ I hg hm hv ⟨v,H,I,r,h⟩ hn hd
variable {a b:Expr}{ta tb:TE}{pos:Pos}
noncomputable def PC (X:Cx) (op:CmpOp) (a b:Expr) (t:TE):Prop :=
 ∀ (pins:List (Addr × Obj)) (s:Shared) (σ:St) (H:Hp) (Q:VK),Inv X pins σ H s->t σ H Q ->
  wpAny (model X.prog X.w) X.A (eval a X.env) (fun v s₁=>wpAny (model X.prog X.w) X.A (eval b X.env) (fun u s₂=>wpAny (model X.prog X.w) X.A (compareOp op v u) (EP X pins σ Q) X.xe s₂) X.xe s₁) X.xe s
theorem Oy (b:Expr) {op:CmpOp} (h:op≠.In) (h2:op≠.NotIn):behindInMarks op b=false:=by
 have e1:(op == CmpOp.In)=false:=by cases op <;> first | rfl | exact absurd rfl h
 have e2:(op == CmpOp.NotIn)=false:=by cases op <;> first | rfl | exact absurd rfl h2
 cases b <;> simp [behindInMarks,e1,e2]
noncomputable def tB (t:TE):TT:=fun σ H Q=>t σ H fun x H1=>∃ c,x=.bl c/\Q c H1
theorem vY {op:CmpOp}{t:TE} (h:PC X op a b t) (h1:behindInMarks op b=false:=by first | exact Oy _ (by decide) (by decide) | rfl):PT X (.Compare a [op] [b] pos) (tB t):=by
 intro pins s σ H Q I hw
 refine wpAny_isTrue_Compare1 (aS (h pins s σ H _ I hw) fun v s1 h1=>aS h1 fun u s2 h2=>aS h2 fun c s3 ⟨x,H1,I1,r1,q1⟩=>?_) h1
 obtain ⟨d,rfl,q⟩:=q1
 cases r1
 exact wpAny_truthy_bool ⟨H1,I1,q⟩
variable {tA Ht:TT}{rest:List Expr}
noncomputable def pU (t u:TT):TT:=fun σ H Q=>t σ H fun c H1=>if c=true then u σ H1 Q else Q false H1
noncomputable def kq (t u:TT):TT:=fun σ H Q=>t σ H fun c H1=>if c=true then Q true H1 else u σ H1 Q
noncomputable def lH (t:TT):TT:=fun σ H Q=>t σ H fun c H1=>Q (!c) H1
theorem rq (ha:PT X a tA):PW X (.BoolOp .And [a] pos) tA:=by
 intro wh pins s σ H Q I h
 refine isTrue_and (aS (ha pins s σ H Q I h) fun c s1 e=>?_)
 cases c with
 | true=>exact isTrue_and_nil e
 | false=>exact e
theorem nI (ha:PT X a tA):PW X (.BoolOp .Or [a] pos) tA:=by
 intro wh pins s σ H Q I h
 refine isTrue_or (aS (ha pins s σ H Q I h) fun c s1 e=>?_)
 cases c with
 | false=>exact isTrue_or_nil e
 | true=>exact e
theorem sH (ha:PT X a tA) (hb:PW X (.BoolOp .And (b :: rest) pos) Ht):PW X (.BoolOp .And (a :: b :: rest) pos) (pU tA Ht):=by
 intro wh pins s σ H Q I h
 refine isTrue_and (aS (ha pins s σ H _ I h) fun c s1 ⟨H1,I1,q1⟩=>?_)
 cases c with
 | true=>exact hb wh pins s1 σ H1 Q I1 q1
 | false=>exact ⟨H1,I1,q1⟩
theorem lK (ha:PT X a tA) (hb:PW X (.BoolOp .Or (b :: rest) pos) Ht):PW X (.BoolOp .Or (a :: b :: rest) pos) (kq tA Ht):=by
 intro wh pins s σ H Q I h
 refine isTrue_or (aS (ha pins s σ H _ I h) fun c s1 ⟨H1,I1,q1⟩=>?_)
 cases c with
 | true=>exact ⟨H1,I1,q1⟩
 | false=>exact hb wh pins s1 σ H1 Q I1 q1
theorem mC (ha:PT X a tA):PT X (.UnaryOp .Not a pos) (lH tA):=by
 intro pins s σ H Q I h
 exact isTrue_not (ha pins s σ H (fun c H1=>Q (!c) H1) I h)
noncomputable def J3 (ta tb:TE):TE:=fun σ H Q=>ta σ H fun x H1=>∃ c,x=.bl c/\if c=true then tb σ H1 Q else Q (.bl false) H1
noncomputable def JT (ta:TE):TE:=fun σ H Q=>ta σ H fun x H1=>∃ c,x=.bl c/\Q (.bl (!c)) H1
theorem GO {op}{t:TE} (h:PE X a t):PE X (.BoolOp op [a] pos) t:=fun pins s σ H Q I hw=>BoolOp_one (h pins s σ H Q I hw)
theorem t4 (ha:PE X a ta) (hb:PE X (.BoolOp .And (b :: rest) pos) tb):PE X (.BoolOp .And (a :: b :: rest) pos) (J3 ta tb):=by
 intro pins s σ H Q I h
 refine BoolOp_and (aS (ha pins s σ H _ I h) fun v s1 ⟨x,H1,I1,r1,q1⟩=>?_)
 obtain ⟨c,rfl,q1⟩:=q1
 cases r1
 refine wpAny_truthy_bool ?_
 cases c with
 | true=>exact hb pins s1 σ H1 Q I1 q1
 | false=>exact ⟨.bl false,H1,I1,rfl,q1⟩
theorem xY (ha:PE X a ta):PE X (.UnaryOp .Not a pos) (JT ta):=by
 intro pins s σ H Q I h
 refine UnaryOp_ (aS (ha pins s σ H _ I h) fun v s1 ⟨x,H1,I1,r1,q1⟩=>?_)
 obtain ⟨c,rfl,q1⟩:=q1
 cases r1
 exact not_of (wpAny_truthy_bool ⟨.bl (!c),H1,I1,rfl,q1⟩)
noncomputable def Hs (t:TT) (ta tb:TE):TE:=fun σ H Q=>t σ H fun c H1=>if c=true then ta σ H1 Q else tb σ H1 Q
theorem Rv {c:Expr} (hc:PT X c tA) (ha:PE X a ta) (hb:PE X b tb):PE X (.IfExp c a b pos) (Hs tA ta tb):=by
 intro pins s σ H Q I h
 refine wpAny_IfExp (aS (hc pins s σ H _ I h) fun d s1 ⟨H1,I1,q1⟩=>?_)
 cases d with
 | true=>exact ha pins s1 σ H1 Q I1 q1
 | false=>exact hb pins s1 σ H1 Q I1 q1
end
noncomputable def bY (K:Zrk) (H:Hp) (a:Addr) (xs:List V):Prop :=
 Rd H a (.lst xs) \/
  ∃ (o:Obj) (its:Array Value) (n:Nat),K.lookup a=some o/\o.cls=.type "list" /\ o.dict=none/\o.data=.seq its n/\its.size<=sizeLine/\Vals xs its.toList
noncomputable def dR (K:Zrk) (H:Hp) (a:Addr) (xs:List V):Prop :=
 Rd H a (.tup xs) \/
  ∃ (o:Obj) (its:Array Value) (n:Nat),K.lookup a=some o/\o.cls=.type "tuple" /\ o.data=.seq its n/\its.size<=sizeLine/\Vals xs its.toList
noncomputable def MR:Value->Option V
 | .none=>some .non
 | .bool b=>some (.bl b)
 | .int i _=>some (.int i)
 | .str x _=>some (.str x)
 | .bytes b _=>some (.byt b)
 | .float b _=>some (.flt b)
 | .ref a=>some (.ref a)
 | .type n=>some (.ty n)
 | _=>none
theorem bu.abs {x:V}{u:Value} (r:bu x u):MR u=some x:=by
 cases x with
 | non=>cases r;rfl
 | bl _=>cases r;rfl
 | int _=>obtain ⟨t,rfl⟩:=r;rfl
 | str _=>obtain ⟨t,rfl⟩:=r;rfl
 | byt _=>obtain ⟨t,rfl⟩:=r;rfl
 | flt _=>obtain ⟨t,rfl⟩:=r;rfl
 | ref _=>cases r;rfl
 | ty _=>cases r;rfl
theorem bu.inj {x y:V}{u:Value} (r:bu x u) (q:bu y u):x=y:=Option.some.inj (r.abs.symm.trans q.abs)
theorem Vals.inj:∀ {xs ys:List V}{us:List Value},Vals xs us->Vals ys us->xs=ys
 | _,_,_,.nil,.nil=>rfl
 | _,_,_,.cons r t,.cons r' t'=>by rw [r.inj r',Vals.inj t t']
section
variable {X:Cx}{pins:List (Addr × Obj)}{σ:St}{H:Hp}{s:Shared}{a:Addr}{xs ys:List V}
theorem bY.of {K:Zrk} (h:H a=some (.lst xs)):bY K H a xs:=.inl (.inl h)
theorem dR.of {K:Zrk} (h:H a=some (.tup xs)):dR K H a xs:=.inl (.inl h)
theorem Inv.list (I:Inv X pins σ H s) (h:bY X.K H a xs):∃ its:List Value,Vals xs its/\PlainL s.heap a its.toArray/\xs.length<=sizeLine:=by
 rcases h with h | ⟨o,its,n,hk,hc,hd,hs,hz,r⟩
 ·obtain ⟨z,its,n,r,e⟩:=h.ok I.aF
  exact ⟨its,r,⟨_,n,e,rfl,rfl,rfl⟩,z⟩
 ·refine ⟨its.toList,r,⟨o,n,I.hV a o hk,hc,hd,by simpa using hs⟩,?_⟩
  have e:=r.length
  simp only [ZtU] at e
  omega
theorem Inv.tuple (I:Inv X pins σ H s) (h:dR X.K H a xs):∃ its:List Value,Vals xs its/\IsTup s.heap a its.toArray/\xs.length<=sizeLine:=by
 rcases h with h | ⟨o,its,n,hk,hc,hs,hz,r⟩
 ·obtain ⟨z,its,r,p⟩:=h.ok I.aF
  exact ⟨its,r,p,z⟩
 ·refine ⟨its.toList,r,⟨o,I.hV a o hk,hc,n,by simpa using hs⟩,?_⟩
  have e:=r.length
  simp only [ZtU] at e
  omega
theorem Inv.oP (I:Inv X pins σ H s) (h:bY X.K H a xs) (h':bY X.K H a ys):xs=ys:=by
 obtain ⟨its,r,⟨o,n,e,_,_,d⟩,_⟩:=I.list h
 obtain ⟨its',r',⟨o',n',e',_,_,d'⟩,_⟩:=I.list h'
 rw [e] at e';cases e'
 rw [d] at d'
 injection d' with d1 _
 have:its=its':=by simpa using congrArg Array.toList d1
 subst this
 exact r.inj r'
theorem Inv.mX (I:Inv X pins σ H s) (h:dR X.K H a xs) (h':dR X.K H a ys):xs=ys:=by
 obtain ⟨its,r,⟨o,e,_,n,d⟩,_⟩:=I.tuple h
 obtain ⟨its',r',⟨o',e',_,n',d'⟩,_⟩:=I.tuple h'
 rw [e] at e';cases e'
 rw [d] at d'
 injection d' with d1 _
 have:its=its':=by simpa using congrArg Array.toList d1
 subst this
 exact r.inj r'
end
noncomputable abbrev Cx.iI (X:Cx) (E:Value->Shared->Prop):Cx:={ X with xe:=E }
noncomputable abbrev Cx.qh (X:Cx):Cx:=X.iI fun _ _=>False
theorem Cx.Ok.iI {X:Cx} (ok:X.Ok) (E:Value->Shared->Prop):(X.iI E).Ok :=
 ⟨ok.mod,ok.kind,ok.glob,ok.blt,ok.above,ok.inj,ok.has,ok.rZ,ok.hd,ok.frames,ok.xU,ok.D9,ok.bs,ok.lU,ok.jP,ok.ku,ok.eL,ok.pk⟩
theorem Cx.Ok.unwish {X:Cx}{E:Value->Shared->Prop} (ok:(X.iI E).Ok):X.Ok :=
 ⟨ok.mod,ok.kind,ok.glob,ok.blt,ok.above,ok.inj,ok.has,ok.rZ,ok.hd,ok.frames,ok.xU,ok.D9,ok.bs,ok.lU,ok.jP,ok.ku,ok.eL,ok.pk⟩
section
variable {X:Cx}{pins:List (Addr × Obj)}{σ:St}{H:Hp}{s:Shared}{E:Value->Shared->Prop}
theorem Inv.iI (I:Inv X pins σ H s) (E:Value->Shared->Prop):Inv (X.iI E) pins σ H s:=⟨I.ok.iI E,I.os,I.bare,I.base,I.loc,I.cell,I.free,I.dv,I.pin,I.aF,I.len⟩
theorem Inv.unwish (I:Inv (X.iI E) pins σ H s):Inv X pins σ H s:=⟨I.ok.unwish,I.os,I.bare,I.base,I.loc,I.cell,I.free,I.dv,I.pin,I.aF,I.len⟩
theorem SP.unwish {D:Ends}{f:Flow}{s':Shared} (h:SP (X.iI E) pins D f s'):SP X pins D f s':=by
 cases f with
 | next=>obtain ⟨σ',H',I,q⟩:=h;exact ⟨σ',H',I.unwish,q⟩
 | brk=>obtain ⟨σ',H',I,q⟩:=h;exact ⟨σ',H',I.unwish,q⟩
 | cont=>obtain ⟨σ',H',I,q⟩:=h;exact ⟨σ',H',I.unwish,q⟩
 | ret u=>obtain ⟨v,σ',H',I,r,q⟩:=h;exact ⟨v,σ',H',I.unwish,r,q⟩
theorem jl.qh {st:List Stmt}{t:TS} (h:jl X.qh st t):jl X st t:=fun pins s σ H D I hw =>
 wpAny_mono (h pins s σ H D (I.iI _) hw) (fun _ _ q=>q.unwish) fun _ _ z=>False.elim z
end
section
variable {X:Cx}{st:Stmt}{rest:List Stmt}{t u:TS}{e:Expr}{te:TE}{pos:Pos}
noncomputable def dI:TS:=fun D σ H=>D.nx σ H
noncomputable def aD (t u:TS):TS:=fun D σ H=>t { D with nx:=u D } σ H
theorem d5:jl X [] dI:=fun _ _ σ H _ I h=>wpAny_execs_nil ⟨σ,H,I,h⟩
theorem aG (h1:PS X st t) (h2:jl X rest u):jl X (st :: rest) (aD t u):=by
 intro pins s σ H D I h
 refine wpAny_execs_cons (aS (h1 pins s σ H { D with nx:=u D } I h) fun f s1 q=>?_)
 cases f with
 | next =>
  obtain ⟨σ',H',I',q⟩:=q
  exact h2 pins s1 σ' H' D I' q
 | ret v=>exact q
 | brk=>exact q
 | cont=>exact q
theorem aI (h1:PS X st t):jl X [st] t:=by
 intro pins s σ H D I h
 refine wpAny_execs_cons (aS (h1 pins s σ H D I h) fun f s1 q=>?_)
 cases f with
 | next=>exact wpAny_execs_nil q
 | ret v=>exact q
 | brk=>exact q
 | cont=>exact q
theorem Inv.quiet {pins:List (Addr × Obj)}{σ:St}{H:Hp}{s:Shared} (I:Inv X pins σ H s):interactive X.env=false:=by simp [interactive,I.ok.kind]
noncomputable def fW (te:TE):TS:=fun D σ H=>te σ H fun _ H1=>D.nx σ H1
theorem gB (he:PE X e te) (hs:swapsWith e none pos.line X.env=pure false:=by rfl):PS X (.Expr e pos) (fW te):=by
 intro pins s σ H D I h
 exact wpAny_Expr_any (aS (he pins s σ H _ I h) fun v s1 ⟨x,H1,I1,r1,q1⟩=>⟨σ,H1,I1,q1⟩) I.quiet hs
noncomputable def cn (te:TE):TS:=fun D σ H=>te σ H D.rt
theorem cG (he:PE X e te):PS X (.Return (some e) pos) (cn te):=by
 intro pins s σ H D I h
 exact wpAny_Return_some (aS (he pins s σ H _ I h) fun v s1 ⟨x,H1,I1,r1,q1⟩=>⟨x,σ,H1,I1,r1,q1⟩)
noncomputable def JV:TS:=fun D _ H=>D.rt .non H
theorem XG:PS X (.Return none pos) JV:=fun _ _ σ H _ I h=>wpAny_Return_none ⟨.non,σ,H,I,rfl,h⟩
noncomputable def cQ (c:TT) (t u:TS):TS:=fun D σ H=>c σ H fun b H1=>if b=true then t D σ H1 else u D σ H1
theorem da {c:Expr}{a b:List Stmt}{tc:TT} (hc:PT X c tc) (ha:jl X a t) (hb:jl X b u):PS X (.If c a b pos) (cQ tc t u):=by
 intro pins s σ H D I h
 refine wpAny_If (aS (hc pins s σ H _ I h) fun d s1 ⟨H1,I1,q1⟩=>?_)
 cases d with
 | true=>exact ha pins s1 σ H1 D I1 q1
 | false=>exact hb pins s1 σ H1 D I1 q1
end
noncomputable abbrev TG:=V->St->Hp->(St->Hp->Prop)->Prop
noncomputable abbrev yT:=List V->St->Hp->(St->Hp->Prop)->Prop
noncomputable def PG (X:Cx) (target:Expr) (t:TG):Prop :=
 ∀ (pins:List (Addr × Obj)) (s:Shared) (σ:St) (H:Hp) (v:V) (u:Value) (Q:St->Hp->Prop),Inv X pins σ H s->bu v u->t v σ H Q ->
  wpAny (model X.prog X.w) X.A (assign target X.env u) (fun _ s'=>∃ σ' H',Inv X pins σ' H' s'/\Q σ' H') X.xe s
noncomputable def Fs (X:Cx) (ts:List Expr) (t:yT):Prop :=
 ∀ (pins:List (Addr × Obj)) (s:Shared) (σ:St) (H:Hp) (vs:List V) (us:List Value) (Q:St->Hp->Prop),Inv X pins σ H s->Vals vs us->t vs σ H Q ->
  wpAny (model X.prog X.w) X.A (assignInOrder ((assignEach ts X.env).map (·.2)) us) (fun _ s'=>∃ σ' H',Inv X pins σ' H' s'/\Q σ' H') X.xe s
noncomputable abbrev wm:=V->V->V->Hp->(Hp->Prop)->Prop
noncomputable def uJ (X:Cx) (t:wm):Prop :=
 ∀ (pins:List (Addr × Obj)) (s:Shared) (σ:St) (H:Hp) (o i v:V) (ov iv u:Value) (Q:Hp->Prop),Inv X pins σ H s->bu o ov->bu i iv->bu v u->t o i v H Q ->
  wpAny (model X.prog X.w) X.A (setItem ov iv u) (fun _ s'=>∃ H',Inv X pins σ H' s'/\Q H') X.xe s
noncomputable abbrev Yd:=V->V->Hp->VK->Prop
noncomputable def X5 (X:Cx) (op:Operator) (t:Yd):Prop :=
 ∀ (pins:List (Addr × Obj)) (s:Shared) (σ:St) (H:Hp) (x y:V) (v u:Value) (Q:VK),Inv X pins σ H s->bu x v->bu y u->t x y H Q ->
  wpAny (model X.prog X.w) X.A (inplaceOp op v u) (EP X pins σ Q) X.xe s
section
variable {X:Cx}{pos:Pos}
noncomputable def aE (i:Nat):TG:=fun v σ H Q=>Q (σ.set i (some v)) H
theorem dP {i:Nat}{x:Str} (hN:X.N.Nodup) (hi:X.N[i]? = some x) (hx:Loc X.env.scope x) (hf:X.fn x=true\/X.env.scope.names.lookup x=some .local:=by first | exact .inl rfl | exact .inr rfl | assumption):PG X (.Name x pos) (aE i):=by
 intro pins s σ H v u Q I r h
 exact wpAny_assign_Name (ON I hN hi hx r (fun s' I'=>⟨_,H,I',h⟩) hf)
noncomputable def o9:yT:=fun vs σ H Q=>vs=[]/\Q σ H
noncomputable def rL (t:TG) (u:yT):yT:=fun vs σ H Q=>∃ v r,vs=v :: r/\t v σ H fun σ' H'=>u r σ' H' Q
theorem MT:Fs X [] o9:=by
 intro pins s σ H vs us Q I r h
 obtain ⟨e,h⟩:=h
 subst e
 cases r
 exact assignInOrder_nil ⟨σ,H,I,h⟩
theorem zv {e:Expr}{es:List Expr}{t:TG}{u:yT} (h1:PG X e t) (h2:Fs X es u)
  (hs:(assignEach (e :: es) X.env).map (·.2)=assign e X.env :: (assignEach es X.env).map (·.2):=by rfl):Fs X (e :: es) (rL t u):=by
 intro pins s σ H vs us Q I r h
 obtain ⟨v,vr,e1,h⟩:=h
 subst e1
 cases r with
 | cons r rr =>
  rw [hs]
  refine assignInOrder_cons (aS (h1 pins s σ H _ _ _ I r h) fun _ s1 ⟨σ1,H1,I1,q1⟩=>?_)
  exact h2 pins s1 σ1 H1 _ _ Q I1 rr q1
noncomputable def pj (K:Zrk) (n:Nat) (t:yT):TG:=fun v σ H Q=>∃ a xs,v=.ref a/\dR K H a xs/\xs.length=n/\t xs σ H Q
theorem M0 {es:List Expr}{k:Nat}{t:yT}{n:Nat} (hc:X.calm=true) (h:Fs X es t)
  (hn:(assignEach es X.env).length=n:=by rfl) (hst:(assignEach es X.env).findIdx? (·.1)=none:=by rfl):PG X (.Tuple es k pos) (pj X.K n t):=by
 intro pins s σ H v u Q I r hw
 obtain ⟨a,xs,e1,hq,hl,hw⟩:=hw
 subst e1
 cases r
 obtain ⟨its,rv,ht,hz⟩:=I.tuple hq
 refine assign_Tuple_tuple (I.ok.hd hc) ht (by simp [hn,<- hl,rv.length]) hst fun h' hx=>?_
 have I1:Inv X pins σ H { s with heap:=h' }:=I.kept (t':=s.toks) fun b o e=>hx b o (Ztu (Heap.lt_size e)) e
 exact h pins _ σ H xs _ Q I1 (by simpa using rv) hw
noncomputable def qW (to ti:TE) (t:wm):TG:=fun v σ H Q=>to σ H fun o H1=>ti σ H1 fun i H2=>t o i v H2 fun H3=>Q σ H3
theorem Ta {o i:Expr}{to ti:TE}{t:wm} (ho:PE X o to) (hi:PE X i ti) (hs:uJ X t)
  (ha:∀ v,assign (.Subscript o i pos) X.env v=(do
   let ov <- holding [v] (eval o X.env)
   let iv <- holding [v,ov] (eval i X.env)
   standAt pos
   holding [v,ov,iv] (setItem ov iv v)
   release [v,ov,iv] []):=by intro _;rfl):PG X (.Subscript o i pos) (qW to ti t):=by
 intro pins s σ H v u Q I r h
 rw [ha]
 refine wpAny_bind (wpAny_holding (aS (ho pins s σ H _ I h) fun ov s1 ⟨x,H1,I1,r1,q1⟩=>?_))
 refine wpAny_bind (wpAny_holding (aS (hi pins s1 σ H1 _ I1 q1) fun iv s2 ⟨y,H2,I2,r2,q2⟩=>?_))
 refine wpAny_bind (wpAny_standAt (wpAny_bind (wpAny_holding (aS (hs pins s2 σ H2 x y v ov iv u _ I2 r1 r2 r q2) fun _ s3 ⟨H3,I3,q3⟩=>?_))))
 exact wpAny_release ⟨σ,H3,I3,q3⟩
noncomputable def bb (te:TE) (g:TG):TS:=fun D σ H=>te σ H fun x H1=>g x σ H1 D.nx
theorem Hd {tg e:Expr}{te:TE}{g:TG} (he:PE X e te) (hg:PG X tg g) (hs:swapsWithSole [tg] e pos.line X.env=pure false:=by rfl) (hw:swappedStores [tg] e X.env=pure none:=by rfl)
  (h1:(assignEach [tg] X.env).map (·.2)=[assign tg X.env]:=by rfl):PS X (.Assign [tg] e pos) (bb te g):=by
 intro pins s σ H D I h
 refine wpAny_Assign_stores (aS (he pins s σ H _ I h) fun v s1 ⟨x,H1,I1,r1,q1⟩=>?_) hs hw
 rw [h1]
 exact aS (hg pins s1 σ H1 x v _ I1 r1 q1) fun _ s2 q=>q
theorem bI {i:Nat}{x:Str}{e:Expr}{te:TE}{pos':Pos} (hN:X.N.Nodup) (hi:X.N[i]? = some x) (hx:Loc X.env.scope x) (he:PE X e te) (hs:swapsWith e (some (.Name x pos')) pos.line X.env=pure false:=by rfl) (hf:X.fn x=true\/X.env.scope.names.lookup x=some .local:=by first | exact .inl rfl | exact .inr rfl | assumption) :
  PS X (.Assign [.Name x pos'] e pos) (bb te (aE i)):=by
 intro pins s σ H D I h
 refine wpAny_Assign_Name (aS (he pins s σ H _ I h) fun v s1 ⟨y,H1,I1,r1,q1⟩=>?_) hs
 exact ON I1 hN hi hx r1 (fun s2 I2=>⟨_,H1,I2,q1⟩) hf
end
section
variable {X:Cx}{pos:Pos}
noncomputable def wO (c:TT) (tb:TS):TS:=fun D σ H=>∃ W:Nat->St->Hp->Prop,(∃ m,W m σ H)/\∀ m σ H,W m σ H ->
 c σ H fun b H1=>if b=true then ∃ N:St->Hp->Prop,(∀ σ' H',N σ' H'->∃ m',m'<m/\W m' σ' H')/\tb { D with nx:=N,ct:=N,bk:=D.nx } σ H1 else D.nx σ H1
theorem Ma {c:Expr}{body:List Stmt}{tc:TT}{tb:TS} (hp:PassesOwn (model X.prog X.w) X.A X.env X.xe) (hc:PT X c tc) (hb:jl X body tb):PS X (.While c body [] pos) (wO tc tb):=by
 intro pins s σ H D I h
 obtain ⟨W,⟨m0,w0⟩,turn⟩:=h
 refine wpAny_While (codeAny_whileLoop (fun n s'=>∃ σ' H',Inv X pins σ' H' s'/\W n σ' H') ?_ m0 ⟨σ,H,I,w0⟩)
 rintro n s1 ⟨σ1,H1,I1,w1⟩
 refine wpAny_passesOwn hp (aS (hc pins s1 σ1 H1 _ I1 (turn n σ1 H1 w1)) fun b s2 ⟨H2,I2,q2⟩=>?_)
 cases b with
 | true =>
  obtain ⟨N,hN,q2⟩:=q2
  rw [if_pos rfl]
  refine wpAny_passesOwn hp (aS (hb pins s2 σ1 H2 _ I2 q2) fun f s3 q3=>?_)
  cases f with
  | next =>
   obtain ⟨σ3,H3,I3,n3⟩:=q3
   obtain ⟨m',hm,w3⟩:=hN σ3 H3 n3
   exact ⟨m',hm,σ3,H3,I3,w3⟩
  | cont =>
   obtain ⟨σ3,H3,I3,n3⟩:=q3
   obtain ⟨m',hm,w3⟩:=hN σ3 H3 n3
   exact ⟨m',hm,σ3,H3,I3,w3⟩
  | brk=>exact q3
  | ret v=>exact q3
 | false =>
  rw [if_neg Zt5]
  exact wpAny_execs_nil ⟨σ1,H2,I2,q2⟩
end
structure It where
 go:Nat->Hp->Prop
 lL:Nat->Hp->V->Hp->Prop
 stop:Nat->Hp->Prop
noncomputable def nE (X:Cx) (pins:List (Addr × Obj)) (H:Hp) (b:Addr):Prop :=
 H b=none/\b≠X.env.locals/\b ∉ X.fs/\(b∈X.ex\/X.s₀.heap.objs.size<=b)/\(∀ x c,X.env.cells.lookup x=some c->c≠b)/\∀ p∈X.pn ++ pins,p.1≠b
theorem Inv.qO {X:Cx}{pins:List (Addr × Obj)}{σ:St}{H H':Hp}{s:Shared}{b:Addr} (I:Inv X pins σ H s) (hb:s.heap.objs.size<=b) (hn:H' b=none):nE X pins H' b:=by
 refine ⟨hn,ZtA (Ztw I.lt hb),I.Iw hb,.inr (Ztv I.sz hb),fun x c e z=>?_,fun p hp z=>?_⟩
 ·obtain ⟨v,q⟩:=I.cell x c e
  exact absurd (Ztw q.lt (by rw [z];exact hb)) (Ztz _)
 ·exact absurd (Ztw (Heap.lt_size (I.pin p hp).1) (by rw [z];exact hb)) (Ztz _)
structure Turn (P:Program) (w:World) (K:Zrk) (tg:Expr) (J:It) (fp:List Addr) (it:Addr) (tn:Nat->Heap->Prop):Prop where
 mem:it∈fp
 obj:∀ i h,tn i h->∀ b∈fp,∃ o,h.get? b=some o/\∀ v,o.data≠.cell v
 keep:∀ i h h',tn i h->(∀ b∈fp,∀ o,h.get? b=some o->h'.get? b=some o)->tn i h'
 item:∀ (X:Cx),X.prog=P->X.w=w->X.K=K->X.calm=true->∀ (i:Nat) (pins:List (Addr × Obj)) (s:Shared) (σ:St) (H:Hp) (E:Value->Shared->Prop),Inv X pins σ H s->(∀ b∈fp,nE X pins H b)->tn i s.heap->J.go i H ->
  wpAny (model P w) X.A (pyNext (.ref it)) (fun r s1=>∃ u,r=some u /\
   wpAny (model P w) X.A (letOwnedTupleGo tg (.ref it) u) (fun _ s2=>∃ x H',Inv X pins σ H' s2/\bu x u/\J.lL i H x H'/\tn (i+1) s2.heap/\∀ b∈fp,H' b=none) E s1) E s
 done:∀ (X:Cx),X.prog=P->X.w=w->X.K=K->X.calm=true->∀ (i:Nat) (pins:List (Addr × Obj)) (s:Shared) (σ:St) (H:Hp) (E:Value->Shared->Prop),Inv X pins σ H s->(∀ b∈fp,nE X pins H b)->tn i s.heap->J.stop i H ->
  wpAny (model P w) X.A (pyNext (.ref it)) (fun r s1=>r=none/\Inv X pins σ H s1) E s
 self:∀ (A:Around) (i:Nat) (s:Shared) (Q:Value->Shared->Prop) (E:Value->Shared->Prop),tn i s.heap->Q (.ref it) s->wpAny (model P w) A (pyIter (.ref it)) Q E s
noncomputable abbrev TI:=St->Hp->(It->Hp->Prop)->Prop
noncomputable def K6 (X:Cx) (pins:List (Addr × Obj)) (σ:St) (tg:Expr) (R:It->Hp->Prop) (tI:Value) (s2:Shared):Prop :=
 ∃ (it:Addr) (fp:List Addr) (tn:Nat->Heap->Prop) (J:It) (H':Hp),tI=.ref it/\Inv X pins σ H' s2/\Turn X.prog X.w X.K tg J fp it tn/\tn 0 s2.heap/\(∀ b∈fp,nE X pins H' b)/\R J H'
noncomputable def PI (X:Cx) (tg iter:Expr) (wi:TI):Prop :=
 ∀ (pins:List (Addr × Obj)) (s:Shared) (σ:St) (H:Hp) (R:It->Hp->Prop),Inv X pins σ H s->wi σ H R ->
  wpAny (model X.prog X.w) X.A (eval iter X.env) (fun v s1=>wpAny (model X.prog X.w) X.A (pyIter v) (K6 X pins σ tg R) X.xe s1) X.xe s
theorem Gu {M:Model}{A:Around}{E:Value->Shared->Prop}{s:Shared}{tg:Expr}{it:Addr}{u:Value}{o:Obj}{n:String}{vs:Array Value}{Q:Unit->Shared->Prop} (ho:s.heap.get? it=some o) (hc:o.cls=.type n) (hd:o.data=.fields vs)
    (hn:["enumerate","zip","dict_itemiterator","dict_reverseitemiterator","odict_iterator","itertools.zip_longest","itertools.pairwise"].contains n=false) (hQ:Q () s):wpAny M A (letOwnedTupleGo tg (.ref it) u) Q E s:=by
  unfold letOwnedTupleGo
  cases tg <;> first
    | exact wpAny_pure hQ
    | (cases u <;> first
        | exact wpAny_pure hQ
        | (refine wpAny_bind (wpAny_load ho ?_)
           rw [hc,hd]
           show wpAny M A (if (["enumerate","zip","dict_itemiterator","dict_reverseitemiterator","odict_iterator","itertools.zip_longest","itertools.pairwise"].contains n && vs[0]? == some (rawInt _))=true then _ else _) Q E s
           rw [if_neg (by intro h;rw [hn,Bool.false_and] at h;cases h)]
           exact wpAny_pure hQ))
noncomputable def lD (K:Zrk) (a:Addr):It :=
 ⟨fun i H=>∃ xs x,bY K H a xs/\xs[i]? = some x,fun i H x H'=>H'=H/\∀ xs,bY K H a xs->xs[i]? = some x,fun i H=>∃ xs,bY K H a xs/\xs.length<=i⟩
noncomputable def sf (K:Zrk) (a:Addr):It :=
 ⟨fun i H=>∃ xs x,dR K H a xs/\xs[i]? = some x,fun i H x H'=>H'=H/\∀ xs,dR K H a xs->xs[i]? = some x,fun i H=>∃ xs,dR K H a xs/\xs.length<=i⟩
noncomputable def kU (lo:Int) (n:Nat):It:=⟨fun i _=>i<n,fun i H x H'=>H'=H/\x=.int (lo+i),fun i _=>n<=i⟩
theorem Uj {P:Program}{w:World}{K:Zrk}{tg:Expr} (a it:Addr):Turn P w K tg (lD K a) [it] it (fun i h=>h.IsListIter it a i) where
 mem:=by simp
 obj:=fun i h st b hb=>by
  have e:b=it:=by simpa using hb
  subst e
  obtain ⟨o,e,c,d⟩:=st
  exact ⟨o,e,fun v z=>by rw [d] at z;cases z⟩
 keep:=fun i h h' st k=>st.at fun o e=>k it (by simp) o e
 item:=by
  intro X hP hw hK hc i pins s σ H E I hf st hg
  subst hP hw hK
  obtain ⟨xs,x,hq,hx⟩:=hg
  obtain ⟨its,rv,p,hz⟩:=I.list hq
  obtain ⟨u,hu,ru⟩:=rv.get hx
  obtain ⟨f0,f1,f2,f3,f4,f5⟩:=hf it (by simp)
  refine wpAny_pyNext_list_item st p.isList (x:=u) (by simpa using hu) fun h' ao sb=>?_
  have I1:Inv X pins σ H { s with heap:=h' }:=I.turned (t':=s.toks) (fun b o hb e=>(sb.2 b hb).trans e) f0 f1 f3 f4 f5
  obtain ⟨o,e,c,d⟩:=id ao
  exact ⟨u,rfl,Gu (s:={ s with heap:=h' }) e c d (by decide) ⟨x,H,I1,ru,⟨rfl,fun ys hy=>by rw [I.oP hy hq];exact hx⟩,ao,fun b hb=>(hf b hb).1⟩⟩
 done:=by
  intro X hP hw hK hc i pins s σ H E I hf st hg
  subst hP hw hK
  obtain ⟨xs,hq,hx⟩:=hg
  obtain ⟨its,rv,p,hz⟩:=I.list hq
  obtain ⟨f0,f1,f2,f3,f4,f5⟩:=hf it (by simp)
  have hl:=rv.length
  exact wpAny_pyNext_list_end (I.ok.hd hc) st p.isList (by simp;omega) fun h' eb=>⟨rfl,I.turned (t':=s.toks) (fun b o hb e=>eb b o hb e) f0 f1 f3 f4 f5⟩
 self:=fun _ _ _ _ _ st h=>wpAny_pyIter_listiter st h
theorem Yz {P:Program}{w:World}{K:Zrk}{tg:Expr} (a it:Addr):Turn P w K tg (sf K a) [it] it (fun i h=>h.IsTupleIter it a i) where
 mem:=by simp
 obj:=fun i h st b hb=>by
  have e:b=it:=by simpa using hb
  subst e
  obtain ⟨o,e,c,d⟩:=st
  exact ⟨o,e,fun v z=>by rw [d] at z;cases z⟩
 keep:=fun i h h' st k=>st.at fun o e=>k it (by simp) o e
 item:=by
  intro X hP hw hK hc i pins s σ H E I hf st hg
  subst hP hw hK
  obtain ⟨xs,x,hq,hx⟩:=hg
  obtain ⟨its,rv,p,hz⟩:=I.tuple hq
  obtain ⟨u,hu,ru⟩:=rv.get hx
  obtain ⟨f0,f1,f2,f3,f4,f5⟩:=hf it (by simp)
  refine wpAny_pyNext_tuple_item st (show s.heap.IsTuple a its.toArray from p) (x:=u) (by simpa using hu) fun h' ao sb=>?_
  have I1:Inv X pins σ H { s with heap:=h' }:=I.turned (t':=s.toks) (fun b o hb e=>(sb.2 b hb).trans e) f0 f1 f3 f4 f5
  obtain ⟨o,e,c,d⟩:=id ao
  exact ⟨u,rfl,Gu (s:={ s with heap:=h' }) e c d (by decide) ⟨x,H,I1,ru,⟨rfl,fun ys hy=>by rw [I.mX hy hq];exact hx⟩,ao,fun b hb=>(hf b hb).1⟩⟩
 done:=by
  intro X hP hw hK hc i pins s σ H E I hf st hg
  subst hP hw hK
  obtain ⟨xs,hq,hx⟩:=hg
  obtain ⟨its,rv,p,hz⟩:=I.tuple hq
  obtain ⟨f0,f1,f2,f3,f4,f5⟩:=hf it (by simp)
  have hl:=rv.length
  exact wpAny_pyNext_tuple_end (I.ok.hd hc) st (show s.heap.IsTuple a its.toArray from p) (by simp;omega) fun h' eb=>⟨rfl,I.turned (t':=s.toks) (fun b o hb e=>eb b o hb e) f0 f1 f3 f4 f5⟩
 self:=fun _ _ _ _ _ st h=>wpAny_pyIter_tupleiter st h
theorem XC {P:Program}{w:World}{K:Zrk}{tg:Expr} (it:Addr) (lo:Int) (n:Nat):Turn P w K tg (kU lo n) [it] it (fun i h=>IsRangeIter h it (lo+(i:Nat) * 1) ((n:Int) - (i:Nat)) 1) where
 mem:=by simp
 obj:=fun i h st b hb=>by
  have e:b=it:=by simpa using hb
  subst e
  exact ⟨_,st,fun v z=>by
   have z':Data.fields _=Data.cell v:=z
   cases z'⟩
 keep:=fun i h h' st k=>k it (by simp) _ st
 item:=by
  intro X hP hw hK hc i pins s σ H E I hf st hg
  subst hP hw hK
  obtain ⟨f0,f1,f2,f3,f4,f5⟩:=hf it (by simp)
  have W:=Walks.range (prog:=X.prog) (w:=X.w) (I.ok.hd hc) it lo 1 n
  refine W.item i s _ _ hg st fun v h' tk hv ao kk=>?_
  obtain ⟨t,rfl⟩:=hv
  have I1:Inv X pins σ H { s with heap:=h',toks:=tk }:=I.turned (fun b o hb e=>kk b o (by simpa using hb) e) f0 f1 f3 f4 f5
  refine ⟨_,rfl,Gu (s:={ s with heap:=h',toks:=tk }) (n:="range_iterator") ao rfl rfl (by decide) ⟨.int (lo+i),H,I1,⟨t,?_⟩,⟨rfl,rfl⟩,ao,fun b hb=>(hf b hb).1⟩⟩
  rw [Int.mul_one]
 done:=by
  intro X hP hw hK hc i pins s σ H E I hf st hg
  subst hP hw hK
  obtain ⟨f0,f1,f2,f3,f4,f5⟩:=hf it (by simp)
  exact wpAny_pyNext_range_end (I.ok.hd hc) st (by have:n<=i:=hg;omega) fun h' eb=>⟨rfl,I.turned (t':=s.toks) (fun b o hb e=>eb b o hb e) f0 f1 f3 f4 f5⟩
 self:=fun _ _ _ _ _ st h=>wpAny_pyIter_rangeiter st h
section
variable {X:Cx}{tg:Expr}
noncomputable def jt (K:Zrk) (tl:TE):TI:=fun σ H R=>tl σ H fun x H1=>∃ a,x=.ref a/\(∃ xs,bY K H1 a xs)/\R (lD K a) H1
noncomputable def mx (K:Zrk) (tl:TE):TI:=fun σ H R=>tl σ H fun x H1=>∃ a,x=.ref a/\(∃ xs,dR K H1 a xs)/\R (sf K a) H1
theorem kM {l:Expr}{tl:TE} (hl:PE X l tl):PI X tg l (jt X.K tl):=by
 intro pins s σ H R I h
 refine aS (hl pins s σ H _ I h) fun v s1 ⟨x,H1,I1,r1,q1⟩=>?_
 obtain ⟨a,e,⟨xs,hq⟩,q⟩:=q1
 subst e
 cases r1
 obtain ⟨its,rv,p,hz⟩:=I1.list hq
 refine wpAny_pyIter_list p.isList ?_
 refine ⟨s1.heap.objs.size,[s1.heap.objs.size],_,_,H1,rfl,I1.kept (t':=s1.toks) fun b o e=>Heap.get?_push_of_some _ e,Uj a _,⟨_,Heap.get?_push_size _ rfl,rfl,rfl⟩,fun b hb=>?_,q⟩
 have e:b=s1.heap.objs.size:=by simpa using hb
 subst e
 exact I1.qO (Zts _) (I1.aF.fresh (Zts _))
theorem uB {l:Expr}{tl:TE} (hl:PE X l tl):PI X tg l (mx X.K tl):=by
 intro pins s σ H R I h
 refine aS (hl pins s σ H _ I h) fun v s1 ⟨x,H1,I1,r1,q1⟩=>?_
 obtain ⟨a,e,⟨xs,hq⟩,q⟩:=q1
 subst e
 cases r1
 obtain ⟨its,rv,p,hz⟩:=I1.tuple hq
 refine wpAny_pyIter_tuple (show s1.heap.IsTuple a its.toArray from p) ?_
 refine ⟨s1.heap.objs.size,[s1.heap.objs.size],_,_,H1,rfl,I1.kept (t':=s1.toks) fun b o e=>Heap.get?_push_of_some _ e,Yz a _,⟨_,Heap.get?_push_size _ rfl,rfl,rfl⟩,fun b hb=>?_,q⟩
 have e:b=s1.heap.objs.size:=by simpa using hb
 subst e
 exact I1.qO (Zts _) (I1.aF.fresh (Zts _))
theorem P5 {pins:List (Addr × Obj)}{σ:St}{H:Hp}{s:Shared}{R:It->Hp->Prop}{E:Value->Shared->Prop}{lo hi:Int}{t u v:Tok}{tk:Nat} (I:Inv X pins σ H s) (h1 : -(2 ^ 62)<=lo) (h2:lo<2 ^ 62) (h3 : -(2 ^ 62)<=hi) (h4:hi<2 ^ 62)
  (q:R (kU lo (hi - lo).toNat) H):wpAny (model X.prog X.w) X.A (pyIter (.ref s.heap.objs.size)) (K6 X pins σ tg R) E { s with heap:=s.heap.push { cls:=.type "range",data:=.fields #[.int lo t,.int hi u,.int 1 v] },toks:=tk }:=by
 refine wpAny_pyIter_range (IsRange.new ..) (small_one h1 h2 h3 h4) ?_
 have I1:Inv X pins σ H { s with heap:=s.heap.push { cls:=.type "range",data:=.fields #[.int lo t,.int hi u,.int 1 v] },toks:=tk }:=I.kept fun b o e=>Heap.get?_push_of_some _ e
 refine ⟨(s.heap.push { cls:=.type "range",data:=.fields #[.int lo t,.int hi u,.int 1 v] }).objs.size,[(s.heap.push { cls:=.type "range",data:=.fields #[.int lo t,.int hi u,.int 1 v] }).objs.size],_,_,H,rfl,
  I1.kept (t':=tk) fun b o e=>Heap.get?_push_of_some _ e,XC _ lo (hi - lo).toNat,?_,fun b hb=>?_,q⟩
 ·have e1:lo+((0:Nat):Int) * 1=lo:=by simp
  have e2:(((hi - lo).toNat:Nat):Int) - ((0:Nat):Int)=Builtin.Range.rangeSize lo hi 1:=by rw [rangeSize_one];split <;> omega
  show IsRangeIter _ _ (lo+((0:Nat):Int) * 1) ((((hi - lo).toNat:Nat):Int) - ((0:Nat):Int)) 1
  rw [e1,e2]
  exact Heap.get?_push_size _ rfl
 ·have e:b=(s.heap.push { cls:=.type "range",data:=.fields #[.int lo t,.int hi u,.int 1 v] }).objs.size:=by simpa using hb
  subst e
  exact I1.qO (Zts _) (I1.aF.fresh (Zts _))
noncomputable def jK (ta:TA):TI:=fun σ H R=>ta σ H fun vs H1=>∃ j:Int,vs=[.int j] /\ -(2 ^ 62)<=j/\j<2 ^ 62/\R (kU 0 j.toNat) H1
noncomputable def zw (ta:TA):TI:=fun σ H R=>ta σ H fun vs H1=>∃ i j:Int,vs=[.int i,.int j]/\(-(2 ^ 62)<=i/\i<2 ^ 62 /\ -(2 ^ 62)<=j/\j<2 ^ 62)/\R (kU i (j - i).toNat) H1
theorem lZ {a:Expr}{ta:TA}{p pos:Pos} (hg:Gl X "range") (hm:X.mg "range" = none) (ha:PA X [a] ta) (hs:starEach [a] X.env=[(false,eval a X.env)]:=by rfl):PI X tg (.Call (.Name "range" p) [a] [] pos) (jK ta):=by
 intro pins s σ H R I h
 refine Call_ (vQ I hg hm boot_range (PyProof.Rows.callWith_type1 (aS (ha pos pins s σ H _ I h) fun us s1 ⟨vs,H1,I1,r1,q1⟩=>?_) hs rfl))
 obtain ⟨j,e,q1,q2,q⟩:=q1
 subst e
 cases r1 with
 | cons r rr =>
  cases rr
  obtain ⟨t,rfl⟩:=r
  exact call_range_1 (P5 I1 (by omega) (by omega) q1 q2 (by simpa using q))
theorem J7 {a b:Expr}{ta:TA}{p pos:Pos} (hg:Gl X "range") (hm:X.mg "range" = none) (ha:PA X [a,b] ta) (hs:starEach [a,b] X.env=[(false,eval a X.env),(false,eval b X.env)]:=by rfl) (sC:starEach [b] X.env=[(false,eval b X.env)]:=by rfl) :
  PI X tg (.Call (.Name "range" p) [a,b] [] pos) (zw ta):=by
 intro pins s σ H R I h
 refine Call_ (vQ I hg hm boot_range (PyProof.Rows.callWith_type1 (aS (ha pos pins s σ H _ I h) fun us s1 ⟨vs,H1,I1,r1,q1⟩=>?_) (by rw [hs,sC]) (by rw [sC];rfl)))
 obtain ⟨i,j,e,⟨q1,q2,q3,q4⟩,q⟩:=q1
 subst e
 cases r1 with
 | cons r rr =>
  cases rr with
  | cons r' rr =>
   cases rr
   obtain ⟨t,rfl⟩:=r
   obtain ⟨t',rfl⟩:=r'
   exact call_range_2 (P5 I1 q1 q2 q3 q4 q)
noncomputable def eD (wi:TI) (g:TG) (tb:TS):TS:=fun D σ H=>wi σ H fun J H1=>∃ W:Nat->Nat->St->Hp->Prop,(∃ m,W 0 m σ H1)/\∀ i m σ H,W i m σ H ->
 (J.stop i H/\D.nx σ H)\/(J.go i H/\∃ N:St->Hp->Prop,(∀ σ' H',N σ' H'->∃ m',m'<m/\W (i+1) m' σ' H')/\∀ x H',J.lL i H x H'->g x σ H' fun σ2 H2=>tb { D with nx:=N,ct:=N,bk:=D.nx } σ2 H2)
noncomputable def Ek (fp:List Addr) (h:Heap):List (Addr × Obj):=fp.filterMap fun b=>(h.get? b).map fun o=>(b,o)
theorem Hg {fp:List Addr}{h:Heap}{b:Addr}{o:Obj} (hb:b∈fp) (e:h.get? b=some o):(b,o)∈Ek fp h:=List.mem_filterMap.mpr ⟨b,hb,by rw [e];rfl⟩
theorem Xy {fp:List Addr}{h:Heap}{p:Addr × Obj} (hp:p∈Ek fp h):p.1∈fp/\h.get? p.1=some p.2:=by
 obtain ⟨b,hb,e⟩:=List.mem_filterMap.mp hp
 cases q:h.get? b with
 | none=>rw [q] at e;cases e
 | some o =>
  rw [q] at e
  have e':(b,o)=p:=Option.some.inj e
  subst e'
  exact ⟨hb,q⟩
theorem Inv.pinned {pins:List (Addr × Obj)}{σ:St}{H:Hp}{s:Shared}{fp:List Addr} (I:Inv X pins σ H s) (hf:∀ b∈fp,nE X pins H b) (ho:∀ b∈fp,∃ o,s.heap.get? b=some o/\∀ v,o.data≠.cell v):Inv X (pins ++ Ek fp s.heap) σ H s :=
 I.lT fun p hp=>(Zr3.mp hp).elim (fun z=>I.pin p (Zsm _ z)) fun z=>by
  obtain ⟨hb,e⟩:=Xy z
  obtain ⟨f0,f1,f2,_⟩:=hf p.1 hb
  obtain ⟨o,e',d⟩:=ho p.1 hb
  rw [e] at e';cases e'
  exact ⟨e,f0,f1,f2,d⟩
theorem Inv.gd {pins pl:List (Addr × Obj)}{σ:St}{H:Hp}{s:Shared} (I:Inv X (pins ++ pl) σ H s):Inv X pins σ H s:=I.lT fun p hp=>I.pin p (Zsm _ (Zsp _ hp))
theorem iY {iter:Expr}{body:List Stmt}{wi:TI}{g:TG}{tb:TS}{pos:Pos} (hp:PassesOwn (model X.prog X.w) X.A X.env X.xe) (hc:X.calm=true) (hi:PI X tg iter wi) (hg:PG X tg g) (hb:jl X body tb)
  (hs:∀ x,foldedSetIterable iter X.env x=pure x:=by intro _;rfl):PS X (.For tg iter body [] pos) (eD wi g tb):=by
 intro pins s σ H D I h
 refine wpAny_For (aS (hi pins s σ H _ I h) fun v s1 h1=>aS h1 fun tI s2 h2=>?_) hs
 obtain ⟨it,fp,tn,J,H2,e,I2,T,st2,f2,W,⟨m0,w0⟩,turn⟩:=h2
 subst e
 -- what stays true of oF iterator's objects through oF loop
 have stat:∀ {H':Hp},(∀ b∈fp,H' b=none)->∀ b∈fp,nE X pins H' b:=fun hn b hb=>⟨hn b hb,(f2 b hb).2⟩
 refine codeAny_forLoop_any (fun n s'=>∃ i σ' H',Inv X pins σ' H' s'/\tn i s'.heap/\(∀ b∈fp,H' b=none)/\W i n σ' H') ?_ m0 ⟨0,σ,H2,I2,st2,fun b hb=>(f2 b hb).1,w0⟩
 rintro n s3 ⟨i,σ3,H3,I3,bR,fr3,w3⟩
 rcases turn i n σ3 H3 w3 with ⟨stop,qn⟩ | ⟨go,N,hN,step⟩
 ·refine wpAny_passesOwn hp (aS (T.done X rfl rfl rfl hc i pins s3 σ3 H3 X.xe I3 (stat fr3) bR stop) fun r s4 ⟨hr,I4⟩=>?_)
  subst hr
  exact wpAny_execs_nil ⟨σ3,H3,I4,qn⟩
 ·refine wpAny_passesOwn hp (aS (T.item X rfl rfl rfl hc i pins s3 σ3 H3 X.xe I3 (stat fr3) bR go) fun r s4 ⟨u,hr,h4⟩=>?_)
  subst hr
  refine wpAny_passesOwn hp (aS h4 fun _ s5 ⟨x,H5,I5,r5,y5,st5,fr5⟩=>?_)
  have I5':=I5.pinned (stat fr5) (T.obj _ _ st5)
  refine wpAny_passesOwn hp (aS (hg _ s5 σ3 H5 x u _ I5' r5 (step x H5 y5)) fun _ s6 ⟨σ6,H6,I6,q6⟩=>?_)
  refine wpAny_passesOwn hp (aS (hb _ s6 σ6 H6 _ I6 q6) fun f s7 q7=>?_)
  have again:∀ {σ7:St}{H7:Hp},Inv X (pins ++ Ek fp s5.heap) σ7 H7 s7->N σ7 H7->∃ m,m<n/\∃ i σ' H',Inv X pins σ' H' s7/\tn i s7.heap/\(∀ b∈fp,H' b=none)/\W i m σ' H':=fun {σ7 H7} I7 n7=>by
   obtain ⟨m',hm,w7⟩:=hN σ7 H7 n7
   refine ⟨m',hm,i+1,σ7,H7,I7.gd,T.keep _ _ _ st5 fun b hb o e=>(I7.pin (b,o) (Zsm _ (Zsm _ (Hg hb e)))).1,fun b hb=>?_,w7⟩
   obtain ⟨o,e,d⟩:=T.obj _ _ st5 b hb
   exact (I7.pin (b,o) (Zsm _ (Zsm _ (Hg hb e)))).2.1
  cases f with
  | next=>obtain ⟨σ7,H7,I7,n7⟩:=q7;exact again I7 n7
  | cont=>obtain ⟨σ7,H7,I7,n7⟩:=q7;exact again I7 n7
  | brk=>obtain ⟨σ7,H7,I7,q7⟩:=q7;exact ⟨σ7,H7,I7.gd,q7⟩
  | ret v=>obtain ⟨x7,σ7,H7,I7,r7,q7⟩:=q7;exact ⟨x7,σ7,H7,I7.gd,r7,q7⟩
end
theorem Zpl {K:Zrk}{a:Addr}{xs:List V}{g:TG}{tb:TS}{D:Ends}{σ:St}{H:Hp} (Pv:Nat->St->Hp->Prop) (h0:Pv 0 σ H) (hl:∀ i σ H,i<=xs.length->Pv i σ H->bY K H a xs)
  (hs:∀ i x σ H,xs[i]? = some x->Pv i σ H->g x σ H fun σ2 H2=>tb { D with nx:=Pv (i+1),ct:=Pv (i+1),bk:=D.nx } σ2 H2) (hd:∀ σ H,Pv xs.length σ H->D.nx σ H) :
  ∃ W:Nat->Nat->St->Hp->Prop,(∃ m,W 0 m σ H)/\∀ i m σ H,W i m σ H ->
   ((lD K a).stop i H/\D.nx σ H)\/((lD K a).go i H/\∃ N:St->Hp->Prop,(∀ σ' H',N σ' H'->∃ m',m'<m/\W (i+1) m' σ' H')/\∀ x H',(lD K a).lL i H x H'->g x σ H' fun σ2 H2=>tb { D with nx:=N,ct:=N,bk:=D.nx } σ2 H2):=by
 refine ⟨fun i m σ H=>m=xs.length - i/\i<=xs.length/\Pv i σ H,⟨xs.length,by simp,Ztx _,h0⟩,?_⟩
 rintro i m σ H ⟨rfl,hi,p⟩
 have q:=hl i σ H hi p
 by_cases aX:i<xs.length
 ·refine .inr ⟨⟨xs,xs[i],q,by simp [aX]⟩,Pv (i+1),fun σ' H' p'=>⟨xs.length - (i+1),by omega,rfl,aX,p'⟩,fun x H' y=>?_⟩
  obtain ⟨e,y⟩:=y
  subst e
  exact hs i x σ _ (y xs q) p
 ·have e:i=xs.length:=by omega
  subst e
  exact .inl ⟨⟨xs,q,Zts _⟩,hd σ H p⟩
theorem ZqY {K:Zrk}{a:Addr}{xs:List V}{g:TG}{tb:TS}{D:Ends}{σ:St}{H:Hp} (Pv:Nat->St->Hp->Prop) (h0:Pv 0 σ H) (hl:∀ i σ H,i<=xs.length->Pv i σ H->dR K H a xs)
  (hs:∀ i x σ H,xs[i]? = some x->Pv i σ H->g x σ H fun σ2 H2=>tb { D with nx:=Pv (i+1),ct:=Pv (i+1),bk:=D.nx } σ2 H2) (hd:∀ σ H,Pv xs.length σ H->D.nx σ H) :
  ∃ W:Nat->Nat->St->Hp->Prop,(∃ m,W 0 m σ H)/\∀ i m σ H,W i m σ H ->
   ((sf K a).stop i H/\D.nx σ H)\/((sf K a).go i H/\∃ N:St->Hp->Prop,(∀ σ' H',N σ' H'->∃ m',m'<m/\W (i+1) m' σ' H')/\∀ x H',(sf K a).lL i H x H'->g x σ H' fun σ2 H2=>tb { D with nx:=N,ct:=N,bk:=D.nx } σ2 H2):=by
 refine ⟨fun i m σ H=>m=xs.length - i/\i<=xs.length/\Pv i σ H,⟨xs.length,by simp,Ztx _,h0⟩,?_⟩
 rintro i m σ H ⟨rfl,hi,p⟩
 have q:=hl i σ H hi p
 by_cases aX:i<xs.length
 ·refine .inr ⟨⟨xs,xs[i],q,by simp [aX]⟩,Pv (i+1),fun σ' H' p'=>⟨xs.length - (i+1),by omega,rfl,aX,p'⟩,fun x H' y=>?_⟩
  obtain ⟨e,y⟩:=y
  subst e
  exact hs i x σ _ (y xs q) p
 ·have e:i=xs.length:=by omega
  subst e
  exact .inl ⟨⟨xs,q,Zts _⟩,hd σ H p⟩
theorem ZnW {lo:Int}{n:Nat}{g:TG}{tb:TS}{D:Ends}{σ:St}{H:Hp} (Pv:Nat->St->Hp->Prop) (h0:Pv 0 σ H)
  (hs:∀ i σ H,i<n->Pv i σ H->g (.int (lo+i)) σ H fun σ2 H2=>tb { D with nx:=Pv (i+1),ct:=Pv (i+1),bk:=D.nx } σ2 H2) (hd:∀ σ H,Pv n σ H->D.nx σ H) :
  ∃ W:Nat->Nat->St->Hp->Prop,(∃ m,W 0 m σ H)/\∀ i m σ H,W i m σ H ->
   ((kU lo n).stop i H/\D.nx σ H)\/((kU lo n).go i H/\∃ N:St->Hp->Prop,(∀ σ' H',N σ' H'->∃ m',m'<m/\W (i+1) m' σ' H')/\∀ x H',(kU lo n).lL i H x H'->g x σ H' fun σ2 H2=>tb { D with nx:=N,ct:=N,bk:=D.nx } σ2 H2):=by
 refine ⟨fun i m σ H=>m=n - i/\i<=n/\Pv i σ H,⟨n,by simp,Ztx _,h0⟩,?_⟩
 rintro i m σ H ⟨rfl,hi,p⟩
 by_cases aX:i<n
 ·refine .inr ⟨aX,Pv (i+1),fun σ' H' p'=>⟨n - (i+1),by omega,rfl,aX,p'⟩,fun x H' y=>?_⟩
  obtain ⟨e,y⟩:=y
  subst e y
  exact hs i σ _ aX p
 ·have e:i=n:=by omega
  subst e
  exact .inl ⟨Zts _,hd σ H p⟩
noncomputable abbrev R2:=V->V->Hp->VK->Prop
noncomputable def cy (X:Cx) (f:Value->Value->Sem Value) (r:R2):Prop :=
 ∀ (pins:List (Addr × Obj)) (s:Shared) (σ:St) (H:Hp) (x y:V) (v u:Value) (Q:VK),Inv X pins σ H s->bu x v->bu y u->r x y H Q ->
  wpAny (model X.prog X.w) X.A (f v u) (EP X pins σ Q) X.xe s
noncomputable def Ft (X:Cx) (f:Value->Sem Value) (r:V->Hp->VK->Prop):Prop :=
 ∀ (pins:List (Addr × Obj)) (s:Shared) (σ:St) (H:Hp) (x:V) (v:Value) (Q:VK),Inv X pins σ H s->bu x v->r x H Q ->
  wpAny (model X.prog X.w) X.A (f v) (EP X pins σ Q) X.xe s
noncomputable def jO (X:Cx) (f:Value) (r:List V->Hp->VK->Prop):Prop :=
 ∀ (pins:List (Addr × Obj)) (s:Shared) (σ:St) (H:Hp) (xs:List V) (us:List Value) (Q:VK),Inv X pins σ H s->Vals xs us->r xs H Q ->
  wpAny (model X.prog X.w) X.A (call f us) (EP X pins σ Q) X.xe s
noncomputable def Ng (X:Cx) (r:V->Hp->(Bool->Hp->Prop)->Prop):Prop :=
 ∀ (pins:List (Addr × Obj)) (s:Shared) (σ:St) (H:Hp) (x:V) (v:Value) (Q:Bool->Hp->Prop),Inv X pins σ H s->bu x v->r x H Q ->
  wpAny (model X.prog X.w) X.A (truthy v) (TP X pins σ Q) X.xe s
noncomputable def ag (r:R2) (ta tb:TE):TE:=fun σ H Q=>ta σ H fun x H1=>tb σ H1 fun y H2=>r x y H2 Q
noncomputable def tu (r:V->Hp->VK->Prop) (ta:TE):TE:=fun σ H Q=>ta σ H fun x H1=>r x H1 Q
noncomputable def rI (C:Int->Int->Prop) (g:Int->Int->V):R2:=fun x y H Q=>∃ i j,x=.int i/\y=.int j/\C i j/\Q (g i j) H
noncomputable def pI (g:Int->Int->V):R2:=fun x y H Q=>∃ i j,x=.int i/\y=.int j/\Q (g i j) H
noncomputable def rU (g:Int->V):V->Hp->VK->Prop:=fun x H Q=>∃ i,x=.int i/\Q (g i) H
section
variable {X:Cx}{a b c:Expr}{ta tb tc:TE}{pos:Pos}
theorem ux (ha:PE X a ta) (hb:PE X b tb) {pins:List (Addr × Obj)}{s:Shared}{σ:St}{H:Hp}{R:V->V->Hp->Prop} (I:Inv X pins σ H s)
  (h:ta σ H fun x H1=>tb σ H1 fun y H2=>R x y H2) {Q:Value->Shared->Prop}{f:Value->Value->Sem Value}
  (hf:∀ v u s2 x y H2,Inv X pins σ H2 s2->bu x v->bu y u->R x y H2->wpAny (model X.prog X.w) X.A (f v u) Q X.xe s2) :
  wpAny (model X.prog X.w) X.A (eval a X.env) (fun v s₁=>wpAny (model X.prog X.w) X.A (eval b X.env) (fun u s₂=>wpAny (model X.prog X.w) X.A (f v u) Q X.xe s₂) X.xe s₁) X.xe s:=by
 refine aS (ha pins s σ H _ I h) fun v s1 ⟨x,H1,I1,r1,q1⟩=>?_
 refine aS (hb pins s1 σ H1 _ I1 q1) fun u s2 ⟨y,H2,I2,r2,q2⟩=>?_
 exact hf v u s2 x y H2 I2 r1 r2 q2
theorem aB {op:Operator}{r:R2} (ho:cy X (binaryOp op) r) (ha:PE X a ta) (hb:PE X b tb):PE X (.BinOp a op b pos) (ag r ta tb):=by
 intro pins s σ H Q I h
 exact wpAny_BinOp (ux ha hb I h fun v u s2 x y H2 I2 rx ry q=>ho pins s2 σ H2 x y v u Q I2 rx ry q)
theorem zO {op:UnaryOp}{r:V->Hp->VK->Prop} (ho:Ft X (unaryOp op) r) (ha:PE X a ta):PE X (.UnaryOp op a pos) (tu r ta):=by
 intro pins s σ H Q I h
 exact UnaryOp_ (aS (ha pins s σ H _ I h) fun v s1 ⟨x,H1,I1,r1,q1⟩=>ho pins s1 σ H1 x v Q I1 r1 q1)
theorem Lm {f:Value->Value->Sem Value}{C:Int->Int->Prop}{g:Int->Int->Int}
  (rule:∀ (i j:Int) (t u:Tok) (s:Shared) (Q:Value->Shared->Prop) (E:Value->Shared->Prop),C i j->Q (.int (g i j) s.toks) { s with toks:=s.toks+1 }->wpAny (model X.prog X.w) X.A (f (.int i t) (.int j u)) Q E s) :
  cy X f (rI C fun i j=>.int (g i j)):=by
 intro pins s σ H x y v u Q I rx ry h
 obtain ⟨i,j,rfl,rfl,hc,q⟩:=h
 obtain ⟨t,rfl⟩:=rx
 obtain ⟨t',rfl⟩:=ry
 exact rule i j t t' s _ _ hc ⟨.int (g i j),H,I.tok _,⟨_,rfl⟩,q⟩
theorem vP {f:Value->Value->Sem Value}{g:Int->Int->Int}
  (rule:∀ (i j:Int) (t u:Tok) (s:Shared) (Q:Value->Shared->Prop) (E:Value->Shared->Prop),Q (.int (g i j) s.toks) { s with toks:=s.toks+1 }->wpAny (model X.prog X.w) X.A (f (.int i t) (.int j u)) Q E s) :
  cy X f (pI fun i j=>.int (g i j)):=by
 intro pins s σ H x y v u Q I rx ry h
 obtain ⟨i,j,rfl,rfl,q⟩:=h
 obtain ⟨t,rfl⟩:=rx
 obtain ⟨t',rfl⟩:=ry
 exact rule i j t t' s _ _ ⟨.int (g i j),H,I.tok _,⟨_,rfl⟩,q⟩
theorem qu {f:Value->Value->Sem Value}{g:Int->Int->Bool}
  (rule:∀ (i j:Int) (t u:Tok) (s:Shared) (Q:Value->Shared->Prop) (E:Value->Shared->Prop),Q (.bool (g i j)) s->wpAny (model X.prog X.w) X.A (f (.int i t) (.int j u)) Q E s) :
  cy X f (pI fun i j=>.bl (g i j)):=by
 intro pins s σ H x y v u Q I rx ry h
 obtain ⟨i,j,rfl,rfl,q⟩:=h
 obtain ⟨t,rfl⟩:=rx
 obtain ⟨t',rfl⟩:=ry
 exact rule i j t t' s _ _ ⟨.bl (g i j),H,I,rfl,q⟩
noncomputable def eA (i j:Int):Prop:=0<j/\j<1073741824
noncomputable def rb (i j:Int):Prop:=(-(2 ^ 64)<i/\i<2 ^ 64)\/(-(2 ^ 64)<j/\j<2 ^ 64)
theorem rb.ok {i j:Int} (h:rb i j):IntMulOk i j:=by
 rcases h with ⟨h1,h2⟩ | ⟨h1,h2⟩
 ·exact .of_left (intBits_le_64 h1 h2)
 ·exact .of_right (intBits_le_64 h1 h2)
theorem uA:cy X (binaryOp .Add) (pI fun i j=>.int (i+j)):=vP fun _ _ _ _ _ _ _ q=>add_int q
theorem wk:cy X (binaryOp .Sub) (pI fun i j=>.int (i - j)):=vP fun _ _ _ _ _ _ _ q=>sub_int q
theorem ud:cy X (binaryOp .Mult) (rI rb fun i j=>.int (i * j)):=Lm fun _ _ _ _ _ _ _ hc q=>mul_int q hc.ok
theorem ZqI:cy X (binaryOp .FloorDiv) (rI eA fun i j=>.int (i / j)):=Lm fun i j _ _ _ _ _ hc q=>by
 have h1:(0:Int)<j:=hc.1
 have h2:j<1073741824:=hc.2
 exact floordiv_int (by omega) (by rw [Int.fdiv_eq_ediv_of_nonneg i (by omega)];exact q) (.inl (PyProof.noPylong_small (by omega)))
theorem yI:cy X (binaryOp .Mod) (rI (fun _ j=>0<j) fun i j=>.int (i % j)):=Lm fun i j _ _ _ _ _ hc q=>by
 have h1:(0:Int)<j:=hc
 exact mod_int' (by omega) (by rw [Int.fmod_eq_emod_of_nonneg i (by omega)];exact q)
theorem t6:cy X (binaryOp .BitXor) (pI fun i j=>.int (Builtin.bitXor i j)):=vP fun _ _ _ _ _ _ _ q=>xor_int q
theorem TZ {f:Value->Sem Value}{g:Int->Int}
  (rule:∀ (i:Int) (t:Tok) (s:Shared) (Q:Value->Shared->Prop) (E:Value->Shared->Prop),Q (.int (g i) s.toks) { s with toks:=s.toks+1 }->wpAny (model X.prog X.w) X.A (f (.int i t)) Q E s) :
  Ft X f (rU fun i=>.int (g i)):=by
 intro pins s σ H x v Q I rx h
 obtain ⟨i,rfl,q⟩:=h
 obtain ⟨t,rfl⟩:=rx
 exact rule i t s _ _ ⟨.int (g i),H,I.tok _,⟨_,rfl⟩,q⟩
theorem tL:Ft X (unaryOp .USub) (rU fun i=>.int (-i)):=TZ fun _ _ _ _ _ q=>neg_int q
end
noncomputable def Fp:V->V->Bool
 | .non,.non=>true | .non,.int _=>true | .int _,.non=>true | .non,.bl _=>true | .bl _,.non=>true | .non,.str _=>true | .str _,.non=>true
 | .int _,.int _=>true | .bl _,.bl _=>true | .str _,.str _=>true | .byt _,.byt _=>true
 | .int _,.str _=>true | .str _,.int _=>true | .bl _,.str _=>true | .str _,.bl _=>true
 | _,_=>false
noncomputable def NC:R2:=fun x y H Q=>Fp x y=true/\Q (.bl (decide (x=y))) H
noncomputable def N4:R2:=fun x y H Q=>Fp x y=true/\Q (.bl (!decide (x=y))) H
theorem Tc {i j:Int}:decide (V.int i=V.int j)=(i == j):=by
 rw [Zt8]
 simp
theorem Of {i j:Bool}:decide (V.bl i=V.bl j)=(i == j):=by
 rw [Zt8]
 simp
theorem QB {i j:Str}:decide (V.str i=V.str j)=(i == j):=by
 rw [Zt8]
 simp
theorem Sl {i j:Array UInt8}:decide (V.byt i=V.byt j)=(i.toList == j.toList):=by
 rw [Zt8]
 cases i
 cases j
 simp
section
variable {X:Cx}{a b c:Expr}{ta tb tc:TE}{pos:Pos}
theorem fv {pins:List (Addr × Obj)}{σ:St}{H:Hp}{s:Shared}{Q:VK}{k k':Bool} (I:Inv X pins σ H s) (q:Q (.bl k) H) (e:k=k'):EP X pins σ Q (.bool k') s:=by
 subst e
 exact ⟨.bl k,H,I,rfl,q⟩
theorem Ee:cy X (compareOp .Eq) NC:=by
 intro pins s σ H x y v u Q I rx ry h
 obtain ⟨hs,q⟩:=h
 cases x with
 | non =>
  cases rx
  cases y with
  | non=>cases ry;exact PySem.EqNone.eq_none_none (fv I q (by simp))
  | bl j=>cases ry;exact PySem.EqNone.eq_none_bool (fv I q (by simp))
  | int j=>obtain ⟨t',rfl⟩:=ry;exact PySem.EqNone.eq_none_int (fv I q (by simp))
  | str j=>obtain ⟨t',rfl⟩:=ry;exact PySem.EqNone.eq_none_str (fv I q (by simp))
  | _=>exact absurd (show false=true from hs) Zt5
 | bl i =>
  cases rx
  cases y with
  | non=>cases ry;exact PySem.EqNone.eq_bool_none (fv I q (by simp))
  | bl j=>cases ry;exact eq_bool (fv I q Of)
  | str j=>obtain ⟨t',rfl⟩:=ry;exact PySem.EqMixed.eq_bool_str (fv I q (by simp))
  | _=>exact absurd (show false=true from hs) Zt5
 | int i =>
  obtain ⟨t,rfl⟩:=rx
  cases y with
  | non=>cases ry;exact PySem.EqNone.eq_int_none (fv I q (by simp))
  | int j=>obtain ⟨t',rfl⟩:=ry;exact eq_int (fv I q Tc)
  | str j=>obtain ⟨t',rfl⟩:=ry;exact PySem.EqMixed.eq_int_str (fv I q (by simp))
  | _=>exact absurd (show false=true from hs) Zt5
 | str i =>
  obtain ⟨t,rfl⟩:=rx
  cases y with
  | non=>cases ry;exact PySem.EqNone.eq_str_none (fv I q (by simp))
  | bl j=>cases ry;exact PySem.EqMixed.eq_str_bool (fv I q (by simp))
  | int j=>obtain ⟨t',rfl⟩:=ry;exact PySem.EqMixed.eq_str_int (fv I q (by simp))
  | str j=>obtain ⟨t',rfl⟩:=ry;exact eq_str (fv I q QB)
  | _=>exact absurd (show false=true from hs) Zt5
 | byt i =>
  obtain ⟨t,rfl⟩:=rx
  cases y with
  | byt j=>obtain ⟨t',rfl⟩:=ry;exact PySem.W.eq_bytes (fv I q Sl)
  | _=>exact absurd (show false=true from hs) Zt5
 | _=>cases y <;> exact absurd (show false=true from hs) Zt5
theorem DD:cy X (compareOp .NotEq) N4:=by
 intro pins s σ H x y v u Q I rx ry h
 obtain ⟨hs,q⟩:=h
 cases x with
 | non =>
  cases rx
  cases y with
  | non=>cases ry;exact PySem.EqNone.ne_none_none (fv I q (by simp))
  | bl j=>cases ry;exact PySem.EqNone.ne_none_bool (fv I q (by simp))
  | int j=>obtain ⟨t',rfl⟩:=ry;exact PySem.EqNone.ne_none_int (fv I q (by simp))
  | str j=>obtain ⟨t',rfl⟩:=ry;exact PySem.EqNone.ne_none_str (fv I q (by simp))
  | _=>exact absurd (show false=true from hs) Zt5
 | bl i =>
  cases rx
  cases y with
  | non=>cases ry;exact PySem.EqNone.ne_bool_none (fv I q (by simp))
  | bl j=>cases ry;exact ne_bool (fv I q (congrArg not Of))
  | str j=>obtain ⟨t',rfl⟩:=ry;exact PySem.EqMixed.ne_bool_str (fv I q (by simp))
  | _=>exact absurd (show false=true from hs) Zt5
 | int i =>
  obtain ⟨t,rfl⟩:=rx
  cases y with
  | non=>cases ry;exact PySem.EqNone.ne_int_none (fv I q (by simp))
  | int j=>obtain ⟨t',rfl⟩:=ry;exact ne_int (fv I q (congrArg not Tc))
  | str j=>obtain ⟨t',rfl⟩:=ry;exact PySem.EqMixed.ne_int_str (fv I q (by simp))
  | _=>exact absurd (show false=true from hs) Zt5
 | str i =>
  obtain ⟨t,rfl⟩:=rx
  cases y with
  | non=>cases ry;exact PySem.EqNone.ne_str_none (fv I q (by simp))
  | bl j=>cases ry;exact PySem.EqMixed.ne_str_bool (fv I q (by simp))
  | int j=>obtain ⟨t',rfl⟩:=ry;exact PySem.EqMixed.ne_str_int (fv I q (by simp))
  | str j=>obtain ⟨t',rfl⟩:=ry;exact ne_str (fv I q (congrArg not QB))
  | _=>exact absurd (show false=true from hs) Zt5
 | byt i =>
  obtain ⟨t,rfl⟩:=rx
  cases y with
  | byt j=>obtain ⟨t',rfl⟩:=ry;exact PySem.W.ne_bytes (fv I q (congrArg not Sl))
  | _=>exact absurd (show false=true from hs) Zt5
 | _=>cases y <;> exact absurd (show false=true from hs) Zt5
theorem Bp:cy X (compareOp .Lt) (pI fun i j=>.bl (decide (i<j))):=qu fun _ _ _ _ _ _ _ q=>lt_int q
theorem Dz:cy X (compareOp .LtE) (pI fun i j=>.bl (decide (i<=j))):=qu fun _ _ _ _ _ _ _ q=>le_int q
theorem Fx:cy X (compareOp .Gt) (pI fun i j=>.bl (decide (j<i))):=qu fun _ _ _ _ _ _ _ q=>gt_int q
theorem Dm:cy X (compareOp .GtE) (pI fun i j=>.bl (decide (j<=i))):=qu fun _ _ _ _ _ _ _ q=>ge_int q
theorem UO:cy X (compareOp .In) (fun x y H Q=>∃ i j,x=.str i/\y=.str j/\Q (.bl (!(Builtin.Str.occurrences j i 0 j.length 1).isEmpty)) H):=by
 intro pins s σ H x y v u Q I rx ry h
 obtain ⟨i,j,rfl,rfl,q⟩:=h
 obtain ⟨t,rfl⟩:=rx
 obtain ⟨t',rfl⟩:=ry
 exact in_str (fv I q rfl)
theorem yP:cy X (compareOp .Is) (fun x y H Q=>y=.non/\Q (.bl (decide (x=.non))) H):=by
 intro pins s σ H x y v u Q I rx ry h
 obtain ⟨rfl,q⟩:=h
 cases ry
 refine is_none_gen (fv I q ?_)
 cases x <;> first
  | (cases rx;rfl)
  | (obtain ⟨t,rfl⟩:=rx;rfl)
theorem U4:cy X (compareOp .IsNot) (fun x y H Q=>y=.non/\Q (.bl (!decide (x=.non))) H):=by
 intro pins s σ H x y v u Q I rx ry h
 obtain ⟨rfl,q⟩:=h
 cases ry
 refine isnot_none_gen (fv I q ?_)
 cases x <;> first
  | (cases rx;rfl)
  | (obtain ⟨t,rfl⟩:=rx;rfl)
theorem cw (b:Expr) {op:CmpOp} (h:op≠.In:=by decide) (h2:op≠.NotIn:=by decide):behindInMarks op b=false:=by
 have e1:(op == CmpOp.In)=false:=by cases op <;> first | rfl | exact absurd rfl h
 have e2:(op == CmpOp.NotIn)=false:=by cases op <;> first | rfl | exact absurd rfl h2
 cases b <;> simp [behindInMarks,e1,e2]
theorem Jf {op:CmpOp}{r:R2} (ho:cy X (compareOp op) r) (ha:PE X a ta) (hb:PE X b tb) (hm:behindInMarks op b=false):PE X (.Compare a [op] [b] pos) (ag r ta tb):=by
 intro pins s σ H Q I h
 exact wpAny_Compare1 (ux ha hb I h fun v u s2 x y H2 I2 rx ry q=>ho pins s2 σ H2 x y v u Q I2 rx ry q) hm
noncomputable def Gz (t:TE):TT:=fun σ H Q=>t σ H fun x H'=>∃ k,x=.bl k/\Q k H'
theorem V8 {op:CmpOp}{r:R2} (ho:cy X (compareOp op) r) (ha:PE X a ta) (hb:PE X b tb) (hm:behindInMarks op b=false):PT X (.Compare a [op] [b] pos) (Gz (ag r ta tb)):=by
 intro pins s σ H Q I h
 refine wpAny_isTrue_Compare1 (aS (ha pins s σ H _ I h) fun v s1 ⟨x,H1,I1,r1,q1⟩=>aS (hb pins s1 σ H1 _ I1 q1) fun u s2 ⟨y,H2,I2,r2,q2⟩ =>
  aS (ho pins s2 σ H2 x y v u _ I2 r1 r2 q2) fun c s3 ⟨z,H3,I3,r3,k,e,q3⟩=>?_) hm
 subst e
 cases r3
 exact wpAny_truthy_bool ⟨H3,I3,q3⟩
noncomputable def Gr (r r':R2) (ta tb tc:TE):TE:=fun σ H Q=>ta σ H fun x H1=>tb σ H1 fun y H2=>r x y H2 fun z H3=>∃ k,z=.bl k /\
 (if k=true then tc σ H3 fun w' H4=>r' y w' H4 Q else Q (.bl false) H3)
theorem W6 {op lr:CmpOp}{r r':R2} (ho:cy X (compareOp op) r) (ki:cy X (compareOp lr) r') (ha:PE X a ta) (hb:PE X b tb) (hc:PE X c tc)
  (hm:lastMarks [op,lr] [b,c]=false:=by with_unfolding_all rfl):PE X (.Compare a [op,lr] [b,c] pos) (Gr r r' ta tb tc):=by
 intro pins s σ H Q I h
 refine Compare_chain (aS (ha pins s σ H _ I h) fun v s1 ⟨x,H1,I1,r1,q1⟩=>chain_link (aS (hb pins s1 σ H1 _ I1 q1) fun u s2 ⟨y,H2,I2,r2,q2⟩ =>
  aS (ho pins s2 σ H2 x y v u _ I2 r1 r2 q2) fun d s3 ⟨z,H3,I3,r3,k,e,q3⟩=>?_)) hm
 subst e
 cases r3
 refine wpAny_truthy_bool ?_
 cases k with
 | false=>exact ite_ff ⟨.bl false,H3,I3,rfl,q3⟩
 | true=>exact ite_tt (chain_last (aS (hc pins s3 σ H3 _ I3 q3) fun w' s4 ⟨z',H4,I4,r4,q4⟩=>ki pins s4 σ H4 y z' u w' Q I4 r2 r4 q4))
theorem XE {op lr:CmpOp}{r r':R2} (ho:cy X (compareOp op) r) (ki:cy X (compareOp lr) r') (ha:PE X a ta) (hb:PE X b tb) (hc:PE X c tc)
  (hm:lastMarks [op,lr] [b,c]=false:=by with_unfolding_all rfl):PT X (.Compare a [op,lr] [b,c] pos) (Gz (Gr r r' ta tb tc)):=by
 intro pins s σ H Q I h
 refine isTrue_chain (aS (ha pins s σ H _ I h) fun v s1 ⟨x,H1,I1,r1,q1⟩=>test_link (aS (hb pins s1 σ H1 _ I1 q1) fun u s2 ⟨y,H2,I2,r2,q2⟩ =>
  aS (ho pins s2 σ H2 x y v u _ I2 r1 r2 q2) fun d s3 ⟨z,H3,I3,r3,k,e,q3⟩=>?_)) hm
 subst e
 cases r3
 refine wpAny_truthy_bool ?_
 cases k with
 | false =>
  obtain ⟨k',e',q'⟩:=q3
  cases e'
  exact ite_ff ⟨H3,I3,q'⟩
 | true =>
  refine ite_tt (test_last (aS (hc pins s3 σ H3 _ I3 q3) fun w' s4 ⟨z',H4,I4,r4,q4⟩=>aS (ki pins s4 σ H4 y z' u w' _ I4 r2 r4 q4) fun d' s5 ⟨z2,H5,I5,r5,k2,e2,q5⟩=>?_))
  subst e2
  cases r5
  exact wpAny_truthy_bool ⟨H5,I5,q5⟩
noncomputable def pb (K:Zrk) (x:V) (H:Hp) (k:Bool):Prop :=
 match x with
 | .non=>k=false
 | .bl b=>k=b
 | .int i=>k=(i != 0)
 | .str y=>y.length<=sizeLine/\k=((y.length:Int) != 0)
 | .byt y=>y.size<=sizeLine/\k=((y.size:Int) != 0)
 | .ref p=>(∃ xs,bY K H p xs/\k = !xs.isEmpty)\/(∃ xs,dR K H p xs/\k = !xs.isEmpty)\/∃ kvs,H p=some (.dK kvs)/\k = !kvs.isEmpty
 | _=>False
theorem Zmm {κ:Type}{kvs:List (κ × V)}{vs:List (κ × Value)} (r:KV kvs vs):(!vs.isEmpty) = !kvs.isEmpty:=by
 cases r <;> rfl
theorem OQ {xs:List V}{its:List Value} (r:Vals xs its):(!its.toArray.isEmpty) = !xs.isEmpty:=by
 cases r <;> simp
theorem vS:(sizeLine:Nat)<2 ^ 63:=by rw [sizeLine_eq];decide
theorem tU:Ng X (fun x H Q=>∃ k,pb X.K x H k/\Q k H):=by
 intro pins s σ H x v Q I rx h
 obtain ⟨k,e,q⟩:=h
 have hl:=vS
 have hs:sizeLine=16777216:=sizeLine_eq
 cases x with
 | non =>
  cases rx
  have e':k=false:=e
  subst e'
  exact truthy_none ⟨H,I,q⟩
 | bl b =>
  cases rx
  have e':k=b:=e
  subst e'
  exact wpAny_truthy_bool ⟨H,I,q⟩
 | int i =>
  obtain ⟨t,rfl⟩:=rx
  have e':k=(i != 0):=e
  subst e'
  exact PySem.P.truthy_int ⟨H,I,q⟩
 | str y =>
  obtain ⟨t,rfl⟩:=rx
  obtain ⟨hy,e'⟩:y.length<=sizeLine/\k=((y.length:Int) != 0):=e
  subst e'
  exact PySem.P.truthy_str (by omega) ⟨H,I.tok _,q⟩
 | byt y =>
  obtain ⟨t,rfl⟩:=rx
  obtain ⟨hy,e'⟩:y.size<=sizeLine/\k=((y.size:Int) != 0):=e
  subst e'
  exact PySem.W.truthy_bytes (by omega) ⟨H,I.tok _,q⟩
 | ref p =>
  cases rx
  have e':(∃ xs,bY X.K H p xs/\k = !xs.isEmpty)\/(∃ xs,dR X.K H p xs/\k = !xs.isEmpty)\/∃ kvs,H p=some (.dK kvs)/\k = !kvs.isEmpty:=e
  rcases e' with ⟨xs,hx,e'⟩ | ⟨xs,hx,e'⟩ | ⟨kvs,hx,e'⟩
  ·subst e'
   obtain ⟨its,r,pl,hz⟩:=I.list hx
   have hlen:=r.length
   exact wpAny_truthy_list pl.isList (by simp only [Zr9];omega) ⟨H,I.tok _,by rw [OQ r];exact q⟩
  ·subst e'
   obtain ⟨its,r,pl,hz⟩:=I.tuple hx
   have hlen:=r.length
   exact truthy_tuple pl (by simp only [Zr9];omega) ⟨H,I.tok _,by rw [OQ r];exact q⟩
  ·subst e'
   obtain ⟨hz,hS,vs,r,m⟩:kvs.length<=sizeLine/\(p == sysModules)=false/\∃ vs,KV kvs vs/\s.heap.DictOf (iP X.prog X.w) p vs:=I.aF p _ hx
   have hlen:kvs.length=vs.length:=Paired.length r
   exact wpAny_truthy_dict hS m (by omega) ⟨H,I.tok _,by rw [Zmm r];exact q⟩
 | _=>exact (show False from e).elim
theorem T3 (ha:PE X a ta) (he:∀ whole,isTrue a X.env whole=(do let v <- whole;standAt a.pos;holding [v] (truthy v))) :
  PT X a (fun σ H Q=>ta σ H fun x H'=>∃ k,pb X.K x H' k/\Q k H'):=by
 intro pins s σ H Q I h
 exact isTrue_plain (aS (ha pins s σ H _ I h) fun v s1 ⟨x,H1,I1,r1,q1⟩=>tU pins s1 σ H1 x v Q I1 r1 q1) (he _)
theorem Ys:cy X (binaryOp .Add) (fun x y H Q=>∃ i j,x=.str i/\y=.str j/\i.length+j.length<=sizeLine/\Q (.str (i ++ j)) H):=by
 intro pins s σ H x y v u Q I rx ry h
 obtain ⟨i,j,rfl,rfl,hz,q⟩:=h
 obtain ⟨t,rfl⟩:=rx
 obtain ⟨t',rfl⟩:=ry
 exact add_str (fun t' tk=>⟨.str (i ++ j),H,I.tok _,⟨_,rfl⟩,q⟩) hz
theorem pY {x:V}{us:List Value} (r:Vals [x] us):∃ u,us=[u]/\bu x u:=by
 cases r with
 | cons r1 r2=>cases r2;exact ⟨_,rfl,r1⟩
theorem HG {x y:V}{us:List Value} (r:Vals [x,y] us):∃ u w',us=[u,w']/\bu x u/\bu y w':=by
 cases r with
 | cons r1 r2 =>
  cases r2 with
  | cons r3 r4=>cases r4;exact ⟨_,_,rfl,r1,r3⟩
theorem TB (hc:X.calm=true):jO X (.builtin "max") (fun xs H Q=>∃ i j,xs=[.int i,.int j]/\Q (.int (if j > i then j else i)) H):=by
 intro pins s σ H xs us Q I r h
 obtain ⟨i,j,rfl,q⟩:=h
 obtain ⟨u,w',rfl,⟨t,rfl⟩,⟨t',rfl⟩⟩:=HG r
 refine max_two_ints (I.ok.hd hc) fun h' tk k=>⟨_,H,I.kept k,?_,q⟩
 by_cases hj:j > i
 ·rw [if_pos hj,if_pos hj];exact ⟨_,rfl⟩
 ·rw [if_neg hj,if_neg hj];exact ⟨_,rfl⟩
theorem Zoh (hc:X.calm=true):jO X (.builtin "min") (fun xs H Q=>∃ i j,xs=[.int i,.int j]/\Q (.int (if j<i then j else i)) H):=by
 intro pins s σ H xs us Q I r h
 obtain ⟨i,j,rfl,q⟩:=h
 obtain ⟨u,w',rfl,⟨t,rfl⟩,⟨t',rfl⟩⟩:=HG r
 refine min_two_ints (I.ok.hd hc) fun h' tk k=>⟨_,H,I.kept k,?_,q⟩
 by_cases hj:j<i
 ·rw [if_pos hj,if_pos hj];exact ⟨_,rfl⟩
 ·rw [if_neg hj,if_neg hj];exact ⟨_,rfl⟩
theorem Sj:jO X (.type "int") (fun xs H Q=>(∃ i,xs=[.int i]/\Q (.int i) H)\/∃ k,xs=[.bl k]/\Q (.int (if k then 1 else 0)) H):=by
 intro pins s σ H xs us Q I r h
 rcases h with ⟨i,rfl,q⟩ | ⟨k,rfl,q⟩
 ·obtain ⟨u,rfl,t,rfl⟩:=pY r
  exact call_int_int ⟨.int i,H,I,⟨_,rfl⟩,q⟩
 ·obtain ⟨u,rfl,r1⟩:=pY r
  cases r1
  exact call_int_bool ⟨.int (if k then 1 else 0),H,I.tok _,⟨_,rfl⟩,q⟩
end
structure lA (h:Heap) (x dx C:Addr) (mA:Str->Option Value):Prop where
 obj:h.get? x=some (Zru C dx)
 ns:h.Ns1 dx mA
 ne:dx≠x
theorem Z0 {h:Heap}{dx:Addr}{mA:Str->Option Value} (n:h.Ns1 dx mA):∃ od,h.get? dx=some od/\∀ name,Zrz name od=some (mA name):=by
 obtain ⟨o,es,ep,ho,hd,hk,_,hm⟩:=n
 refine ⟨o,ho,fun name=>?_⟩
 have e:=hm name
 unfold nsFind findBy at e
 rw [<- Array.find?_toList] at e
 unfold Zrz
 rw [hd]
 dsimp only
 split
 ·rename_i y q
  rw [q] at e
  exact congrArg some e
 ·rename_i q
  rw [q] at e
  have a:es.toList.any (·.refKey)=false:=by
   rw [List.any_eq_false]
   intro y hy
   obtain ⟨z,t,hkey⟩:=hk y (Array.mem_toList_iff.mp hy)
   simp [DictEntry.refKey,hkey]
  have a':¬ es.toList.any (·.refKey)=true:=by rw [a];exact Zt5
  rw [if_neg a']
  exact congrArg some e
theorem lA.look {h:Heap}{x dx C:Addr}{mA:Str->Option Value} (I:lA h x dx C mA):∃ od,PySem.W.InstAt h x (Zru C dx) C (some od)/\∀ name,Zrz name od=some (mA name) :=
 let ⟨od,ho,hl⟩:=Z0 I.ns
 ⟨od,⟨I.obj,rfl,rfl,ho⟩,hl⟩
section
variable {prog:Program}{w:World}{A:Around}{E:Value->Shared->Prop}{s:Shared}{K:Zrk}{x dx C f:Addr}{mA:Str->Option Value}{name:Str}{v:Value}
theorem ZqW {expr:Bool}{Q:Value->Shared->Prop} (X:K.In s.heap) (I:lA s.heap x dx C mA) (hg:Zrx K C name=true) (hh:ZrA K C=true)
  (ha:Zrl K (.ref C) name=some none) (hv:mA name=some v) (K5:PySem.W.handedIn v=true) (h:Q v { s with toks:=s.toks+1 }) :
  wpAny (model prog w) A (getAttr (.ref x) name expr) Q E s:=by
 obtain ⟨od,J,hl⟩:=I.look
 exact PySem.W.get_value X J (ZrD hg).1 (PySem.W.findObj_own hh ha rfl (by rw [hl,hv])) K5 h
theorem Y2 {pl:Sem Bool}{Q:Value × List Value->Shared->Prop} (X:K.In s.heap) (I:lA s.heap x dx C mA) (hg:Zrx K C name=true)
  (hf:Zrl K (.ref C) name=some (some (.ref f))) (ht:ZrB K (.ref f)=true) (hv:mA name=none) (h:Q (.ref f,[.ref x]) s) :
  wpAny (model prog w) A (getMethod (.ref x) name pl) Q E s:=by
 obtain ⟨od,J,hl⟩:=I.look
 exact PySem.W.method_fn X J (ZrD hg).1 (ZrD hg).2 hf (beq_iff_eq.mp ht) (by show (Zrz name od).map (·.isSome)=some false;rw [hl,hv];rfl) h
theorem YV {ns:List Str}{Q:Unit->Shared->Prop} (X:K.In s.heap) (I:lA s.heap x dx C mA)
  (hs:Zrl K (.ref C) "__setattr__" = some (some (.builtin "object.__setattr__"))) (hp:ZrE K C=true) (ht:ZrF K C name=some none) (hh:ZrA K C=true)
  (hw:PySem.Within mA ns) (hsz:ns.length<=sizeLine)
  (h:∀ h',lA h' x dx C (fun y=>if y=name then some v else mA y)->Heap.SameBut dx s.heap h'->Q () { s with heap:=h',toks:=s.toks+2 }) :
  wpAny (model prog w) A (setAttr (.ref x) name v) Q E s:=by
 obtain ⟨od,J,hl⟩:=I.look
 refine PySem.W.set_plain X J hs (PySem.W.osa_open (s:={ s with toks:=s.toks+1 }) (r:=none) X J hp ht fun b=>?_)
 obtain ⟨cd,hc,hd'⟩:=PySem.W.any_some hh
 have hx:s.heap.get? x=some ⟨.ref C,some dx,.plain,#[]⟩:=I.obj
 refine wpAny_bind (wpAny_pure (wpAny_bind (wpAny_bind (wpAny_loadPart hx (wpAny_bind (PySem.W.Looks.here (s:={ s with toks:=s.toks+1 }) (PySem.W.looks_clsIn X hc) ?_))))))
 rw [hd']
 refine wpAny_pure (a:=some dx) (wpAny_bind (wpAny_pure (wpAny_bind ?_)))
 refine wpAny_nsSet1 (s:={ s with toks:=s.toks+1 }) I.ns fun h' ph sC=>?_
 obtain ⟨oD,esD,epD,hoD,hdD,hcD⟩:=ph.count (PySem.Within.cons name v hw)
 refine wpAny_bind (wpAny_lookBehind hoD (by rw [hdD];exact pastItsLine_dict (Ztv hcD (by rw [Zsf];omega))) ?_)
 exact wpAny_pure (h _ ⟨(sC.2 _ (Ne.symm I.ne)).trans I.obj,ph,I.ne⟩ sC)
theorem Zo5 {R:Result->Shared->Prop}{vs:List Value}{kw:List (Str × Value)} (X:K.In s.heap) (hm:ZrG K C=true)
  (hi:Zrl K (.ref C) "__init__" = some (some (.ref f))) (hf:PySem.W.typeIn K (.ref f)=some (.type "function"))
  (h:codeAny (model prog w) (A.under (.builtin "type.__call__" ⟨.ref C :: vs,kw⟩)) (.call (.ref f) ⟨.ref (s.heap.objs.size+1) :: vs,kw⟩) (PySem.W.InitBack (s.heap.objs.size+1) R)
   { s with heap:=(s.heap.push Zrr).push (Zru C s.heap.objs.size) }) :
  codeAny (model prog w) A (.call (.ref C) ⟨vs,kw⟩) R s:=by
 obtain ⟨hh,g,d,t,os⟩:=s
 exact PySem.W.make_core (PySem.W.makes_of X hm) (PySem.W.looks_findIn X hi) (fun self=>PySem.W.bind_fn X self hf) (.inl rfl) h
end
noncomputable def fF (f:Str) (v:V):List (Str × V)->List (Str × V)
 | []=>[(f,v)]
 | (g,x) :: r=>if g=f then (g,v) :: r else (g,x) :: fF f v r
theorem Sh (f g:Str) (v:V):∀ fs:List (Str × V),(fF f v fs).lookup g=if g=f then some v else fs.lookup g
 | []=>by
  show ZsH g [(f,v)]=_
  by_cases h:g=f
  ·have hb:(g == f)=true:=beq_iff_eq.mpr h
   simp only [ZsH,hb,if_pos h]
  ·have hb:(g == f)=false:=beq_eq_false_iff_ne.mpr h
   simp only [ZsH,hb,if_neg h]
 | (k,x) :: r=>by
  have ih:=Sh f g v r
  rw [show fF f v ((k,x) :: r)=(if k=f then (k,v) :: r else (k,x) :: fF f v r) from rfl]
  by_cases hk:k=f
  ·rw [if_pos hk]
   by_cases h:g=k
   ·have hb:(g == k)=true:=beq_iff_eq.mpr h
    simp only [ZsH,hb,if_pos (h.trans hk)]
   ·have hb:(g == k)=false:=beq_eq_false_iff_ne.mpr h
    simp only [ZsH,hb,if_neg (fun e:g=f=>h (e.trans hk.symm))]
  ·rw [if_neg hk]
   by_cases h:g=k
   ·have hb:(g == k)=true:=beq_iff_eq.mpr h
    simp only [ZsH,hb,if_neg (fun e:g=f=>hk (h.symm.trans e))]
   ·have hb:(g == k)=false:=beq_eq_false_iff_ne.mpr h
    simp only [ZsH,hb]
    exact ih
theorem HZ (f:Str) (v:V):∀ fs:List (Str × V),f∈(fF f v fs).map (·.1)/\∀ g,g∈fs.map (·.1)->g∈(fF f v fs).map (·.1)
 | []=>⟨by simp [fF],fun g h=>by simp at h⟩
 | (k,x) :: r=>by
  obtain ⟨i1,i2⟩:=HZ f v r
  rw [show fF f v ((k,x) :: r)=(if k=f then (k,v) :: r else (k,x) :: fF f v r) from rfl]
  by_cases hk:k=f
  ·rw [if_pos hk]
   subst hk
   exact ⟨by simp,fun g h=>by simpa using h⟩
  ·rw [if_neg hk]
   refine ⟨?_,fun g h=>?_⟩
   ·rw [Zsg]
    exact Zso _ i1
   ·rw [Zsg] at h ⊢
    rcases Zr7.mp h with e | e
    ·exact Zr7.mpr (.inl e)
    ·exact Zso _ (i2 g e)
theorem rO (f:Str) (v:V):∀ fs:List (Str × V),(fF f v fs).length<=fs.length+1
 | []=>by simp [fF]
 | (k,x) :: r=>by
  have ih:=rO f v r
  rw [show fF f v ((k,x) :: r)=(if k=f then (k,v) :: r else (k,x) :: fF f v r) from rfl]
  by_cases hk:k=f
  ·rw [if_pos hk,Zsf,Zsf];omega
  ·rw [if_neg hk,Zsf,Zsf];omega
theorem j6.some_of {v:V}{o:Option Value} (r:j6 (some v) o):∃ u,o=some u/\bu v u:=by
 cases o with
 | none=>exact (show False from r).elim
 | some u=>exact ⟨u,rfl,r⟩
theorem j6.none_of {o:Option Value} (r:j6 none o):o=none:=by
 cases o with
 | none=>rfl
 | some u=>exact (show False from r).elim
theorem WH {v:V}{u:Value} (r:bu v u):PySem.W.handedIn u=true:=by
 cases v with
 | non=>cases (show u=Value.none from r);rfl
 | bl b=>cases (show u=Value.bool b from r);rfl
 | int i=>obtain ⟨t,e⟩:=(show ∃ t,u=Value.int i t from r);cases e;rfl
 | str x=>obtain ⟨t,e⟩:=(show ∃ t,u=Value.str x t from r);cases e;rfl
 | byt b=>obtain ⟨t,e⟩:=(show ∃ t,u=Value.bytes b t from r);cases e;rfl
 | flt b=>obtain ⟨t,e⟩:=(show ∃ t,u=Value.float b t from r);cases e;rfl
 | ref a=>cases (show u=Value.ref a from r);rfl
 | ty n=>cases (show u=Value.type n from r);rfl
section
variable {P:Program}{w:World}{H H':Hp}{h h':Heap}{a C dx:Addr}{fs UD:List (Str × V)}
theorem G8 (aF:e7 P w H h) (e:H a=some (.ins C dx fs)):∃ mA,lA h a dx C mA/\(∀ f,j6 (fs.lookup f) (mA f))/\PySem.Within mA (fs.map (·.1))/\fs.length<=1000/\H dx=some (.own a):=by
 obtain ⟨d,z,ne,ob,mA,n,r,q⟩:=(show fz P w H h a (.ins C dx fs) from aF a _ e)
 exact ⟨mA,⟨ob,n,ne⟩,r,q,z,d⟩
end
structure mR (K:Zrk) (C:Addr):Prop where
 pg:Zrx K C Str.empty=true
 hd:ZrA K C=true
 po:ZrE K C=true
 sa:Zrl K (.ref C) "__setattr__" = some (some (.builtin "object.__setattr__"))
theorem mR.get {K:Zrk}{C:Addr} (c:mR K C) (f:Str):Zrx K C f=true:=c.pg
noncomputable def nL (K:Zrk) (C:Addr) (f:Str):Prop:=Zrl K (.ref C) f=some none
theorem nL.Ar {K:Zrk}{C:Addr}{f:Str} (n:nL K C f):ZrF K C f=some none:=by
 unfold ZrF
 rw [show Zrl K (.ref C) f=some none from n]
 rfl
structure Con (K:Zrk) (C:Addr) (f:Str) (v:V) (u:Value):Prop where
 at_:Zrl K (.ref C) f=some (some u)
 rel:bu v u
 get:ZrH K u "__get__" = some none
 cp:PySem.W.copiedNames.contains f=false
structure Meth (K:Zrk) (C:Addr) (m:Str) (f:Addr):Prop where
 at_:Zrl K (.ref C) m=some (some (.ref f))
 fn:ZrB K (.ref f)=true
 kp:Zrv K (.ref f)=true
section
variable {X:Cx}{pins:List (Addr × Obj)}{σ:St}{H:Hp}{s:Shared}{a C dx:Addr}{fs:List (Str × V)}{f:Str}{v:V}{A:Around}{E:Value->Shared->Prop}
theorem TK {b:Bool}{Q:Value->Shared->Prop} (I:Inv X pins σ H s) (e:H a=some (.ins C dx fs)) (c:mR X.K C) (n:nL X.K C f) (l:fs.lookup f=some v)
  (h:∀ u s',Inv X pins σ H s'->bu v u->Q u s'):wpAny (model X.prog X.w) A (getAttr (.ref a) f b) Q E s:=by
 obtain ⟨mA,O,r,_,_,_⟩:=G8 I.aF e
 obtain ⟨u,hu,ru⟩:=j6.some_of (v:=v) (o:=mA f) (by rw [<- l];exact r f)
 exact ZqW I.hV O (c.get f) c.hd n hu (WH ru) (h u _ (I.tok _) ru)
theorem Oc {m:Str}{g:Addr}{pl:Sem Bool}{Q:Value × List Value->Shared->Prop} (I:Inv X pins σ H s) (e:H a=some (.ins C dx fs)) (c:mR X.K C) (k:Meth X.K C m g) (l:fs.lookup m=none)
  (h:Q (.ref g,[.ref a]) s):wpAny (model X.prog X.w) A (getMethod (.ref a) m pl) Q E s:=by
 obtain ⟨mA,O,r,_,_,_⟩:=G8 I.aF e
 have hn:mA m=none:=j6.none_of (by rw [<- l];exact r m)
 exact Y2 I.hV O (c.get m) k.at_ k.fn hn h
theorem Zl5 {y:V}{u:Value}{Q:Unit->Shared->Prop} (I:Inv X pins σ H s) (e:H a=some (.ins C dx fs)) (c:mR X.K C) (n:nL X.K C f) (hl:fs.length<1000) (ry:bu y u)
  (h:∀ s',Inv X pins σ (upd H a (.ins C dx (fF f y fs))) s'->Q () s'):wpAny (model X.prog X.w) A (setAttr (.ref a) f u) Q E s:=by
 obtain ⟨mA,O,r,wi,_,ho⟩:=G8 I.aF e
 have hz:(fs.map (·.1)).length<=sizeLine:=by rw [ZrX,sizeLine_eq];omega
 refine YV I.hV O c.sa c.po n.Ar c.hd wi hz fun h' O' sb=>h _ ?_
 have hd:∃ o,h'.get? dx=some o:=let ⟨o,_,_,e',_⟩:=O'.ns;⟨o,e'⟩
 refine I.write (x:=a) (e:=dx) (by rw [e];exact True.intro) (.inr ho) (fun b q hb z=>(sb.2 b hb).trans z) hd ?_
 refine ⟨by rw [aQ O.ne];exact ho,?_,O.ne,O'.obj,_,O'.ns,fun g=>?_,fun g hg=>?_⟩
 ·have:=rO f y fs;omega
 ·show j6 ((fF f y fs).lookup g) (if g=f then some u else mA g)
  rw [Sh]
  by_cases q:g=f
  ·rw [if_pos q,if_pos q];exact ry
  ·rw [if_neg q,if_neg q];exact r g
 ·by_cases q:g=f
  ·rw [q];exact (HZ f y fs).1
  ·refine (HZ f y fs).2 g (wi g fun z=>hg ?_)
   show (if g=f then some u else mA g)=none
   rw [if_neg q];exact z
theorem Inv.made (I:Inv X pins σ H s):Inv X pins σ (upd (upd H s.heap.objs.size (.own (s.heap.objs.size+1))) (s.heap.objs.size+1) (.ins C s.heap.objs.size []))
  { s with heap:=(s.heap.push Zrr).push (Zru C s.heap.objs.size) }:=by
 have e1:(s.heap.push Zrr).get? s.heap.objs.size=some Zrr:=Heap.get?_push_size s.heap rfl
 have e2:((s.heap.push Zrr).push (Zru C s.heap.objs.size)).get? (s.heap.objs.size+1)=some (Zru C s.heap.objs.size):=by
  have:=Heap.get?_push_size (s.heap.push Zrr) (o:=Zru C s.heap.objs.size) rfl
  rwa [Heap.size_push] at this
 have e3:(s.heap.push Zrr).Ns s.heap.objs.size (fun _=>none):=⟨Zrr,#[],_,e1,rfl,(fun e he=>absurd he (by simp)),fun _=>rfl⟩
 have I1:=I.laid (a:=s.heap.objs.size) (o:=.own (s.heap.objs.size+1)) (h':=s.heap.push Zrr) (t':=s.toks) (fun b u q=>Heap.get?_push_of_some _ q) (Zts _) ⟨_,e1⟩
 refine I1.laid (a:=s.heap.objs.size+1) (o:=.ins C s.heap.objs.size []) (t':=s.toks) (fun b u q=>Heap.get?_push_of_some _ q) (ZtB (Heap.size_push _ _)) ?_
 have ne:s.heap.objs.size≠s.heap.objs.size+1:=Ztu (ZtD _)
 refine ⟨by rw [aQ ne,cz],Ztx _,ne,e2,fun _=>none,(Heap.Ns1.of_empty e3).at fun o q=>Heap.get?_push_of_some _ q,fun _=>True.intro,fun y hy=>absurd rfl hy⟩
theorem Uv {prog:Program}{w:World}{env:Env}{e:Expr}{f:Str}{pos:Pos}{s:Shared}{Q:Value->Shared->Prop} (hb:attributeBase e f env (eval e env)=eval e env)
  (h:wpAny (model prog w) A (eval e env) (fun o s₁=>wpAny (model prog w) A (getAttr o f true) Q E s₁) E s):wpAny (model prog w) A (eval (.Attribute e f pos) env) Q E s :=
 Attribute_any_ h (by rw [arm_eval_Attribute,hb])
end
noncomputable def ic (K:Zrk) (ta:TE) (f:Str):TE:=fun σ H Q=>ta σ H fun x H1=>∃ a C dx fs v,x=.ref a/\H1 a=some (.ins C dx fs)/\mR K C/\nL K C f/\fs.lookup f=some v/\Q v H1
noncomputable def rY (K:Zrk) (ta tv:TE) (f:Str):TS:=fun D σ H=>tv σ H fun y H1=>ta σ H1 fun x H2=>∃ a C dx fs,x=.ref a/\H2 a=some (.ins C dx fs)/\mR K C/\nL K C f/\fs.length<1000 /\
 D.nx σ (upd H2 a (.ins C dx (fF f y fs)))
section
variable {X:Cx}{o e value:Expr}{f:Str}{pos pos' MI:Pos}{ta tv:TE}
theorem iK (he:PE X e ta) (hb:attributeBase e f X.env (eval e X.env)=eval e X.env):PE X (.Attribute e f pos) (ic X.K ta f):=by
 intro pins s σ H Q I h
 refine Uv hb (aS (he pins s σ H _ I h) fun u s1 ⟨x,H1,I1,rx,a,C,dx,fs,v,ex,ea,c,n,l,q⟩=>?_)
 subst ex
 obtain rfl:u=Value.ref a:=rx
 exact TK I1 ea c n l fun u' s2 I2 ru=>⟨v,H1,I2,ru,q⟩
theorem zu (ha:PE X o ta) (hv:PE X value tv) (hs:swapsWith value (some (.Attribute o f pos')) pos.line X.env=pure false):PS X (.Assign [.Attribute o f pos'] value pos) (rY X.K ta tv f):=by
 intro pins s σ H D I h
 refine plainObj_wpAny_Assign_Attribute (aS (hv pins s σ H _ I h) fun u s1 ⟨y,H1,I1,ry,q⟩=>aS (ha pins s1 σ H1 _ I1 q) fun ov s2 ⟨x,H2,I2,rx,a,C,dx,fs,ex,ea,c,n,l,q2⟩=>?_) hs
 subst ex
 obtain rfl:ov=Value.ref a:=rx
 exact Zl5 I2 ea c n l ry fun s3 I3=>⟨σ,_,I3,q2⟩
end
section
variable {X:Cx}{pins:List (Addr × Obj)}{σ:St}{H:Hp}{s:Shared}{A:Around}{E:Value->Shared->Prop}{Q:Value->Shared->Prop}{c:Value}{b:Bool}
inductive fU (K:Zrk) (H:Hp):V->Value->Prop where
 | non:fU K H .non (.type "NoneType")
 | bl (x:Bool):fU K H (.bl x) (.type "bool")
 | int (i:Int):fU K H (.int i) (.type "int")
 | str (x:Str):fU K H (.str x) (.type "str")
 | flt (x:UInt64):fU K H (.flt x) (.type "float")
 | lst {a:Addr}{xs:List V} (e:H a=some (.lst xs)):fU K H (.ref a) (.type "list")
 | frz {a:Addr}{o:Obj}{xs:List V} (e:H a=some (.frz o (.lst xs))):fU K H (.ref a) (.type "list")
 | tup {a:Addr}{xs:List V} (e:H a=some (.tup xs)):fU K H (.ref a) (.type "tuple")
 | dK {a:Addr}{kvs:List (Key × V)} (e:H a=some (.dK kvs)):fU K H (.ref a) (.type "dict")
 | dT {a:Addr}{kvs:List (List Key × V)} (e:H a=some (.dT kvs)):fU K H (.ref a) (.type "dict")
 | ins {a C dx:Addr}{fs:List (Str × V)} (e:H a=some (.ins C dx fs)) (cl:mR K C) (ha:Zrl K (.ref C) "__class__" = some (some (.builtin "object.__class__")))
   (hn:ZrH K (.builtin "object.__class__") "__get__" = some (some (.builtin "getset_descriptor.__get__"))) (R5:PySem.W.takesIn K (.builtin "object.__class__")=some true)
   (hm:ZrI K C (.type "object")=some true):fU K H (.ref a) (.ref C)
theorem Oo {x:V}{u t:Value} (I:Inv X pins σ H s) (rx:bu x u) (ty:fU X.K H x t) (e:Zrp X.K t c=some b) (h:∀ tk,Q (.bool b) { s with toks:=tk }) :
  wpAny (model X.prog X.w) A (call (.builtin "isinstance") [u,c]) Q E s:=by
 cases ty with
 | non=>cases (show u=Value.none from rx);exact Zrq PySem.W.kitx_none I.hV True.intro e (fun z=>nomatch z) h
 | bl y=>cases (show u=Value.bool y from rx);exact Zrq PySem.W.kitx_bool I.hV True.intro e (fun z=>nomatch z) h
 | int i=>obtain ⟨t,q⟩:=(show ∃ t,u=Value.int i t from rx);cases q;exact Zrq PySem.W.kitx_int I.hV True.intro e (fun z=>nomatch z) h
 | str y=>obtain ⟨t,q⟩:=(show ∃ t,u=Value.str y t from rx);cases q;exact Zrq PySem.W.kitx_str I.hV True.intro e (fun z=>nomatch z) h
 | flt y=>obtain ⟨t,q⟩:=(show ∃ t,u=Value.float y t from rx);cases q;exact Zrq PySem.W.kitx_float I.hV True.intro e (fun z=>nomatch z) h
 | @lst a xs ea =>
  cases (show u=Value.ref a from rx)
  obtain ⟨_,_,n,_,h1⟩:=(show fz X.prog X.w H s.heap a (.lst xs) from I.aF a _ ea)
  exact Zrq PySem.W.kitx_list I.hV ⟨_,h1,rfl⟩ e (fun z=>nomatch z) h
 | @frz a ob xs ea =>
  cases (show u=Value.ref a from rx)
  obtain ⟨_,_,_,n,_,h1⟩:=(show fz X.prog X.w H s.heap a (.frz ob (.lst xs)) from I.aF a _ ea)
  exact Zrq PySem.W.kitx_list I.hV ⟨_,h1,rfl⟩ e (fun z=>nomatch z) h
 | @tup a xs ea =>
  cases (show u=Value.ref a from rx)
  obtain ⟨_,_,_,p⟩:=(show fz X.prog X.w H s.heap a (.tup xs) from I.aF a _ ea)
  obtain ⟨o,h1,h2,_⟩:=p
  exact Zrq PySem.W.kitx_tuple I.hV ⟨o,h1,h2⟩ e (fun z=>nomatch z) h
 | @dK a kvs ea =>
  cases (show u=Value.ref a from rx)
  obtain ⟨_,_,vs,_,p⟩:=(show fz X.prog X.w H s.heap a (.dK kvs) from I.aF a _ ea)
  obtain ⟨o,es,ep,h1,h2,_⟩:=p
  exact Zrq PySem.W.kitx_dict I.hV ⟨o,h1,h2.1⟩ e (fun z=>nomatch z) h
 | @dT a kvs ea =>
  cases (show u=Value.ref a from rx)
  obtain ⟨_,_,xs,_,o,es,ep,h1,h2,_⟩:=(show fz X.prog X.w H s.heap a (.dT kvs) from I.aF a _ ea)
  exact Zrq PySem.W.kitx_dict I.hV ⟨o,h1,h2.1⟩ e (fun z=>nomatch z) h
 | @ins a C dx fs ea cl ha hn R5 hm =>
  cases (show u=Value.ref a from rx)
  obtain ⟨mA,O,_⟩:=G8 I.aF ea
  obtain ⟨od,J,_⟩:=O.look
  exact Zrq (PySem.W.kitx_own (cl.get _) cl.hd ha hn R5 hm) I.hV J e (fun z=>nomatch z) h
end
structure bG (k:Nat) (A:Around):Prop where
 hd:A.handled=none
 dp:A.depth+3 * k+5<recursionLimit
 un:A.units+16 * k+200<cLine
theorem bG.mono {j k:Nat}{A:Around} (r:bG k A) (h:j<=k):bG j A:=⟨r.hd,by have:=r.dp;omega,by have:=r.un;omega⟩
theorem bG.deeper {k:Nat}{A:Around} (r:bG (k+1) A) (env:Env):bG k (A.deeper env) :=
 ⟨r.hd,by have:=r.dp;show A.depth+1+3 * k+5<_;omega,by have:=r.un;show A.units+3+16 * k+200<_;omega⟩
theorem bG.in1 {k:Nat}{A:Around} (r:bG (k+1) A):bG k A.in1 :=
 ⟨r.hd,by have:=r.dp;show A.depth+3 * k+5<_;omega,by have:=r.un;show A.units+1+16 * k+200<_;omega⟩
theorem Zmj {A:Around}{C:Addr}{us:List Value}{kw:List (Str × Value)}:(A.under (.builtin "type.__call__" ⟨.ref C :: us,kw⟩)).depth=A.depth+1:=by
 first | rfl | simp [Around.under,Code.weight,Code.isCreation,Code.isGuard,Code.isCaller,Code.frames,Code.isFrame,guardIds]
theorem Yy {A:Around}{C:Addr}{us:List Value}{kw:List (Str × Value)}:(A.under (.builtin "type.__call__" ⟨.ref C :: us,kw⟩)).units=A.units+1:=by
 first | rfl | simp [Around.under,Code.cUnits,Code.frames,Code.isFrame]
theorem bG.make {k:Nat}{A:Around} (r:bG (k+1) A) (C:Addr) (us:List Value) (kw:List (Str × Value)):bG k (A.under (.builtin "type.__call__" ⟨.ref C :: us,kw⟩)) :=
 ⟨r.hd,by have:=r.dp;rw [Zmj];omega,by have:=r.un;rw [Yy];omega⟩
theorem bG.depth {k:Nat}{A:Around} (r:bG k A):A.depth<recursionLimit:=by have:=r.dp;omega
theorem bG.units {k:Nat}{A:Around} (r:bG k A):A.units+64<cLine:=by have:=r.un;omega
noncomputable def aq:TA:=fun _ H Q=>Q [] H
noncomputable def ah (ta:TE) (tr:TA):TA:=fun σ H Q=>ta σ H fun x H1=>tr σ H1 fun xs H2=>Q (x :: xs) H2
section
variable {X:Cx}{e:Expr}{es:List Expr}{te:TE}{t:TA}{pos:Pos}
theorem av:PA X [] aq:=fun _ _ _ _ H Q I h=>Calls.spliced_nil ⟨[],H,I,.nil,h⟩
theorem ai (ha:PE X e te) (hr:PA X es t) (hs:starEach (e :: es) X.env=(false,eval e X.env) :: starEach es X.env:=by rfl):PA X (e :: es) (ah te t):=by
 intro pos pins s σ H Q I h
 rw [hs]
 show wpAny _ _ (spliced ((false,eval e X.env) :: backTo pos (starEach es X.env))) _ _ s
 refine Calls.spliced_cons (aS (ha pins s σ H _ I h) fun u s1 ⟨x,H1,I1,r1,q1⟩=>?_)
 exact aS (hr pos pins s1 σ H1 _ I1 q1) fun us s2 ⟨xs,H2,I2,r2,q2⟩=>⟨x :: xs,H2,I2,.cons r1 r2,q2⟩
noncomputable def kh (t:TA):TE:=fun σ H Q=>t σ H fun xs H1=>xs.length<=sizeLine/\∀ p,H1 p=none->Q (.ref p) (upd H1 p (.tup xs))
noncomputable def ik (t:TA):TE:=fun σ H Q=>t σ H fun xs H1=>xs.length<=sizeLine/\∀ p,H1 p=none->Q (.ref p) (upd H1 p (.lst xs))
theorem lj {x1} (h:PA X es t):PE X (.Tuple es x1 pos) (kh t):=by
 intro pins s σ H Q I hq
 refine wpAny_Tuple_spliced (aS (h pos pins s σ H _ I hq) fun us s1 ⟨xs,H1,I1,r,z,q⟩=>⟨by rw [<- r.length];exact z,?_⟩)
 have hf:H1 s1.heap.objs.size=none:=I1.aF.fresh (Zts _)
 refine ⟨.ref s1.heap.objs.size,upd H1 s1.heap.objs.size (.tup xs),I1.laid (t':=s1.toks) (fun b u e=>Heap.get?_push_of_some _ e) (Zts _) ?_,rfl,q _ hf⟩
 exact ⟨z,us,r,⟨_,Heap.get?_push_size _ rfl,rfl,_,rfl⟩⟩
theorem jo (h:PA X es t):PE X (.List es pos) (ik t):=by
 intro pins s σ H Q I hq
 refine wpAny_List_spliced (aS (h pos pins s σ H _ I hq) fun us s1 ⟨xs,H1,I1,r,z,q⟩=>⟨by rw [<- r.length];exact z,?_⟩)
 have hf:H1 s1.heap.objs.size=none:=I1.aF.fresh (Zts _)
 refine ⟨.ref s1.heap.objs.size,upd H1 s1.heap.objs.size (.lst xs),I1.laid (t':=s1.toks) (fun b u e=>Heap.get?_push_of_some _ e) (Zts _) ?_,rfl,q _ hf⟩
 exact ⟨z,us,0,r,Heap.get?_push_size _ rfl⟩
end
noncomputable abbrev Sp:=List V->Hp->VK->XK->Prop
noncomputable abbrev lp:=List Env->Hp->Shared->XK->Value->Shared->Prop
structure ja (P:Program) (w:World) (K:Zrk) (mg:Str->Option Value) (base:Heap) (A:Around) (outer:List Env) (s:Shared) (H:Hp):Prop where
 frames:A.frames=some outer
 mod:Mod K mg base
 bs:∀ b o,base.get? b=some o->s.heap.get? b=some o/\H b=none
 lU:base.objs.size<=s.heap.objs.size
 eL:s.heap.FunFrames base outer
 pk:∀ b∈jD outer,H b=none
 aF:e7 P w H s.heap
 bare:AllBare s.gens
noncomputable def CE (outer:List Env) (P:Program) (w:World) (H:Hp) (s:Shared) (Q:VK) (u:Value) (s':Shared):Prop :=
 ∃ v H',s'.os=s.os/\AllBare s'.gens/\Un (jD outer) [] H H' s.heap s'.heap/\e7 P w H' s'.heap/\bu v u/\Q v H'
noncomputable def CR (CX:lp) (outer:List Env) (P:Program) (w:World) (H:Hp) (s:Shared) (Q:VK) (E:XK) (r:Result) (s':Shared):Prop :=
 match r with
 | .ok (.ret u)=>CE outer P w H s Q u s'
 | .ok _=>False
 | .error e=>CX outer H s E e s'
structure aK (P:Program) (w:World) (K:Zrk) (mg:Str->Option Value) (base:Heap) (CX:lp) (k:Nat) (f:Addr) (fd:FuncData) (ps:List Str) (sp:Sp):Prop where
 len:∀ vs H Q E,sp vs H Q E->vs.length=ps.length
 run:∀ (A:Around) (outer:List Env) (s:Shared) (H:Hp) (args:Args) (us:List Value) (vs:List V) (Q:VK) (E:XK),bG k A->ja P w K mg base A outer s H->BindsTo s fd args (ps.zip us)->Vals vs us->sp vs H Q E ->
  codeAny (model P w) A (.call (.ref f) args) (CR CX outer P w H s Q E) s
theorem ja.make {P:Program}{w:World}{K:Zrk}{mg:Str->Option Value}{base:Heap}{A:Around}{outer:List Env}{s:Shared}{H:Hp} (e:ja P w K mg base A outer s H) (C:Addr) (us:List Value) (kw:List (Str × Value)) :
  ja P w K mg base (A.under (.builtin "type.__call__" ⟨.ref C :: us,kw⟩)) outer s H:=⟨by first | exact e.frames | (simpa [Around.under,Code.envs,Code.isFrame,pushEnvs] using e.frames),e.mod,e.bs,e.lU,e.eL,e.pk,e.aF,e.bare⟩
theorem ja.in1 {P:Program}{w:World}{K:Zrk}{mg:Str->Option Value}{base:Heap}{A:Around}{outer:List Env}{s:Shared}{H:Hp} (e:ja P w K mg base A outer s H) :
  ja P w K mg base A.in1 outer s H:=⟨e.frames,e.mod,e.bs,e.lU,e.eL,e.pk,e.aF,e.bare⟩
section
variable {X:Cx}{pins:List (Addr × Obj)}{σ:St}{H:Hp}{s s':Shared}
theorem Inv.Ej (I:Inv X pins σ H s):ja X.prog X.w X.K X.mg X.base X.A X.stack s H :=
 ⟨I.ok.frames,I.ok.mod,I.bs,Ztv I.ok.lU I.sz,I.stack,I.iy,I.aF,I.bare⟩
theorem Inv.after {Q:VK}{u:Value} (I:Inv X pins σ H s) (h:CE X.stack X.prog X.w H s Q u s'):EP X pins σ Q u s':=by
 obtain ⟨v,H',os,bare,un,aF,r,q⟩:=h
 obtain ⟨hh,g,d,t,os'⟩:=s'
 obtain rfl:os'=s.os:=os
 exact ⟨v,H',I.call (h':=hh) (g':=g) (d':=d) (t':=t) (ch:=[]) un aF bare (fun b z=>absurd z (by simp)),r,q⟩
end
noncomputable def cP (sp:Sp) (ij:List V) (E:XK) (t:TA):TE:=fun σ H Q=>t σ H fun vs H1=>sp (vs ++ ij) H1 Q E
noncomputable def gq (C:Addr) (m:Str) (sp:Sp) (ij:List V) (E:XK) (ta:TE) (t:TA):TE:=fun σ H Q=>ta σ H fun x H1=>∃ a dx fs,x=.ref a/\H1 a=some (.ins C dx fs)/\fs.lookup m=none /\
 t σ H1 fun vs H2=>sp (x :: (vs ++ ij)) H2 Q E
noncomputable def Aq (C:Addr) (sp:Sp) (ij:List V) (E:XK) (t:TA):TE:=fun σ H Q=>t σ H fun vs H1=>∀ x dx,H1 x=none->H1 dx=none->dx≠x ->
 sp (.ref x :: (vs ++ ij)) (upd (upd H1 dx (.own x)) x (.ins C dx [])) (fun v H2=>v=.non/\Q (.ref x) H2) E
noncomputable def oi (K:Zrk) (fd:FuncData) (ps:List Str) (ds:List Value):Prop :=
 ∀ (s:Shared) (us:List Value),K.In s.heap->(us ++ ds).length=ps.length->BindsTo s fd ⟨us,[]⟩ (ps.zip (us ++ ds))
theorem oi.all {K:Zrk}{fd:FuncData}{ps:List Str} (h:∀ us:List Value,us.length=ps.length->bindArgs fd ⟨us,[]⟩=pure (ps.zip us)):oi K fd ps []:=fun s us _ hl=>by
 rw [Zsz] at hl ⊢
 exact .of_eq (h us hl)
noncomputable def pM (CX:lp) (X:Cx) (E:XK):Prop:=∀ (pins:List (Addr × Obj)) (σ:St) (H:Hp) (s:Shared) (e:Value) (s':Shared),Inv X pins σ H s->CX X.stack H s E e s'->X.xe e s'
section
variable {X:Cx}{CX:lp}{k:Nat}{f C:Addr}{fd:FuncData}{ps:List Str}{sp:Sp}{ij:List V}{ds:List Value}{E:XK}{x m:Str}{p pos apos:Pos}{e o:Expr}{es:List Expr}{ta:TE}{t:TA}
theorem Kj {pins:List (Addr × Obj)}{σ:St}{H:Hp}{s:Shared}{Q:VK}{us:List Value}{vs:List V} (F:aK X.prog X.w X.K X.mg X.base CX k f fd ps sp) (hr:bG k X.A) (hb:oi X.K fd ps ds) (hd:Vals ij ds) (hx:pM CX X E)
  (I:Inv X pins σ H s) (r:Vals vs us) (h:sp (vs ++ ij) H Q E):wpAny (model X.prog X.w) X.A (call (.ref f) us) (EP X pins σ Q) X.xe s:=by
 have r2:Vals (vs ++ ij) (us ++ ds):=r.append hd
 have hl:(us ++ ds).length=ps.length:=by rw [<- r2.length];exact F.len _ _ _ _ h
 refine wpAny_call (codeAny_mono (F.run X.A X.stack s H ⟨us,[]⟩ (us ++ ds) (vs ++ ij) Q E hr I.Ej (hb s us I.hV hl) r2 h) fun r s' hq=>?_)
 cases r with
 | error e=>exact hx pins σ H s e s' I hq
 | ok fl =>
  cases fl with
  | ret u=>exact I.after hq
  | next=>exact False.elim hq
  | brk=>exact False.elim hq
  | cont=>exact False.elim hq
theorem MX (F:aK X.prog X.w X.K X.mg X.base CX k f fd ps sp) (hr:bG k X.A) (hg:Gl X x) (hm:X.mg x=some (.ref f)) (hk:Zrv X.K (.ref f)=true) (hb:oi X.K fd ps ds) (hd:Vals ij ds) (hx:pM CX X E)
  (ha:PA X (e :: es) t) (oR:(x == ("__debug__" : Str))=false:=by decide) (he:starEach (e :: es) X.env=(false,eval e X.env) :: starEach es X.env:=by rfl) (kd:(backTo pos (starEach es X.env)).any (·.1)=false:=by rfl) :
  PE X (.Call (.Name x p) (e :: es) [] pos) (cP sp ij E t):=by
 intro pins s σ H Q I h
 refine wpAny_Call_Name_kw (He I hg hm ?_ oR)
 refine ZrJ (h₀:=X.base) I.ok.mod.pG hk (aS (ha pos pins s σ H _ I h) fun us s1 ⟨vs,H1,I1,r,q⟩=>⟨I1.hV,?_⟩) he kd
 exact Kj F hr hb hd hx I1 r q
theorem lg {pl:Sem Bool} (he:PE X o ta) (c:mR X.K C) (hm:Meth X.K C m f) (F:aK X.prog X.w X.K X.mg X.base CX k f fd ps sp) (hr:bG k X.A) (hb:oi X.K fd ps ds) (hd:Vals ij ds) (hx:pM CX X E) (ha:PA X (e :: es) t)
  (hst:starEach (e :: es) X.env=(false,eval e X.env) :: starEach es X.env:=by rfl) (kd:(backTo pos (starEach es X.env)).any (·.1)=false:=by rfl)
  (ht:eval (.Call (.Attribute o m apos) (e :: es) [] pos) X.env=(do
   let ov <- eval o X.env
   standAt apos.atName
   let (f,first) <- holding [ov] (getMethod ov m pl)
   callWith pos f first (backTo pos (starEach (e :: es) X.env)) (backToKw pos (keywordEach [] X.env))):=by rfl) :
  PE X (.Call (.Attribute o m apos) (e :: es) [] pos) (gq C m sp ij E ta t):=by
 intro pins s σ H Q I h
 refine ZrM (pl:=pl) (aS (he pins s σ H _ I h) fun u s1 ⟨x,H1,I1,rx,a,dx,fs,ex,ea,l,q⟩=>?_) ht
 subst ex
 obtain rfl:u=Value.ref a:=rx
 refine Oc I1 ea c hm l ?_
 refine ZrJ (first:=[.ref a]) (h₀:=X.base) I.ok.mod.pG hm.kp (aS (ha pos pins s1 σ H1 _ I1 q) fun us s2 ⟨vs,H2,I2,r,q2⟩=>⟨I2.hV,?_⟩) hst kd
 exact Kj (us:=.ref a :: us) (vs:=.ref a :: vs) F hr hb hd hx I2 (.cons rfl r) q2
theorem qF {pl:Sem Bool} (he:PE X o ta) (c:mR X.K C) (hm:Meth X.K C m f) (F:aK X.prog X.w X.K X.mg X.base CX k f fd ps sp) (hr:bG k X.A) (hb:oi X.K fd ps ds) (hd:Vals ij ds) (hx:pM CX X E)
  (ht:eval (.Call (.Attribute o m apos) [] [] pos) X.env=(do
   let ov <- eval o X.env
   standAt apos.atName
   let (f,first) <- holding [ov] (getMethod ov m pl)
   callWith pos f first (backTo pos (starEach [] X.env)) (backToKw pos (keywordEach [] X.env))):=by rfl) :
  PE X (.Call (.Attribute o m apos) [] [] pos) (gq C m sp ij E ta aq):=by
 intro pins s σ H Q I h
 refine ZrM (pl:=pl) (aS (he pins s σ H _ I h) fun u s1 ⟨x,H1,I1,rx,a,dx,fs,ex,ea,l,q⟩=>?_) ht
 subst ex
 obtain rfl:u=Value.ref a:=rx
 refine Oc I1 ea c hm l ?_
 exact PySem.W.callWith_K0 (first:=[.ref a]) I1.hV hm.kp (Kj (us:=[.ref a]) (vs:=[.ref a]) F hr hb hd hx I1 (.cons rfl .nil) q)
structure Mk (K:Zrk) (C f:Addr):Prop where
 makes:ZrG K C=true
 init:Zrl K (.ref C) "__init__" = some (some (.ref f))
 fn:ZrB K (.ref f)=true
 kp:Zrv K (.ref C)=true
theorem Ul {pins:List (Addr × Obj)}{σ:St}{H:Hp}{s:Shared}{Q:VK}{us:List Value}{vs:List V} (M:Mk X.K C f) (F:aK X.prog X.w X.K X.mg X.base CX k f fd ps sp) (hr:bG (k+1) X.A) (hb:oi X.K fd ps ds) (hd:Vals ij ds)
  (hx:pM CX X E) (I:Inv X pins σ H s) (r:Vals vs us)
  (h:∀ x dx,H x=none->H dx=none->dx≠x->sp (.ref x :: (vs ++ ij)) (upd (upd H dx (.own x)) x (.ins C dx [])) (fun v H2=>v=.non/\Q (.ref x) H2) E) :
  wpAny (model X.prog X.w) X.A (call (.ref C) us) (EP X pins σ Q) X.xe s:=by
 have hq:=h (s.heap.objs.size+1) s.heap.objs.size (I.aF.fresh (Nat.le_succ _)) (I.aF.fresh (Zts _)) (Ztu (ZtD _))
 have I2:=Inv.made (C:=C) I
 have r2:Vals (V.ref (s.heap.objs.size+1) :: (vs ++ ij)) (Value.ref (s.heap.objs.size+1) :: (us ++ ds)):=.cons rfl (r.append hd)
 have hl:(Value.ref (s.heap.objs.size+1) :: us ++ ds).length=ps.length:=by
  have e:=r2.length
  rw [F.len _ _ _ _ hq] at e
  exact e.symm
 refine wpAny_call (Zo5 (f:=f) I.hV M.makes M.init (beq_iff_eq.mp M.fn) (codeAny_mono (F.run _ X.stack _ _ ⟨Value.ref (s.heap.objs.size+1) :: us,[]⟩ (Value.ref (s.heap.objs.size+1) :: (us ++ ds)) _ _ E (hr.make C us [])
  (I2.Ej.make C us []) (hb _ (Value.ref (s.heap.objs.size+1) :: us) I2.hV hl) r2 hq) fun r s' hq'=>?_))
 cases r with
 | error e=>exact hx pins σ _ _ e s' I2 hq'
 | ok fl =>
  cases fl with
  | ret u =>
   obtain ⟨v,H',I3,rv,ev,q3⟩:=I2.after hq'
   subst ev
   exact ⟨rv,⟨V.ref (s.heap.objs.size+1),H',I3,rfl,q3⟩⟩
  | next=>exact False.elim hq'
  | brk=>exact False.elim hq'
  | cont=>exact False.elim hq'
theorem Kb (M:Mk X.K C f) (F:aK X.prog X.w X.K X.mg X.base CX k f fd ps sp) (hr:bG (k+1) X.A) (hg:Gl X x) (hm:X.mg x=some (.ref C)) (hb:oi X.K fd ps ds) (hd:Vals ij ds) (hx:pM CX X E)
  (ha:PA X (e :: es) t) (oR:(x == ("__debug__" : Str))=false:=by decide) (he:starEach (e :: es) X.env=(false,eval e X.env) :: starEach es X.env:=by rfl) (kd:(backTo pos (starEach es X.env)).any (·.1)=false:=by rfl) :
  PE X (.Call (.Name x p) (e :: es) [] pos) (Aq C sp ij E t):=by
 intro pins s σ H Q I h
 refine wpAny_Call_Name_kw (He I hg hm ?_ oR)
 refine ZrJ (h₀:=X.base) I.ok.mod.pG M.kp (aS (ha pos pins s σ H _ I h) fun us s1 ⟨vs,H1,I1,r,q⟩=>⟨I1.hV,?_⟩) he kd
 exact Ul M F hr hb hd hx I1 r q
end
noncomputable def PK (X:Cx) (Rh:List Keyword) (t:TA):Prop :=
 ∀ (pos:Pos) (pins:List (Addr × Obj)) (s:Shared) (σ:St) (H:Hp) (Q:List V->Hp->Prop),Inv X pins σ H s->t σ H Q->wpAny (model X.prog X.w) X.A (evalAll ((backToKw pos (keywordEach Rh X.env)).map (·.2))) (AP X pins σ Q) X.xe s
section
variable {X:Cx}{CX:lp}{k:Nat}{f C:Addr}{fd:FuncData}{ps ks:List Str}{sp:Sp}{E:XK}{x m:Str}{p pos apos Wq:Pos}{e o:Expr}{es:List Expr}{Rh:List Keyword}{te ta:TE}{t tk:TA}{nm:Option Str}
structure Ih (K:Zrk) (fd:FuncData) (ps ks:List Str) (g:List Value->List Value->List Value) (gV:List V->List V->List V):Prop where
 to:∀ (s:Shared) (us ws:List Value),K.In s.heap->(g us ws).length=ps.length->BindsTo s fd ⟨us,ks.zip ws⟩ (ps.zip (g us ws))
 rel:∀ {vs:List V}{us:List Value}{zs:List V}{ws:List Value},Vals vs us->Vals zs ws->Vals (gV vs zs) (g us ws)
variable {g:List Value->List Value->List Value}{gV:List V->List V->List V}
end
structure aj (N P:List Str) (sc:Scope):Prop where
 kind:sc.kind=.function
 co:sc.isCoroutine=false
 gen:sc.isGenerator=false
 nd:N.Nodup
 pre:N.take P.length=P
 par:∀ x∈P,sc.names.lookup x=some .local\/sc.names.lookup x=some .cell
 xW:∀ y∈sc.names,y.2≠.free
theorem QJ {kindOf:Str->Option NameKind}{x:Str}:∀ {binds:List (Str × Value)}{m:Str->Option Value},(∀ v,(x,v) ∉ binds)->bindL kindOf binds m x=m x
 | [],_,_=>rfl
 | (n,v) :: r,m,h=>by
  unfold bindL
  rw [QJ fun w hw=>h w (Zso _ hw)]
  split
  ·have:x≠n:=by rintro rfl;exact h v Zsl
   simp [this]
  ·rfl
theorem N7 {kindOf:Str->Option NameKind}{x:Str}:∀ {binds:List (Str × Value)}{m:Str->Option Value},(∀ v,(x,v) ∉ binds)->bindC kindOf binds m x=m x
 | [],_,_=>rfl
 | (n,v) :: r,m,h=>by
  unfold bindC
  rw [N7 fun w hw=>h w (Zso _ hw)]
  split
  ·rfl
  ·have:x≠n:=by rintro rfl;exact h v Zsl
   simp [this]
theorem Qh {kindOf:Str->Option NameKind}{x:Str}{v:Value}:∀ {P:List Str}{vs:List Value}{i:Nat}{m:Str->Option Value},P.Nodup->P[i]? = some x->vs[i]? = some v->kindOf x=some .local ->
  bindL kindOf (P.zip vs) m x=some v
 | [],_,_,_,_,h,_,_=>by simp at h
 | _ :: _,[],_,_,_,_,h,_=>by simp at h
 | p :: P,w :: vs,0,m,nd,h1,h2,hk=>by
  simp at h1 h2;subst h1;subst h2
  show bindL kindOf ((p,w) :: P.zip vs) m p=_
  unfold bindL
  rw [QJ fun v hv=>(ZsI.mp nd).1 (Ztb hv).1,if_pos hk]
  simp
 | p :: P,w :: vs,i+1,m,nd,h1,h2,hk=>by
  show bindL kindOf ((p,w) :: P.zip vs) m x=_
  unfold bindL
  exact Qh (i:=i) (ZsI.mp nd).2 (by simpa using h1) (by simpa using h2) hk
theorem QI {kindOf:Str->Option NameKind}{x:Str}{v:Value}:∀ {P:List Str}{vs:List Value}{i:Nat}{m:Str->Option Value},P.Nodup->P[i]? = some x->vs[i]? = some v->kindOf x≠some .local ->
  bindC kindOf (P.zip vs) m x=some v
 | [],_,_,_,_,h,_,_=>by simp at h
 | _ :: _,[],_,_,_,_,h,_=>by simp at h
 | p :: P,w :: vs,0,m,nd,h1,h2,hk=>by
  simp at h1 h2;subst h1;subst h2
  show bindC kindOf ((p,w) :: P.zip vs) m p=_
  unfold bindC
  rw [N7 fun v hv=>(ZsI.mp nd).1 (Ztb hv).1,if_neg hk]
  simp
 | p :: P,w :: vs,i+1,m,nd,h1,h2,hk=>by
  show bindC kindOf ((p,w) :: P.zip vs) m x=_
  unfold bindC
  exact QI (i:=i) (ZsI.mp nd).2 (by simpa using h1) (by simpa using h2) hk
noncomputable def start (N:List Str) (vs:List V):St:=vs.map some ++ ZrZ (N.length - vs.length) none
noncomputable def kT (CX:lp) (P:Program) (w:World) (K:Zrk) (mg:Str->Option Value) (base:Heap) (N:List Str) (qual:Str) (scope:Scope) (f:Addr) (cd:Value) (A:Around) (outer:List Env) (s:Shared) (H:Hp) (E:XK):Cx where
 prog:=P
 w:=w
 K:=K
 mg:=mg
 base:=base
 A:=A.deeper (envOfC qual scope s.heap.objs.size f cd)
 N:=N
 s₀:=s
 H₀:=H
 env:=envOfC qual scope s.heap.objs.size f cd
 outer:=outer
 stack:=envOfC qual scope s.heap.objs.size f cd :: outer
 ex:=[]
 calm:=true
 fn:=fun _=>true
 pn:=[]
 xe:=fun e s'=>wpAny (model P w) (A.deeper (envOfC qual scope s.heap.objs.size f cd)) (leaving (envOfC qual scope s.heap.objs.size f cd) e) (fun _ s''=>CX outer H s E e s'') (fun e' s''=>CX outer H s E e' s'') s'
theorem R8 {sc:Scope}{n:Nat}{x:Str} (h:sc.names.lookup x=some .cell):∃ c,(cellsFrom n sc.names []).lookup x=some c:=by
 have q:=ZrN sc.names n [] (.inl h)
 exact Option.isSome_iff_exists.mp q
theorem Vp {CX:lp}{P:Program}{w:World}{K:Zrk}{mg:Str->Option Value}{base:Heap}{N ps:List Str}{qual:Str}{scope:Scope}{f:Addr}{cd:Value}{A:Around}{outer:List Env}{s s1:Shared}{H:Hp}{E:XK}{us:List Value}{vs:List V}
  (S:aj N ps scope) (hd:A.handled=none) (e0:ja P w K mg base A outer s H) (hl:vs.length=ps.length) (r:Vals vs us)
  (x:InCallC s s.heap.objs.size (bindL (envOfC qual scope s.heap.objs.size f cd).kindOf (ps.zip us) fun _=>none) (cellsFrom (s.heap.objs.size+1) scope.names []) (bindC (envOfC qual scope s.heap.objs.size f cd).kindOf (ps.zip us) fun _=>none) s1) :
  Inv (kT CX P w K mg base N qual scope f cd A outer s H E) [] (start N vs) H s1:=by
 have kd:ps.length<=N.length:=by have:=congrArg Zs9 S.pre;rw [Zsq] at this;omega
 obtain ⟨h1,tk,rfl,hk⟩:=x.done
 have D0:∀ b:Addr,b ∉ (kT CX P w K mg base N qual scope f cd A outer s H E).ex:=fun b z=>absurd (show b∈([]:List Addr) from z) (by simp)
 refine ⟨⟨e0.mod,S.kind,rfl,rfl,Zts _,fun y z c h1 h2=>?_,fun y hy=>?_,fun y c _ h=>?_,fun _=>hd,Around.frames_deeper e0.frames,.inr ⟨rfl,rfl⟩,fun b z=>absurd z (D0 b),e0.bs,e0.lU,fun b _ _=>D0 b,fun b z=>absurd z (D0 b),e0.eL,e0.pk⟩,
  rfl,e0.bare,Un.kept hk,⟨_,x.toInCall.ns,fun i y v h1 h2 h3=>?_⟩,fun y c h=>⟨_,x.cell y c h⟩,e0.aF.fresh (Zts _),fun y c h=>?_,fun p hp=>absurd (show p∈([]:List (Addr × Obj)) from hp) (by simp),e0.aF.kept hk,?_⟩
 ·exact name_of_addr x.apart (PySem.mem_of_lookup h1) (PySem.mem_of_lookup h2)
 ·have hy:scope.names.lookup y=some .cell\/scope.names.lookup y=some .free:=hy
  rcases hy with hy | hy
  ·exact R8 hy
  ·exact absurd rfl (S.xW _ (PySem.mem_of_lookup hy))
 ·exact ZtC (x.above y c (PySem.mem_of_lookup h))
 ·have hi:i<vs.length:=by
   unfold start at h2
   by_cases hi:i<vs.length
   ·exact hi
   ·rw [Zsi (by simpa using hi)] at h2
    rw [ZsM] at h2
    split at h2 <;> cases h2
  have ha:vs[i]? = some v:=by
   unfold start at h2
   rw [Zse (by simpa using hi),Zsa] at h2
   cases e:vs[i]? with
   | none=>rw [e] at h2;cases h2
   | some a=>rw [e] at h2;cases h2;rfl
  obtain ⟨u,hu,rv⟩:=r.get ha
  have hp:ps[i]? = some y:=by
   rw [<- S.pre,Ztc (by omega)];exact h1
  have Ph:ps.Nodup:=by rw [<- S.pre];exact S.nd.sublist (List.take_sublist _ _)
  refine ⟨u,rv,?_⟩
  rcases S.par y (Zr5 hp) with k | k
  ·exact .inl ⟨k,Qh Ph hp hu k⟩
  ·obtain ⟨c,e⟩:=R8 (n:=s.heap.objs.size+1) k
   refine .inr ⟨.inl k,c,e,?_⟩
   have q:=x.cell y c e
   rw [QI Ph hp hu (by show scope.names.lookup y≠_;rw [k];decide)] at q
   exact q
 ·exact e0.aF.fresh (ZtC (x.above y c (PySem.mem_of_lookup h)))
 ·unfold start
  show _=N.length
  rw [Zr0,ZrX,Zsb]
  omega
theorem rT {CX:lp}{P:Program}{w:World}{K:Zrk}{mg:Str->Option Value}{base:Heap}{k:Nat}{f:Addr}{name qual:Str}{params:Arguments}{body:List Stmt}{scope:Scope}{dV kV doc pm bS ct oc:Value}{an od:Option Addr}
  {lV:Array (Option Value)}{N ps:List Str}{sp:Sp} (lk:K.lookup f=some ⟨oc,od,.func (Zro name qual params body scope dV kV doc pm an bS ct),lV⟩) (mh:Zry K bS qual=true) (S:aj N ps scope)
  (len:∀ vs H Q E,sp vs H Q E->vs.length=ps.length)
  (kJ:∀ (A:Around) (outer:List Env) (s:Shared) (H:Hp) (vs:List V) (Q:VK) (E:XK),bG k (A.deeper (envOfC qual scope s.heap.objs.size f bS))->sp vs H Q E ->
   ∃ t,jl (kT CX P w K mg base N qual scope f bS A outer s H E) body t/\t { nx:=fun _ H'=>Q .non H',rt:=Q } (start N vs) H) :
  aK P w K mg base CX (k+1) f (Zro name qual params body scope dV kV doc pm an bS ct) ps sp:=by
 refine ⟨len,fun A outer s H args us vs Q E hr e0 hb r pX=>?_⟩
 have hl:=len _ _ _ _ pX
 have KX:K.In s.heap:=e0.mod.pG.keeps fun b o e=>(e0.bs b o e).1
 have lim:s.heap.NoLimit:=e0.mod.nolimit.keeps fun b o e=>(e0.bs b o e).1
 have mj:∀ y∈ps.zip us,scope.names.lookup y.1=some .local\/(scope.names.lookup y.1=some .cell/\((cellsFrom (s.heap.objs.size+1) scope.names []).lookup y.1).isSome=true):=fun ⟨n,v⟩ hy=>by
  rcases S.par n (Ztb hy).1 with q | q
  ·exact .inl q
  ·exact .inr ⟨q,ZrN _ _ _ (.inl q)⟩
 refine codeAny_call_function hr.depth (KX _ _ lk) rfl S.co S.gen rfl (PySem.W.codeRec_of KX mh) (hb _ _ _ _ ?_)
 refine wpAny_newFunctionEnv_cells S.kind mj fun env he s1 x=>?_
 subst he
 refine ⟨lim.keeps x.toInCall.keep,codeAny_func ?_⟩
 obtain ⟨t,ht,hq⟩:=kJ A outer s H vs Q E (hr.deeper _) pX
 have I:Inv (kT CX P w K mg base N qual scope f bS A outer s H E) [] (start N vs) H s1:=Vp S hr.hd e0 hl r x
 refine wpAny_mono (ht [] s1 (start N vs) H _ I hq) (fun fl s' hs=>?_) fun e s' hs=>hs
 have fin:∀ {σ':St}{H':Hp}{v:V}{u:Value},Inv (kT CX P w K mg base N qual scope f bS A outer s H E) [] σ' H' s'->bu v u->Q v H'->CE outer P w H s Q u s' :=
  fun {σ' H' v u} J rv q=>⟨v,H',J.os,J.bare,J.base,J.aF,rv,q⟩
 cases fl with
 | ret u =>
  obtain ⟨v,σ',H',J,rv,q⟩:=hs
  exact fin J rv q
 | next =>
  obtain ⟨σ',H',J,q⟩:=hs
  exact fin (v:=V.non) (u:=Value.none) J rfl q
 | brk =>
  obtain ⟨_,_,_,q⟩:=hs
  exact False.elim q
 | cont =>
  obtain ⟨_,_,_,q⟩:=hs
  exact False.elim q
section
variable {X:Cx}{x:Str}{p pos:Pos}{e:Expr}{es:List Expr}{t:TA}{id T:String}{r:List V->Hp->VK->Prop}
noncomputable def dk (r:List V->Hp->VK->Prop) (t:TA):TE:=fun σ H Q=>t σ H fun vs H1=>r vs H1 Q
theorem dU (hc:jO X (.builtin id) r) (hg:Gl X x) (hm:X.mg x=none) (hv:bootBuiltins x=some (.builtin id)) (ha:PA X (e :: es) t) (hn:x ≠ "__name__":=by decide) (oR:(x == ("__debug__" : Str))=false:=by decide)
  (he:starEach (e :: es) X.env=(false,eval e X.env) :: starEach es X.env:=by rfl) (kd:(backTo pos (starEach es X.env)).any (·.1)=false:=by rfl):PE X (.Call (.Name x p) (e :: es) [] pos) (dk r t):=by
 intro pins s σ H Q I h
 refine wpAny_Call_Name_kw (vQ I hg hm hv ?_ hn oR)
 exact PyProof.Rows.callWith_builtin1 (aS (ha pos pins s σ H _ I h) fun us s1 ⟨vs,H1,I1,r1,q1⟩=>hc pins s1 σ H1 vs us Q I1 r1 q1) he kd
theorem IA (hc:jO X (.type T) r) (hg:Gl X x) (hm:X.mg x=none) (hv:bootBuiltins x=some (.type T)) (ha:PA X (e :: es) t) (hn:x ≠ "__name__":=by decide) (oR:(x == ("__debug__" : Str))=false:=by decide)
  (he:starEach (e :: es) X.env=(false,eval e X.env) :: starEach es X.env:=by rfl) (kd:(backTo pos (starEach es X.env)).any (·.1)=false:=by rfl):PE X (.Call (.Name x p) (e :: es) [] pos) (dk r t):=by
 intro pins s σ H Q I h
 refine wpAny_Call_Name_kw (vQ I hg hm hv ?_ hn oR)
 exact PyProof.Rows.callWith_type1 (aS (ha pos pins s σ H _ I h) fun us s1 ⟨vs,H1,I1,r1,q1⟩=>hc pins s1 σ H1 vs us Q I1 r1 q1) he kd
end
end L2
namespace HT
open PySem PyProof.Rows
section
open PySem.SeqAt
open PySem.AutoSeq1 (wpAny_loadPart')
open PySem.MeetsSeq PySem.MeetsSeq2 PySem.MeetsSeq3
end
section
variable {prog:Program}{w:World}{A:Around}{E:Value->Shared->Prop}{s:Shared}
noncomputable def jJ (n d:Nat):Option Int->Nat
 | none=>d
 | some v=>if v<0 then (v+(n:Int)).toNat else min v.toNat n
end
end HT
namespace L2
open PySem PySem.Spec PyProof.Rows
noncomputable abbrev TO:=St->Hp->(Option Int->Hp->Prop)->Prop
noncomputable def PO (X:Cx) (e:Option Expr) (t:TO):Prop :=
 ∀ (pins:List (Addr × Obj)) (s:Shared) (σ:St) (H:Hp) (Q:Option Int->Hp->Prop),Inv X pins σ H s->t σ H Q ->
  wpAny (model X.prog X.w) X.A (evalPart e X.env) (fun u s'=>∃ o H',Inv X pins σ H' s'/\IsPart u o/\Q o H') X.xe s
noncomputable def Nh (t:TE):TO:=fun σ H Q=>t σ H fun x H1=>∃ i,x=.int i/\Q (some i) H1
theorem Tu {ns:List Int}:∀ {us:List Value},Vals (ns.map V.int) us->IntsAre us ns:=by
 induction ns with
 | nil=>intro us r;rw [ZsB] at r;cases r;exact .nil
 | cons n ns ih =>
  intro us r
  rw [Zsg] at r
  cases r with
  | cons r1 r2 =>
   obtain ⟨t,e⟩:=r1
   subst e
   exact .cons n t (ih r2)
section
variable {X:Cx}{e:Expr}{te:TE}{lo hi:Option Expr}{tl th:TO}{pos p2:Pos}
theorem Wc (h:PE X e te):PO X (some e) (Nh te):=by
 intro pins s σ H Q I hw
 rw [evalPart_some]
 refine aS (h pins s σ H _ I hw) fun u s1 ⟨x,H1,I1,r1,q1⟩=>?_
 obtain ⟨i,rfl,q⟩:=q1
 obtain ⟨t,rfl⟩:=r1
 exact ⟨some i,H1,I1,.int i t,q⟩
noncomputable def qd (X:Cx) (r:V->Option Int->Option Int->Hp->VK->Prop):Prop :=
 ∀ (pins:List (Addr × Obj)) (s:Shared) (σ:St) (H:Hp) (x:V) (v vl vu:Value) (lo hi:Option Int) (sl:Addr) (Q:VK),Inv X pins σ H s->bu x v->s.heap.IsSliceOf sl vl vu .none->IsPart vl lo->IsPart vu hi->r x lo hi H Q ->
  ∃ T id,typeLookup (.type T) "__getitem__" = pure (some (.builtin id))/\s.TypeIs v T/\wpAny (model X.prog X.w) X.A (getItem v (.ref sl)) (EP X pins σ Q) X.xe s
noncomputable def Lu (r:V->Option Int->Option Int->Hp->VK->Prop) (te:TE) (tl th:TO):TE:=fun σ H Q=>te σ H fun x H1=>tl σ H1 fun l H2=>th σ H2 fun u H3=>r x l u H3 Q
theorem YS {r:V->Option Int->Option Int->Hp->VK->Prop} (hr:qd X r) (he:PE X e te) (hl:PO X lo tl) (hu:PO X hi th):PE X (.Subscript e (.Slice lo hi none p2) pos) (Lu r te tl th):=by
 intro pins s σ H Q I h
 refine Subscript_ (aS (he pins s σ H _ I h) fun v s1 ⟨x,H1,I1,r1,q1⟩=>?_)
 refine wpAny_Slice (aS (hl pins s1 σ H1 _ I1 q1) fun vl s2 ⟨l,H2,I2,pl,q2⟩=>aS (hu pins s2 σ H2 _ I2 q2) fun vu s3 ⟨u,H3,I3,pu,q3⟩=>?_)
 rw [evalPart_none]
 refine wpAny_pure ?_
 have I4:Inv X pins σ H3 { s3 with heap:=s3.heap.push { cls:=.type "slice",data:=.fields #[vl,vu,.none] } }:=I3.kept (t':=s3.toks) fun b ob q=>Heap.get?_push_of_some _ q
 obtain ⟨T,id,hT,ht,hg⟩:=hr pins { s3 with heap:=s3.heap.push { cls:=.type "slice",data:=.fields #[vl,vu,.none] } } σ H3 x v vl vu l u s3.heap.objs.size Q I4 r1 (Heap.IsSliceOf.new ..) pl pu q3
 show wpAny (model X.prog X.w) X.A (subscriptTail e (.Slice lo hi none p2) v (.ref s3.heap.objs.size)) (EP X pins σ Q) X.xe { s3 with heap:=s3.heap.push { cls:=.type "slice",data:=.fields #[vl,vu,.none] } }
 exact tail_any (ops:=[.ref s3.heap.objs.size,v]) ht hT hg (by with_unfolding_all rfl)
noncomputable def qQ (xs:List V) (lo hi:Option Int):List V:=(xs.drop (HT.jJ xs.length 0 lo)).take (HT.jJ xs.length xs.length hi - HT.jJ xs.length 0 lo)
theorem RM (xs:List V) (lo hi:Option Int):(qQ xs lo hi).length<=xs.length:=by
 unfold qQ
 rw [Zsq,Ztd]
 omega
end
noncomputable def pH (n:Nat) (i:Int):Option Nat:=if 0<=i then (if i<n then some i.toNat else none) else if -(n:Int)<=i then some (i+n).toNat else none
noncomputable def fJ {α:Type} (xs:List α) (i:Int):Option α:=(pH xs.length i).bind fun j=>xs[j]?
theorem OD {n:Nat}{i:Int}{j:Nat} (h:pH n i=some j):seqIndex? i n=some j/\j<n /\ -(n:Int)<=i/\i<n:=by
 unfold pH at h
 by_cases h0:0<=i
 ·rw [if_pos h0] at h
  by_cases h1:i<n
  ·rw [if_pos h1] at h
   have e:i.toNat=j:=Option.some.inj h
   exact ⟨by rw [seqIndex_of h0 h1,e],by omega,by omega,h1⟩
  ·rw [if_neg h1] at h;cases h
 ·rw [if_neg h0] at h
  by_cases h1 : -(n:Int)<=i
  ·rw [if_pos h1] at h
   have e:(i+n).toNat=j:=Option.some.inj h
   exact ⟨by rw [seqIndex_neg (by omega) h1,e],by omega,h1,by omega⟩
  ·rw [if_neg h1] at h;cases h
theorem Jj {α:Type}{xs:List α}{i:Int}{v:α} (h:fJ xs i=some v):∃ j,seqIndex? i xs.length=some j/\xs[j]? = some v/\j<xs.length /\ -(xs.length:Int)<=i/\i<xs.length:=by
 unfold fJ at h
 cases e:pH xs.length i with
 | none=>rw [e] at h;cases h
 | some j =>
  rw [e] at h
  obtain ⟨h1,h2,h3,h4⟩:=OD e
  exact ⟨j,h1,h,h2,h3,h4⟩
theorem zy {α:Type}{xs:List α}{j:Nat}{v:α} (h:xs[j]? = some v):fJ xs (j:Int)=some v:=by
 have hj:j<xs.length:=(Zr1.mp h).1
 have e:pH xs.length (j:Int)=some j:=by
  unfold pH
  rw [if_pos (by omega),if_pos (by omega)];simp
 unfold fJ;rw [e];exact h
noncomputable def VE (b:Expr):Prop:=∀ o i,subscripted b false o i=operate [o,i] (getItem o i)
noncomputable def mv (X:Cx) (r:R2):Prop :=
 ∀ (value slice:Expr) (pins:List (Addr × Obj)) (s:Shared) (σ:St) (H:Hp) (x y:V) (v u:Value) (Q:VK),Inv X pins σ H s->bu x v->bu y u->r x y H Q ->
  subscripted slice false v u=operate [v,u] (getItem v u)->wpAny (model X.prog X.w) X.A (subscriptTail value slice v u) (EP X pins σ Q) X.xe s
noncomputable def yZ (X:Cx) (id:String) (r:V->List V->Hp->VK->Prop):Prop :=
 ∀ (pins:List (Addr × Obj)) (s:Shared) (σ:St) (H:Hp) (x:V) (xs:List V) (v:Value) (us:List Value) (Q:VK),Inv X pins σ H s->bu x v->Vals xs us->r x xs H Q ->
  wpAny (model X.prog X.w) X.A (call (.builtin id) (v :: us)) (EP X pins σ Q) X.xe s
section
variable {X:Cx}{a b:Expr}{ta tb:TE}{pos:Pos}
theorem mv.or {r r':R2} (h:mv X r) (h':mv X r'):mv X (fun x y H Q=>r x y H Q\/r' x y H Q):=by
 intro value slice pins s σ H x y v u Q I rx ry q hs
 rcases q with q | q
 ·exact h value slice pins s σ H x y v u Q I rx ry q hs
 ·exact h' value slice pins s σ H x y v u Q I rx ry q hs
theorem bP {r:R2} (hr:mv X r) (ha:PE X a ta) (hb:PE X b tb) (hs:VE b):PE X (.Subscript a b pos) (ag r ta tb):=by
 intro pins s σ H Q I h
 exact Subscript_ (ux ha hb I h fun v u s2 x y H2 I2 rx ry q=>hr a b pins s2 σ H2 x y v u Q I2 rx ry q (hs _ _))
noncomputable def EN (K:Zrk):R2:=fun x y H Q=>∃ p xs i v,x=.ref p/\y=.int i/\bY K H p xs/\fJ xs i=some v/\Q v H
noncomputable def Eg (K:Zrk):R2:=fun x y H Q=>∃ p xs i v,x=.ref p/\y=.int i/\dR K H p xs/\fJ xs i=some v/\Q v H
noncomputable def AZ:R2:=fun x y H Q=>∃ z i c,x=.str z/\y=.int i/\z.length<=sizeLine/\fJ z.cps.toList i=some c/\Q (.str ⟨#[c]⟩) H
theorem VF:mv X (EN X.K):=by
 intro value slice pins s σ H x y v u Q I rx ry h hs
 obtain ⟨p,xs,i,z,rfl,rfl,hq,he,q⟩:=h
 cases rx
 obtain ⟨t,rfl⟩:=ry
 obtain ⟨its,r,pl,hz⟩:=I.list hq
 obtain ⟨j,h1,h2,h3,h4,h5⟩:=Jj he
 obtain ⟨w,ew,rw'⟩:=r.get h2
 have hl:=r.length
 have hn:=vS
 have fin:EP X pins σ Q w s:=⟨z,H,I,rw',q⟩
 by_cases h0:0<=i
 ·have hj:i.toNat=j:=by
   rw [seqIndex_of h0 h5] at h1
   exact Option.some.inj h1
  exact item_listR pl.isList h0 (by omega) (by rw [hj];simpa using ew) fin hs
 ·have hj:(i+(its.toArray.size:Int)).toNat=j:=by
   rw [seqIndex_neg (by omega) h4] at h1
   rw [Zr9,<- hl]
   exact Option.some.inj h1
  exact subscriptTail_builtinR (x:=w) pl.isList.typeIs slot_list_getitem.lookup
   (wpAny_getItem_list_neg (Q:=fun r s'=>r=w/\EP X pins σ Q r s') pl.isList (by omega) (by rw [Zr9] <;> omega) (by omega) (by rw [hj];simpa using ew) ⟨rfl,fin⟩) hs
theorem wL:mv X (Eg X.K):=by
 intro value slice pins s σ H x y v u Q I rx ry h hs
 obtain ⟨p,xs,i,z,rfl,rfl,hq,he,q⟩:=h
 cases rx
 obtain ⟨t,rfl⟩:=ry
 obtain ⟨its,r,pl,hz⟩:=I.tuple hq
 obtain ⟨j,h1,h2,h3,h4,h5⟩:=Jj he
 obtain ⟨w,ew,rw'⟩:=r.get h2
 have hl:=r.length
 have hn:=vS
 have fin:EP X pins σ Q w s:=⟨z,H,I,rw',q⟩
 exact subscriptTail_builtinR (x:=w) pl.typeIs slot_tuple_getitem.lookup
  (getItem_tuple (j:=j) (Q:=fun r s'=>r=w/\EP X pins σ Q r s') pl (by omega) (by omega) (by rw [Zr9,<- hl];exact h1) (by simpa using ew) ⟨rfl,fin⟩) hs
theorem vT:mv X AZ:=by
 intro value slice pins s σ H x y v u Q I rx ry h hs
 obtain ⟨z,i,c,rfl,rfl,hz,he,q⟩:=h
 obtain ⟨t,rfl⟩:=rx
 obtain ⟨t',rfl⟩:=ry
 obtain ⟨j,h1,h2,h3,h4,h5⟩:=Jj he
 have hl:z.cps.toList.length=z.length:=by simp [Str.length]
 rw [hl] at h1 h4 h5
 have hn:=vS
 exact tail_any (typeIs_str s z t) slot_str_getitem.lookup (getItem_str (c:=c) (by
  have e1:decide (i < -(2 ^ 63:Int))=false:=decide_eq_false (by omega)
  have e2:decide (i ≥ 2 ^ 63)=false:=decide_eq_false (by omega)
  rw [e1,e2,Bool.or_false]) (by rw [h1];simpa using h2) ⟨.str ⟨#[c]⟩,H,I.tok _,⟨_,rfl⟩,q⟩) hs
noncomputable def XR (K:Zrk):R2:=fun x y H Q=>EN K x y H Q\/Eg K x y H Q\/AZ x y H Q
theorem xI:mv X (XR X.K):=VF.or (wL.or vT)
theorem Zmh (its:List Value) (n j:Nat) (u:Value):Obj.mapSeq (·.setIfInBounds j u) { cls:=.type "list",data:=.seq its.toArray n }={ cls:=.type "list",data:=.seq (its.set j u).toArray n }:=by
 simp [Obj.mapSeq]
theorem Inv.lst {pins:List (Addr × Obj)}{σ:St}{H:Hp}{s:Shared}{p:Addr}{xs:List V} (I:Inv X pins σ H s) (h:H p=some (.lst xs)) :
  ∃ (its:List Value) (n:Nat),Vals xs its/\s.heap.get? p=some { cls:=.type "list",data:=.seq its.toArray n }/\xs.length<=sizeLine:=by
 obtain ⟨z,its,n,r,e⟩:=I.aF p _ h
 exact ⟨its,n,r,e,z⟩
theorem Inv.wF {pins:List (Addr × Obj)}{σ:St}{H:Hp}{s:Shared}{p:Addr}{xs ys:List V}{its its':List Value}{n n':Nat}{f:Obj->Obj} (I:Inv X pins σ H s) (h:H p=some (.lst xs))
  (ho:s.heap.get? p=some { cls:=.type "list",data:=.seq its.toArray n }) (hf:f { cls:=.type "list",data:=.seq its.toArray n }={ cls:=.type "list",data:=.seq its'.toArray n' }) (r:Vals ys its') (hz:ys.length<=sizeLine) (t:Nat) :
  Inv X pins σ (upd H p (.lst ys)) { s with heap:=s.heap.update p f,toks:=t }:=by
 have e:(s.heap.update p f).get? p=some { cls:=.type "list",data:=.seq its'.toArray n' }:=by
  rw [Heap.get?_update_self f ho (by rw [hf] <;> rfl),hf]
 refine I.write (x:=p) (e:=p) (by rw [h];trivial) (.inl rfl) (fun b u hb q=>(Heap.get?_update_other _ _ (Ne.symm hb)).trans q) ⟨_,e⟩ ?_
 exact ⟨hz,its',n',r,e⟩
noncomputable def LZ:V->V->V->Hp->(Hp->Prop)->Prop:=fun o i v H Q=>∃ p xs k j,o=.ref p/\i=.int k/\H p=some (.lst xs)/\pH xs.length k=some j/\Q (upd H p (.lst (xs.set j v)))
theorem Nw:uJ X LZ:=by
 intro pins s σ H o i v ov iv u Q I ro ri rv h
 obtain ⟨p,xs,k,j,rfl,rfl,hp,hj,q⟩:=h
 cases ro
 obtain ⟨t,rfl⟩:=ri
 obtain ⟨its,n,r,ho,hz⟩:=I.lst hp
 obtain ⟨h1,h2,h3,h4⟩:=OD hj
 have hl:=r.length
 have hn:=vS
 have I':Inv X pins σ (upd H p (.lst (xs.set j v))) { s with heap:=s.heap.update p (Obj.mapSeq (·.setIfInBounds j u)) } :=
  I.wF hp ho (Zmh its n j u) (r.set rv j) (by rw [List.length_set];exact hz) s.toks
 by_cases h0:0<=k
 ·have hk:k.toNat=j:=by
   rw [seqIndex_of h0 h4] at h1
   exact Option.some.inj h1
  exact PySem.W.ki_setAt ho h0 (by omega) (by rw [Zr9,<- hl];exact h4) (by rw [hk];exact ⟨_,I',q⟩)
 ·have hk:(k+(its.toArray.size:Int)).toNat=j:=by
   rw [seqIndex_neg (by omega) h3] at h1
   rw [Zr9,<- hl]
   exact Option.some.inj h1
  exact PySem.W.ki_setBack ho (by omega) (by rw [Zr9,<- hl];exact h3) (by omega) (by rw [hk];exact ⟨_,I',q⟩)
theorem XY (lo hi:Option Int) (n:Nat):(sliceBounds lo hi none n).1=((HT.jJ n 0 lo:Nat):Int)/\(sliceBounds lo hi none n).2.1=((HT.jJ n n hi:Nat):Int)/\(sliceBounds lo hi none n).2.2=1:=by
 refine ⟨?_,?_,rfl⟩
 ·cases lo with
  | none=>simp [sliceBounds,HT.jJ]
  | some i =>
   simp only [sliceBounds,HT.jJ,Option.getD_none,show (1:Int) > 0 by decide,if_true]
   by_cases h:i<0
   ·simp only [h,if_true] <;> omega
   ·simp only [h,if_false] <;> omega
 ·cases hi with
  | none=>simp [sliceBounds,HT.jJ]
  | some i =>
   simp only [sliceBounds,HT.jJ,Option.getD_none,show (1:Int) > 0 by decide,if_true]
   by_cases h:i<0
   ·simp only [h,if_true] <;> omega
   ·simp only [h,if_false] <;> omega
theorem Xq (its:List Value) (lo hi:Option Int):slicePick its.toArray lo hi none=((its.drop (HT.jJ its.length 0 lo)).take (HT.jJ its.length its.length hi - HT.jJ its.length 0 lo)).toArray:=by
 obtain ⟨h1,h2,h3⟩:=XY lo hi its.toArray.size
 unfold slicePick
 rw [h1,h2,h3]
 simp only [sliceRange_one,pick_run,Zr9] <;> rfl
noncomputable def MS (K:Zrk):V->Option Int->Option Int->Hp->VK->Prop:=fun x lo hi H Q=>∃ a xs,x=.ref a/\bY K H a xs/\∀ p,H p=none->Q (.ref p) (upd H p (.lst (qQ xs lo hi)))
theorem Xb:qd X (MS X.K):=by
 intro pins s σ H x v vl vu lo hi sl Q I rx hs pl pu h
 obtain ⟨a,xs,rfl,hx,q⟩:=h
 cases rx
 obtain ⟨its,r,ht,hz⟩:=I.list hx
 have hlen:=r.length
 refine ⟨"list",_,slot_list_getitem.lookup,ht.isList.typeIs,?_⟩
 refine wpAny_getItem_list_slice ht.isList hs pl pu .none (by simp) ?_ (by rw [Zr9] <;> omega)
 rw [Xq,<- hlen]
 refine ⟨.ref s.heap.objs.size,_,I.laid (t':=s.toks) (o:=.lst (qQ xs lo hi)) (fun b ob q=>Heap.get?_push_of_some _ q) (Zts _) ?_,rfl,q _ (I.aF.fresh (Zts _))⟩
 exact ⟨Ztv (RM xs lo hi) hz,_,0,(r.drop (HT.jJ xs.length 0 lo)).take (HT.jJ xs.length xs.length hi - HT.jJ xs.length 0 lo),Heap.get?_push_size _ rfl⟩
noncomputable def jN:V->Bool
 | .non=>true
 | .bl _=>true
 | .int _=>true
 | .str _=>true
 | _=>false
noncomputable def jh:V->V->Bool
 | .non,.non=>true
 | .bl a,.bl b=>a == b
 | .bl a,.int b=>(if a then 1 else 0) == b
 | .int a,.bl b=>a == (if b then 1 else 0)
 | .int a,.int b=>a == b
 | .str a,.str b=>a == b
 | _,_=>false
theorem MJ {A:Around}{s:Shared}{y x:V}{u v:Value} (ry:bu y u) (rx:bu x v) (fy:jN y=true) (fx:jN x=true):SeqAt.EqAt A s u v (jh y x):=by
 cases y with
 | non =>
  cases ry
  cases x with
  | non=>cases rx;exact SeqAt.EqAt.same _
  | bl b=>cases rx;exact SeqAt.EqAt.none_bool b
  | int b=>obtain ⟨t,rfl⟩:=rx;exact SeqAt.EqAt.none_int b t
  | str b=>obtain ⟨t,rfl⟩:=rx;exact SeqAt.EqAt.none_str b t
  | _=>exact absurd (show false=true from fx) Zt5
 | bl a =>
  cases ry
  cases x with
  | non=>cases rx;exact SeqAt.EqAt.bool_none a
  | bl b=>cases rx;exact SeqAt.EqAt.bool_bool a b
  | int b=>obtain ⟨t,rfl⟩:=rx;exact SeqAt.EqAt.bool_int a b t
  | str b=>obtain ⟨t,rfl⟩:=rx;exact SeqAt.EqAt.bool_str a b t
  | _=>exact absurd (show false=true from fx) Zt5
 | int a =>
  obtain ⟨t',rfl⟩:=ry
  cases x with
  | non=>cases rx;exact SeqAt.EqAt.int_none a t'
  | bl b=>cases rx;exact SeqAt.EqAt.int_bool a t' b
  | int b=>obtain ⟨t,rfl⟩:=rx;exact SeqAt.EqAt.int_int a t' b t
  | str b=>obtain ⟨t,rfl⟩:=rx;exact SeqAt.EqAt.int_str a t' b t
  | _=>exact absurd (show false=true from fx) Zt5
 | str a =>
  obtain ⟨t',rfl⟩:=ry
  cases x with
  | non=>cases rx;exact SeqAt.EqAt.str_none a t'
  | bl b=>cases rx;exact SeqAt.EqAt.str_bool a t' b
  | int b=>obtain ⟨t,rfl⟩:=rx;exact SeqAt.EqAt.str_int a t' b t
  | str b=>obtain ⟨t,rfl⟩:=rx;exact SeqAt.EqAt.str_str a t' b t
  | _=>exact absurd (show false=true from fx) Zt5
 | _=>exact absurd (show false=true from fy) Zt5
noncomputable def qM (x:V) (u:Value):Bool:=match u with
 | .none=>jh .non x
 | .bool b=>jh (.bl b) x
 | .int i _=>jh (.int i) x
 | .str z _=>jh (.str z) x
 | _=>false
theorem Sb {x y:V}{u:Value} (r:bu y u) (f:jN y=true):qM x u=jh y x:=by
 cases y with
 | non=>cases r;rfl
 | bl b=>cases r;rfl
 | int i=>obtain ⟨t,rfl⟩:=r;rfl
 | str z=>obtain ⟨t,rfl⟩:=r;rfl
 | _=>exact absurd (show false=true from f) Zt5
theorem LW {x:V}:∀ {xs:List V}{us:List Value},Vals xs us->xs.all jN=true->us.any (qM x)=xs.any fun y=>jh y x
 | _,_,.nil,_=>rfl
 | y :: xs,u :: us,.cons r t,f=>by
  rw [List.all_cons,Zt6] at f
  rw [ZsN,ZsN,Sb r f.1,LW t f.2]
theorem MY {A:Around}{s:Shared}{x:V}{v:Value} (rx:bu x v) (fx:jN x=true):∀ {xs:List V}{us:List Value},Vals xs us->xs.all jN=true->∀ u∈us,SeqAt.EqAt A s u v (qM x u)
 | _,_,.nil,_=>fun u hu=>by cases hu
 | y :: xs,u :: us,.cons r t,f=>fun u' hu=>by
  rw [List.all_cons,Zt6] at f
  rcases Zr7.mp hu with rfl | hu
  ·rw [Sb r f.1];exact MJ r rx f.1 fx
  ·exact MY rx fx t f.2 u' hu
noncomputable def vM (x:V) (xs:List V):Bool:=xs.any fun y=>jh y x
noncomputable def Zx (K:Zrk) (neg:Bool):R2:=fun x y H Q=>∃ p xs,y=.ref p/\(bY K H p xs\/dR K H p xs)/\jN x=true/\xs.all jN=true/\Q (.bl (if neg then !vM x xs else vM x xs)) H
theorem Vv:cy X (compareOp .In) (Zx X.K false):=by
 intro pins s σ H x y v u Q I rx ry h
 obtain ⟨p,xs,rfl,hq,fx,fs,q⟩:=h
 cases ry
 rcases hq with hq | hq
 ·obtain ⟨its,r,pl,hz⟩:=I.list hq
  refine SeqAt.in_listAt (qM x) pl.isList (fun w hw=>MY rx fx r fs w (by simpa using hw)) ⟨.bl _,H,I,rfl,?_⟩
  rw [show its.toArray.any (qM x)=its.any (qM x) by simp,LW r fs]
  exact q
 ·obtain ⟨its,r,pl,hz⟩:=I.tuple hq
  refine SeqAt.in_tupleAt (qM x) pl (fun w hw=>MY rx fx r fs w (by simpa using hw)) ⟨.bl _,H,I,rfl,?_⟩
  rw [show its.toArray.any (qM x)=its.any (qM x) by simp,LW r fs]
  exact q
theorem ZN:jO X (.builtin "len") (fun xs H Q=>∃ p ys,xs=[.ref p]/\(bY X.K H p ys\/dR X.K H p ys)/\Q (.int ys.length) H):=by
 intro pins s σ H xs us Q I r h
 obtain ⟨p,ys,rfl,hq,q⟩:=h
 obtain ⟨u,rfl,rx⟩:=pY r
 cases rx
 have hn:=vS
 rcases hq with hq | hq
 ·obtain ⟨its,r',pl,hz⟩:=I.list hq
  have hlen:=r'.length
  exact Calls.call_len_list pl.isList (by simp only [Zr9] <;> omega) ⟨.int ys.length,H,I.tok _,⟨s.toks+1,by rw [Zr9,hlen]⟩,q⟩
 ·obtain ⟨its,r',pl,hz⟩:=I.tuple hq
  have hlen:=r'.length
  exact len_tuple pl (by simp only [Zr9] <;> omega) ⟨.int ys.length,H,I.tok _,⟨s.toks+1,by rw [Zr9,hlen]⟩,q⟩
theorem ZT:jO X (.builtin "len") (fun xs H Q=>∃ z,xs=[.str z]/\z.length<=sizeLine/\Q (.int z.length) H):=by
 intro pins s σ H xs us Q I r h
 obtain ⟨z,rfl,hz,q⟩:=h
 obtain ⟨u,rfl,t,rfl⟩:=pY r
 have hn:=vS
 exact len_str (by omega) ⟨.int z.length,H,I.tok _,⟨_,rfl⟩,q⟩
theorem TJ:jO X (.type "list") (fun xs H Q=>∃ p ys,xs=[.ref p]/\(bY X.K H p ys\/dR X.K H p ys)/\∀ l,H l=none->Q (.ref l) (upd H l (.lst ys))):=by
 intro pins s σ H xs us Q I r h
 obtain ⟨p,ys,rfl,hq,q⟩:=h
 obtain ⟨u,rfl,rx⟩:=pY r
 cases rx
 have fin:∀ (its:List Value),Vals ys its->ys.length<=sizeLine->∀ (h':Heap) (c':Nat),(∀ b o',s.heap.get? b=some o'->h'.get? b=some o') ->
   h'.get? s.heap.objs.size=some { cls:=.type "list",dict:=none,data:=.seq its.toArray c',slots:=#[] }->EP X pins σ Q (.ref s.heap.objs.size) { s with heap:=h' }:=fun its r' hz h' c' kp e =>
  ⟨.ref s.heap.objs.size,_,I.laid (t':=s.toks) kp (Zts _) (show fz X.prog X.w _ h' _ (.lst ys) from ⟨hz,its,c',r',e⟩),rfl,q _ (I.aF.fresh (Zts _))⟩
 rcases hq with hq | hq
 ·obtain ⟨its,r',pl,hz⟩:=I.list hq
  have hlen:=r'.length
  obtain ⟨o,ho,hc,n,hd⟩:=pl.isList
  exact call_list_seq p (.inl rfl) ho hc hd (fun h' c' kp e=>fin its r' hz h' c' kp e) (by simp only [Zr9] <;> omega)
 ·obtain ⟨its,r',pl,hz⟩:=I.tuple hq
  have hlen:=r'.length
  obtain ⟨o,ho,hc,n,hd⟩:=pl
  exact call_list_seq p (.inr rfl) ho hc hd (fun h' c' kp e=>fin its r' hz h' c' kp e) (by simp only [Zr9] <;> omega)
noncomputable def HS (K:Zrk) (T:String) (x:V) (H:Hp):Prop:=match x with
 | .str _=>T = "str"
 | .int _=>T = "int"
 | .ref p=>(T = "list" /\ ∃ xs,bY K H p xs)\/(T = "tuple" /\ ∃ o,K.lookup p=some o/\o.cls=.type "tuple" /\ o.dict=none) \/
   (T = "dict" /\ ((∃ kvs,H p=some (.dK kvs))\/∃ kvs,H p=some (.dT kvs)))\/(T = "set" /\ ∃ S n,H p=some (.set S n))
 | _=>False
theorem M6 {pins:List (Addr × Obj)}{σ:St}{H:Hp}{s:Shared}{T:String}{x:V}{v:Value} (I:Inv X pins σ H s) (r:bu x v) (ty:HS X.K T x H) :
  s.TypeIs v T/\∀ a,v=.ref a->∃ ob,s.heap.get? a=some ob/\ob.dict=none:=by
 cases x with
 | str z =>
  obtain ⟨t,rfl⟩:=r
  cases (show T = "str" from ty)
  exact ⟨typeIs_str s z t,fun _ e=>nomatch e⟩
 | int i =>
  obtain ⟨t,rfl⟩:=r
  cases (show T = "int" from ty)
  exact ⟨typeIs_int s i t,fun _ e=>nomatch e⟩
 | ref p =>
  cases r
  rcases ty with ⟨rfl,xs,hq⟩ | ⟨rfl,o,hk,hc,hd⟩ | ⟨rfl,hk⟩ | ⟨rfl,S,n,hk⟩
  ·obtain ⟨its,_,pl,_⟩:=I.list hq
   refine ⟨pl.isList.typeIs,fun a e=>?_⟩
   cases e
   obtain ⟨o,n,e,c,hd,_⟩:=pl
   exact ⟨o,e,hd⟩
  ·refine ⟨⟨o,I.hV p o hk,hc⟩,fun a e=>?_⟩
   cases e
   exact ⟨o,I.hV _ o hk,hd⟩
  ·have z:∃ o,s.heap.get? p=some o/\o.ExactDict:=by
    rcases hk with ⟨kvs,hk⟩ | ⟨kvs,hk⟩
    ·obtain ⟨_,_,_,_,o,_,_,e,ex,_⟩:=I.aF p _ hk
     exact ⟨o,e,ex⟩
    ·obtain ⟨_,_,_,_,o,_,_,e,ex,_⟩:=I.aF p _ hk
     exact ⟨o,e,ex⟩
   obtain ⟨o,e,ex⟩:=z
   refine ⟨⟨o,e,ex.1⟩,fun a e2=>?_⟩
   cases e2
   exact ⟨o,e,ex.2.1⟩
  ·obtain ⟨o,_,_,_,e,ex,_⟩:=I.aF p _ hk
   refine ⟨⟨o,e,ex.1⟩,fun a e2=>?_⟩
   cases e2
   exact ⟨o,e,ex.2.1⟩
 | _=>exact False.elim ty
noncomputable def yp (K:Zrk) (T:String) (r:V->List V->Hp->VK->Prop) (to:TE):TE:=fun σ H Q=>to σ H fun x H1=>HS K T x H1/\r x [] H1 Q
noncomputable def j8 (K:Zrk) (T:String) (r:V->List V->Hp->VK->Prop) (to:TE) (t:TA):TE:=fun σ H Q=>to σ H fun x H1=>HS K T x H1/\t σ H1 fun xs H2=>r x xs H2 Q
variable {o e:Expr}{es:List Expr}{to:TE}{t:TA}{name:Str}{apos cH:Pos}{T id:String}{r:V->List V->Hp->VK->Prop}
theorem vq (pa:PlainAttrs T) (slot:Slot T name id) (Mq:typeOf (.builtin id)=pure (.type "method_descriptor")) (hm:yZ X id r) (ho:PE X o to)
  (iS:attributeBase o name X.env (eval o X.env)=eval o X.env:=by rfl) (kH:(apos.endLine == cH.line)=true:=by rfl):PE X (.Call (.Attribute o name apos) [] [] cH) (yp X.K T r to):=by
 intro pins s σ H Q I h
 refine wpAny_Call_method0_late iS kH (aS (ho pins s σ H _ I h) fun v s1 ⟨x,H1,I1,r1,ty,q1⟩=>?_)
 obtain ⟨h1,h2⟩:=M6 I1 r1 ty
 exact ⟨T,id,pa,slot,Mq,h1,h2,Calls.callWith_builtin rfl (PySem.evalArgs_none (hm pins s1 σ H1 x [] v [] Q I1 r1 .nil q1))⟩
theorem kK (pa:PlainAttrs T) (slot:Slot T name id) (Mq:typeOf (.builtin id)=pure (.type "method_descriptor")) (hm:yZ X id r) (ho:PE X o to) (ha:PA X (e :: es) t)
  (iS:attributeBase o name X.env (eval o X.env)=eval o X.env:=by rfl)
  (JB:((backTo cH (starEach (e :: es) X.env)).all (fun x=>!x.1) && (backToKw cH (keywordEach [] X.env)).all (fun x=>x.1.isSome)
   && decide ((e :: es).length+([]:List Keyword).length+(if ([]:List Keyword).isEmpty then 0 else 1)<30))=true:=by rfl)
  (kH:(apos.endLine == cH.line)=true:=by rfl) (hs:starEach (e :: es) X.env=(false,eval e X.env) :: starEach es X.env:=by rfl) (vh:(backTo cH (starEach es X.env)).any (·.1)=false:=by rfl) :
  PE X (.Call (.Attribute o name apos) (e :: es) [] cH) (j8 X.K T r to t):=by
 intro pins s σ H Q I h
 refine wpAny_Call_method_late iS JB kH rfl (aS (ho pins s σ H _ I h) fun v s1 ⟨x,H1,I1,r1,ty,q1⟩=>?_)
 obtain ⟨h1,h2⟩:=M6 I1 r1 ty
 refine ⟨T,id,pa,slot,Mq,h1,h2,?_⟩
 have hA:=ha cH pins s1 σ H1 _ I1 q1
 rw [hs] at hA ⊢
 refine Calls.callWith_builtin (by show (false || (backTo cH (starEach es X.env)).any (·.1))=false;rw [vh] <;> rfl) (Calls.evalArgs_plain ?_)
 exact aS hA fun us s2 ⟨vs,H2,I2,r2,q2⟩=>hm pins s2 σ H2 x vs v us Q I2 r1 r2 q2
/- xs.append(e),list.index on a module's tuple .. are yZ facts of 06m -/
end
noncomputable def Hm (X:Cx) (id:String) (r:V->List V->Hp->VK->Prop):Prop :=
 ∀ (pins:List (Addr × Obj)) (s:Shared) (σ:St) (H:Hp) (x:V) (xs:List V) (v:Value) (us:List Value) (Q:VK),Inv X pins σ H s->bu x v->Vals xs us->r x xs H Q ->
  wpAny (model X.prog X.w) X.A (call (.builtin id) (v :: us)) (EP X pins σ Q) X.xe s
theorem Vals.one:∀ {x:V}{us:List Value},Vals [x] us->∃ u,us=[u]/\bu x u
 | _,_,.cons r .nil=>⟨_,rfl,r⟩
theorem Vals.two:∀ {x y:V}{us:List Value},Vals [x,y] us->∃ u v,us=[u,v]/\bu x u/\bu y v
 | _,_,_,.cons r (.cons q .nil)=>⟨_,_,rfl,r,q⟩
theorem Vals.zero:∀ {us:List Value},Vals [] us->us=[]
 | _,.nil=>rfl
theorem Vals.dropLast {xs:List V}{us:List Value} (h:Vals xs us):Vals xs.dropLast us.dropLast:=by
 induction h with
 | nil=>exact .nil
 | cons r t ih =>
  cases t with
  | nil=>exact .nil
  | cons q t'=>exact .cons r ih
theorem Vals.eraseIdx:∀ {xs:List V}{us:List Value} (i:Nat),Vals xs us->Vals (xs.eraseIdx i) (us.eraseIdx i)
 | _,_,_,.nil=>.nil
 | _,_,0,.cons _ t=>t
 | _,_,i+1,.cons r t=>.cons r (Vals.eraseIdx i t)
theorem Vals.reverse {xs:List V}{us:List Value} (h:Vals xs us):Vals xs.reverse us.reverse:=by
 induction h with
 | nil=>exact .nil
 | cons r t ih=>rw [List.reverse_cons,List.reverse_cons];exact Vals.append ih (.cons r .nil)
theorem Vals.rep {xs:List V}{us:List Value} (h:Vals xs us):∀ k:Nat,Vals (ZrZ k xs).flatten (ZrZ k us).flatten
 | 0=>.nil
 | k+1=>by
  rw [ZsC,ZsC,Zs0,Zs0]
  exact Vals.append h (Vals.rep h k)
theorem Zmp {α:Type} (l:List α):l.eraseIdx (l.length - 1)=l.dropLast:=by
 induction l with
 | nil=>rfl
 | cons a r ih =>
  cases r with
  | nil=>rfl
  | cons b r =>
   have e:(a :: b :: r).length - 1=((b :: r).length - 1)+1:=by
    have h1:(a :: b :: r).length=r.length+2:=rfl
    have h2:(b :: r).length=r.length+1:=rfl
    omega
   rw [e,List.eraseIdx_cons_succ,ih]
   all_goals rfl
theorem RC (its:List Value):∀ (k:Nat) (acc:List Value),
  List.foldl (fun x1 x2=>x1 ++ x2) acc.toArray (ZrZ k its.toArray)=(acc ++ (ZrZ k its).flatten).toArray
 | 0,acc=>by simp
 | k+1,acc=>by
  have e:acc.toArray ++ its.toArray=(acc ++ its).toArray:=by simp
  have e2:(acc ++ its) ++ (ZrZ k its).flatten=acc ++ (ZrZ (k+1) its).flatten:=by
   rw [ZsC,Zs0,Zsh]
  rw [<- e2,<- RC its k (acc ++ its),<- e,ZsC,List.foldl_cons]
section
variable {X:Cx}{pins:List (Addr × Obj)}{σ:St}{H:Hp}{s:Shared}{l b:Addr}{xs ys zs:List V}
theorem Inv.F9 {its its':List Value}{n:Nat}{f:Array Value->Array Value}{t':Nat} (I:Inv X pins σ H s) (hH:H l=some (.lst xs))
  (e:s.heap.get? l=some { cls:=.type "list",data:=.seq its.toArray n }) (hf:f its.toArray=its'.toArray) (hv:Vals ys its') (hz:ys.length<=sizeLine) :
  Inv X pins σ (upd H l (.lst ys)) { s with heap:=s.heap.update l (Obj.mapSeq f),toks:=t' }:=by
 have q:=PySem.IsL.update e f
 rw [hf] at q
 refine I.write (x:=l) (e:=l) (by rw [hH];exact trivial) (.inl rfl) (fun b' u hb hu=>(Heap.get?_update_other s.heap (Obj.mapSeq f) (Ne.symm hb)).trans hu) ⟨_,q⟩ ?_
 exact ⟨hz,its',_,hv,q⟩
theorem Inv.wj {its:List Value}{t':Nat} (I:Inv X pins σ H s) (hv:Vals ys its) (hz:ys.length<=sizeLine) :
  Inv X pins σ (upd H s.heap.objs.size (.lst ys)) { s with heap:=s.heap.push { cls:=.type "list",data:=.seq its.toArray },toks:=t' } :=
 I.laid (fun _ _ q=>Heap.get?_push_of_some _ q) (Zts _) ⟨hz,its,0,hv,Heap.get?_push_size _ rfl⟩
theorem Inv.fresh (I:Inv X pins σ H s):H s.heap.objs.size=none:=I.aF.fresh (Zts _)
theorem Inv.mV (I:Inv X pins σ H s) (hH:H l=some (.lst xs)):xs.length<=sizeLine/\∃ (its:List Value) (n:Nat),Vals xs its/\xs.length=its.length/\s.heap.get? l=some { cls:=.type "list",data:=.seq its.toArray n }:=by
 obtain ⟨z,its,n,r,e⟩:=I.aF l _ hH
 exact ⟨z,its,n,r,r.length,e⟩
theorem UL {n:Nat} (h:n<=sizeLine):Builtin.List.listTooLong n=false:=by
 unfold Builtin.List.listTooLong
 exact decide_eq_false (by omega)
end
section
variable {X:Cx}
noncomputable def kQ:V->List V->Hp->VK->Prop:=fun x vs H Q=>∃ l xs y,x=.ref l/\vs=[y]/\H l=some (.lst xs)/\xs.length<sizeLine/\Q .non (upd H l (.lst (xs ++ [y])))
theorem kS:Hm X "list.append" kQ:=by
 intro pins s σ H x vs v us Q I rx rv h
 obtain ⟨l,xs,y,rfl,rfl,hH,hz,q⟩:=h
 cases rx
 obtain ⟨u,rfl,ru⟩:=rv.one
 obtain ⟨z,its,n,r,hl,e⟩:=I.mV hH
 refine call_meets F.slot_list_append ⟨_,e,rfl⟩ F.entry_list_append (F.args_list_append_2 _ _) (PySem.list_append l its.toArray n u (by rw [Zr9];omega)) ⟨e,?_⟩
 refine ⟨.non,_,I.F9 (its':=its ++ [u]) hH e (by simp) (r.append (.cons ru .nil)) ?_,rfl,q⟩
 rw [Zr0,Zsk]
 omega
noncomputable def tF:V->List V->Hp->VK->Prop:=fun x vs H Q=>∃ l xs y,x=.ref l/\vs=[]/\H l=some (.lst xs)/\xs[xs.length - 1]? = some y/\Q y (upd H l (.lst xs.dropLast))
theorem uR:Hm X "list.pop" tF:=by
 intro pins s σ H x vs v us Q I rx rv h
 obtain ⟨l,xs,y,rfl,rfl,hH,hy,q⟩:=h
 cases rx
 have hus:=rv.zero
 subst hus
 obtain ⟨z,its,n,r,hl,e⟩:=I.mV hH
 obtain ⟨u,hu,ru⟩:=r.get hy
 have hy':its.toArray[its.toArray.size - 1]? = some u:=by
  show its.toArray[its.length - 1]? = some u
  rw [<- ZtT,<- hl]
  exact hu
 refine call_meets F.slot_list_pop ⟨_,e,rfl⟩ F.entry_list_pop (F.args_list_pop_1 _) (MeetsSeq.list_pop_last l its.toArray n u hy' (by rw [Zr9];omega)) ⟨e,?_⟩
 refine ⟨y,_,I.F9 (its':=its.dropLast) hH e ?_ r.dropLast ?_,ru,q⟩
 ·show its.toArray.eraseIdxIfInBounds (its.toArray.size - 1)=its.dropLast.toArray
  rw [Zr9,List.eraseIdxIfInBounds_toArray,Zmp]
 ·rw [List.length_dropLast]
  omega
noncomputable def KY:R2:=fun x y H Q=>∃ l b xs zs,x=.ref l/\y=.ref b/\H l=some (.lst xs)/\H b=some (.lst zs)/\xs.length+zs.length<=sizeLine/\∀ p,H p=none->Q (.ref p) (upd H p (.lst (xs ++ zs)))
theorem tM:cy X (binaryOp .Add) KY:=by
 intro pins s σ H x y v u Q I rx ry h
 obtain ⟨l,b,xs,zs,rfl,rfl,hH,hB,hz,q⟩:=h
 cases rx
 cases ry
 obtain ⟨z,its,n,r,hl,e⟩:=I.mV hH
 obtain ⟨z2,its2,n2,r2,oj,e2⟩:=I.mV hB
 refine PySem.P.add_list e e2 ?_ (by rw [Zr9,Zr9];omega)
 have ea:its.toArray ++ its2.toArray=(its ++ its2).toArray:=by simp
 rw [ea]
 exact ⟨.ref _,_,I.wj (t':=s.toks) (r.append r2) (by rw [Zr0];omega),rfl,q _ I.fresh⟩
noncomputable def LL:R2:=fun x y H Q=>∃ l k xs,x=.ref l/\y=.int k/\H l=some (.lst xs) /\ -(2 ^ 63)<=k/\k<2 ^ 63/\xs.length * k.toNat<=sizeLine /\
 ∀ p,H p=none->Q (.ref p) (upd H p (.lst (ZrZ k.toNat xs).flatten))
theorem WL {α:Type} (xs:List α) (k:Nat):(ZrZ k xs).flatten.length=k * xs.length:=by
 induction k with
 | zero=>simp
 | succ k ih=>rw [ZsC,Zs0,Zr0,ih,Nat.succ_mul,Nat.add_comm]
theorem yG:cy X (binaryOp .Mult) LL:=by
 intro pins s σ H x y v u Q I rx ry h
 obtain ⟨l,k,xs,rfl,rfl,hH,h1,h2,hz,q⟩:=h
 cases rx
 obtain ⟨t,rfl⟩:=ry
 obtain ⟨z,its,n,r,hl,e⟩:=I.mV hH
 have hlen:its.toArray.size * k.toNat<=sizeLine:=by rw [Zr9,<- hl];exact hz
 have L5:¬ its.toArray.size * k.toNat > (2 ^ 63 - 1) / 8:=by
  have:(sizeLine:Nat)<=(2 ^ 63 - 1) / 8:=by decide
  omega
 have KJ:¬ (!Builtin.List.listFitsIndex k)=true:=by
  rw [fitsIndex_both h1 h2]
  exact Zt5
 have Bh:¬ Builtin.List.listTooLong (its.toArray.size * k.toNat)=true:=by
  rw [UL hlen]
  exact Zt5
 have oN:List.foldl (fun x1 x2=>x1 ++ x2) #[] (ZrZ (if its.toArray.isEmpty=true then 0 else k.toNat) its.toArray)=(ZrZ k.toNat its).flatten.toArray:=by
  have f0:∀ m:Nat,List.foldl (fun x1 x2=>x1 ++ x2) #[] (ZrZ m its.toArray)=(ZrZ m its).flatten.toArray:=fun m=>by
   have:=RC its m []
   rw [List.nil_append] at this
   exact this
  rw [f0]
  cases its with
  | nil=>simp
  | cons a r'=>rw [if_neg (by simp)]
 refine wpAny_binaryOp_repeat_ref (T:="list") (U:="int") (by decide) ⟨_,e,rfl⟩ (fun s'=>typeIs_int s' k t) noFill_list_mul F.fills_int_mul F.slot_int_rmul repeat_list F.slot_int_index.lookup
  (call_meets F.slot_int_rmul (typeIs_int s k t) F.entry_int_rmul (F.args_int_rmul_2 _ _) (int___rmul___int_list k t l its.toArray n)
   ⟨e,rfl,⟨_,e,rfl⟩,call_meets F.slot_list_mul ⟨_,e,rfl⟩ F.entry_list_mul (F.args_list_mul_2 _ _) (AutoListH.list___mul___list_int_3 l its.toArray n k t KJ L5 Bh) ⟨e,?_⟩⟩)
 rw [oN]
 exact ⟨.ref _,_,I.wj (t':=s.toks) (r.rep k.toNat) (by rw [WL,Nat.mul_comm];exact hz),rfl,q _ I.fresh⟩
end
section
variable {prog:Program}{w:World}{A:Around}{E:Value->Shared->Prop}{s:Shared}
end
section
variable {X:Cx}
end
section
variable {κ:Type} [DecidableEq κ]
noncomputable def gO (kvs:List (κ × V)) (k:κ):Option V:=(kvs.find? fun kv=>decide (kv.1=k)).map (·.2)
noncomputable def gj (kvs:List (κ × V)) (k:κ) (v:V):List (κ × V) :=
 if (kvs.any fun kv=>decide (kv.1=k))=true then kvs.map (fun kv=>if kv.1=k then (kv.1,v) else kv) else kvs ++ [(k,v)]
noncomputable def uG (kvs:List (κ × V)) (k:κ):List (κ × V):=kvs.filter fun kv=>decide (kv.1≠k)
theorem tZ {p:κ × V}{r:List (κ × V)}{k:κ} (e:p.1=k):gO (p :: r) k=some p.2:=by simp [gO,ZsO,e]
theorem vx {p:κ × V}{r:List (κ × V)}{k:κ} (e:¬ p.1=k):gO (p :: r) k=gO r k:=by simp [gO,ZsO,e]
theorem MA (k:κ):∀ kvs:List (κ × V),(kvs.any fun kv=>decide (kv.1=k))=(gO kvs k).isSome
 | []=>rfl
 | p :: r=>by
  rw [ZsN]
  by_cases e:p.1=k
  ·simp only [tZ e,decide_eq_true e,Bool.true_or,Option.isSome_some]
  ·rw [vx e,decide_eq_false e,Zt9];exact MA k r
theorem Jy (kvs:List (κ × V)) (k:κ) (v:V):(gj kvs k v).length<=kvs.length+1:=by
 unfold gj
 split
 ·rw [ZrX];omega
 ·rw [Zr0,Zsf,Zst];omega
theorem j6.dO {o:Option V}{u:Option Value} (r:j6 o u):o.isSome=u.isSome:=by
 cases o with
 | none=>cases u with
  | none=>rfl
  | some _=>exact (show False from r).elim
 | some _=>cases u with
  | none=>exact (show False from r).elim
  | some _=>rfl
theorem j6.getD {o:Option V}{u:Option Value}{d:V}{d':Value} (r:j6 o u) (rd:bu d d'):bu (o.getD d) (u.getD d'):=by
 cases o with
 | none=>cases u with
  | none=>exact rd
  | some _=>exact (show False from r).elim
 | some _=>cases u with
  | none=>exact (show False from r).elim
  | some _=>exact r
theorem KV.val {kvs:List (κ × V)}{vs:List (κ × Value)} (r:KV kvs vs) (k:κ):j6 (gO kvs k) (valueAt vs k):=by
 unfold KV at r
 induction r with
 | nil=>exact True.intro
 | @cons p q ps qs h t ih =>
  obtain ⟨h1,h2⟩:=h
  by_cases e:p.1=k
  ·have e':q.1=k:=h1.symm.trans e
   have b:valueAt (q :: qs) k=some q.2:=by simp [valueAt,ZsO,e']
   rw [tZ e,b];exact h2
  ·have e':¬ q.1=k:=fun z=>e (h1.trans z)
   have b:valueAt (q :: qs) k=valueAt qs k:=by simp [valueAt,ZsO,e']
   rw [vx e,b];exact ih
theorem KV.any {kvs:List (κ × V)}{vs:List (κ × Value)} (r:KV kvs vs) (k:κ):(kvs.any fun kv=>decide (kv.1=k))=vs.any fun kv=>decide (kv.1=k):=by
 unfold KV at r
 induction r with
 | nil=>rfl
 | cons h t ih=>rw [ZsN,ZsN,ih,h.1]
theorem KV.vz {kvs:List (κ × V)}{vs:List (κ × Value)} (r:KV kvs vs) (k:κ) {y:V}{u:Value} (ry:bu y u) :
  KV (kvs.map fun kv=>if kv.1=k then (kv.1,y) else kv) (vs.map fun kv=>if kv.1=k then (kv.1,u) else kv):=by
 unfold KV at r ⊢
 induction r with
 | nil=>exact .nil
 | @cons p q ps qs h t ih =>
  rw [Zsg,Zsg]
  refine .cons ?_ ih
  obtain ⟨h1,h2⟩:=h
  by_cases e:p.1=k
  ·rw [if_pos e,if_pos (h1.symm.trans e)];exact ⟨h1,ry⟩
  ·rw [if_neg e,if_neg (fun z=>e (h1.trans z))];exact ⟨h1,h2⟩
theorem KV.put {kvs:List (κ × V)}{vs:List (κ × Value)} (r:KV kvs vs) (k:κ) {y:V}{u:Value} (ry:bu y u):KV (gj kvs k y) (stored vs k u):=by
 unfold gj stored
 rw [r.any k]
 by_cases e:(vs.any fun kv=>decide (kv.1=k))=true
 ·rw [if_pos e,if_pos e];exact r.vz k ry
 ·rw [if_neg e,if_neg e];exact Paired.snoc r ⟨rfl,ry⟩
theorem KV.drop {kvs:List (κ × V)}{vs:List (κ × Value)} (r:KV kvs vs) (k:κ):KV (uG kvs k) (without vs k):=by
 unfold KV at r ⊢
 unfold uG without
 induction r with
 | nil=>exact .nil
 | @cons p q ps qs h t ih =>
  obtain ⟨h1,h2⟩:=h
  rw [ZsF,ZsF]
  by_cases e:p.1=k
  ·have a:¬ decide (p.1≠k)=true:=by simp [e]
   have b:¬ decide (q.1≠k)=true:=by simp [h1.symm.trans e]
   rw [if_neg a,if_neg b];exact ih
  ·have e':¬ q.1=k:=fun z=>e (h1.trans z)
   have a:decide (p.1≠k)=true:=by simp [e]
   have b:decide (q.1≠k)=true:=by simp [e']
   rw [if_pos a,if_pos b];exact .cons ⟨h1,h2⟩ ih
theorem KV.length {kvs:List (κ × V)}{vs:List (κ × Value)} (r:KV kvs vs):kvs.length=vs.length:=Paired.length r
theorem YF (kvs:List (κ × V)) (k:κ):(uG kvs k).length<=kvs.length:=Zs1 _ _
end
theorem vJ {P:Program}{w:World}{k:Key}{u:Value} (r:bu (kV k) u):(iP P w).is k u=true:=by
 cases k with
 | inl i=>obtain ⟨t,e⟩:=(show ∃ t,u=Value.int i t from r);subst e;exact Wm P w i t
 | inr x=>obtain ⟨t,e⟩:=(show ∃ t,u=Value.str x t from r);subst e;exact ZkN P w x t
theorem Tj {P:Program}{w:World}:∀ {ks:List Key}{us:List Value},Vals (ks.map kV) us->ItemsAre (iP P w) ks us
 | [],_,r=>by rw [ZsB] at r;cases r;exact .nil
 | k :: ks,_,r=>by
  rw [Zsg] at r
  cases r with
  | cons h t=>exact .cons (vJ h) (Tj t)
noncomputable abbrev KT (H:Hp):List (List Key × V)->List (List Key × Addr × Value)->Prop:=Paired fun p q=>p.1=q.1/\H q.2.1=some (.tup (p.1.map kV))/\bu p.2 q.2.2
theorem KT.val {H:Hp}{kvs:List (List Key × V)}{xs:List (List Key × Addr × Value)} (r:KT H kvs xs) (k:List Key):j6 (gO kvs k) ((atKey xs k).map (·.2)):=by
 induction r with
 | nil=>exact True.intro
 | @cons p q ps qs h t ih =>
  obtain ⟨h1,_,h2⟩:=h
  by_cases e:p.1=k
  ·have e':q.1=k:=h1.symm.trans e
   have b:atKey (q :: qs) k=some q.2:=by simp [atKey,ZsO,e']
   rw [tZ e,b];exact h2
  ·have e':¬ q.1=k:=fun z=>e (h1.trans z)
   have b:atKey (q :: qs) k=atKey qs k:=by simp [atKey,ZsO,e']
   rw [vx e,b];exact ih
theorem KT.vz {H:Hp}{kvs:List (List Key × V)}{xs:List (List Key × Addr × Value)} (r:KT H kvs xs) (k:List Key) {y:V}{u:Value} (ry:bu y u) :
  KT H (kvs.map fun kv=>if kv.1=k then (kv.1,y) else kv) (xs.map (putAt k u)):=by
 induction r with
 | nil=>exact .nil
 | @cons p q ps qs h t ih =>
  rw [Zsg,Zsg]
  refine .cons ?_ ih
  obtain ⟨h1,h2,h3⟩:=h
  unfold putAt
  by_cases e:p.1=k
  ·rw [if_pos e,if_pos (h1.symm.trans e)];exact ⟨h1,h2,ry⟩
  ·rw [if_neg e,if_neg (fun z=>e (h1.trans z))];exact ⟨h1,h2,h3⟩
theorem KT.put {H:Hp}{kvs:List (List Key × V)}{xs:List (List Key × Addr × Value)} (r:KT H kvs xs) (k:List Key) {b:Addr}{y:V}{u:Value} (hb:H b=some (.tup (k.map kV))) (ry:bu y u) :
  KT H (gj kvs k y) (storedH xs k b u):=by
 have e:(kvs.any fun kv=>decide (kv.1=k))=(atKey xs k).isSome:=by
  rw [MA,(r.val k).dO,Option.isSome_map]
 unfold gj storedH
 rw [e]
 by_cases q:(atKey xs k).isSome=true
 ·rw [if_pos q,if_pos q];exact r.vz k ry
 ·rw [if_neg q,if_neg q];exact Paired.snoc r ⟨rfl,hb,ry⟩
theorem KT.keeps {H H':Hp}{kvs:List (List Key × V)}{xs:List (List Key × Addr × Value)} (r:KT H kvs xs) (ht:∀ b ys,H b=some (.tup ys)->H' b=some (.tup ys)):KT H' kvs xs :=
 Paired.yA r fun _ _ z=>⟨z.1,ht _ _ z.2.1,z.2.2⟩
section
variable {P:Program}{w:World}{H:Hp}{h:Heap}{a:Addr}
theorem MM {u:HO} (ok:e7 P w H h) (e:Rd H a u):fz P w H h a u:=e.ok ok
theorem qI {kvs:List (Key × V)} (ok:e7 P w H h) (e:Rd H a (.dK kvs)):kvs.length<=sizeLine/\(a == sysModules)=false/\∃ vs,KV kvs vs/\h.DictOf (iP P w) a vs :=
 show fz P w H h a (.dK kvs) from MM ok e
theorem HD {kvs:List (Key × V)} (ok:e7 P w H h) (e:H a=some (.dK kvs)):kvs.length<=sizeLine/\(a == sysModules)=false/\∃ vs,KV kvs vs/\h.DictOf (iP P w) a vs:=qI ok (.inl e)
theorem EL {ks:List Key} (ok:e7 P w H h) (e:H a=some (.tup (ks.map kV))):(tupleKind (iP P w)).is h ks a:=by
 obtain ⟨_,its,r,o,h1,h2,n,h3⟩:=(show fz P w H h a (.tup (ks.map kV)) from ok a _ e)
 exact ⟨o,its.toArray,n,h1,h2,h3,by simpa using Tj r⟩
theorem zE {kvs:List (List Key × V)} (ok:e7 P w H h) (e:Rd H a (.dT kvs)):kvs.length<=sizeLine/\(a == sysModules)=false /\
  ∃ xs,KT H kvs xs/\h.DictOfH (tupleKind (iP P w)) a xs:=by
 obtain ⟨z,y,xs,r,o,es,ep,h1,h2,h3,h4,h5⟩:=(show fz P w H h a (.dT kvs) from MM ok e)
 refine ⟨z,y,xs,r,o,es,ep,h1,h2,h3,h4,fun x hx=>?_,h5⟩
 have all:∀ {l:List (List Key × V)}{m:List (List Key × Addr × Value)},KT H l m->∀ x∈m,(tupleKind (iP P w)).is h x.1 x.2.1:=by
  intro l m q
  induction q with
  | nil=>intro x hx;exact nomatch hx
  | @cons p q ps qs hq t ih =>
   intro x hx
   rcases Zr7.mp hx with e | hx
   ·subst e
    exact EL ok (by rw [<- hq.1];exact hq.2.1)
   ·exact ih x hx
 exact all r x hx
theorem EV {kvs:List (List Key × V)} (ok:e7 P w H h) (e:H a=some (.dT kvs)):kvs.length<=sizeLine/\(a == sysModules)=false /\
  ∃ xs,KT H kvs xs/\h.DictOfH (tupleKind (iP P w)) a xs:=zE ok (.inl e)
end
noncomputable def g9 (H:Hp) (a:Addr) (y:V) (r:Option V):Prop :=
 (∃ kvs k,Rd H a (.dK kvs)/\y=kV k/\r=gO kvs k)\/∃ kvs k b,Rd H a (.dT kvs)/\y=.ref b/\H b=some (.tup (k.map kV))/\r=gO kvs k
noncomputable def nM (H:Hp) (a:Addr) (y v:V) (H':Hp):Prop :=
 (∃ kvs k,H a=some (.dK kvs)/\y=kV k/\kvs.length<sizeLine/\H'=upd H a (.dK (gj kvs k v))) \/
 ∃ kvs k b,H a=some (.dT kvs)/\y=.ref b/\H b=some (.tup (k.map kV))/\kvs.length<sizeLine/\H'=upd H a (.dT (gj kvs k v))
theorem g9.k {H:Hp}{a:Addr}{kvs:List (Key × V)}{k:Key} (e:H a=some (.dK kvs)):g9 H a (kV k) (gO kvs k):=.inl ⟨kvs,k,.inl e,rfl,rfl⟩
theorem g9.t {H:Hp}{a b:Addr}{kvs:List (List Key × V)}{k:List Key} (e:H a=some (.dT kvs)) (eb:H b=some (.tup (k.map kV))):g9 H a (.ref b) (gO kvs k):=.inr ⟨kvs,k,b,.inl e,rfl,eb,rfl⟩
theorem nM.k {H:Hp}{a:Addr}{kvs:List (Key × V)}{k:Key}{v:V} (e:H a=some (.dK kvs)) (hl:kvs.length<sizeLine):nM H a (kV k) v (upd H a (.dK (gj kvs k v))):=.inl ⟨kvs,k,e,rfl,hl,rfl⟩
theorem nM.t {H:Hp}{a b:Addr}{kvs:List (List Key × V)}{k:List Key}{v:V} (e:H a=some (.dT kvs)) (eb:H b=some (.tup (k.map kV))) (hl:kvs.length<sizeLine) :
  nM H a (.ref b) v (upd H a (.dT (gj kvs k v))):=.inr ⟨kvs,k,b,e,rfl,eb,hl,rfl⟩
section
variable {X:Cx}{pins:List (Addr × Obj)}{σ:St}{H:Hp}{s:Shared}{a:Addr}{y v:V}{u r:Value}{o:Option V}{A:Around}{E:Value->Shared->Prop}
theorem Inv.big (I:Inv X pins σ H s):sysModules<s.heap.objs.size:=by
 have h:mainGlobals<s.heap.objs.size:=(I.mod.glob.keeps I.bk).lt
 exact Nat.lt_trans (by decide) h
theorem VD {Q:Value->Shared->Prop} (hu:A.units+1<cLine) (I:Inv X pins σ H s) (g:g9 H a y (some v)) (ry:bu y u) (h:∀ w' s',Inv X pins σ H s'->bu v w'->Q w' s') :
  wpAny (model X.prog X.w) A (getItem (.ref a) u) Q E s:=by
 rcases g with ⟨kvs,k,e,ey,l⟩ | ⟨kvs,k,b,e,ey,eb,l⟩
 ·subst ey
  obtain ⟨z,hd,vs,rel,dd⟩:=qI I.aF e
  obtain ⟨w',hw,rw'⟩:=j6.some_of (v:=v) (o:=valueAt vs k) (by rw [l];exact rel.val k)
  exact wpAny_getItem_of (vJ ry) dd.mapOf hw (h w' _ (I.tok _) rw')
 ·subst ey
  cases (show u=Value.ref b from ry)
  obtain ⟨z,hd,xs,rel,dd⟩:=zE I.aF e
  obtain ⟨w',hw,rw'⟩:=j6.some_of (v:=v) (o:=(atKey xs k).map (·.2)) (by rw [l];exact rel.val k)
  obtain ⟨p,hp,M8⟩:=Option.map_eq_some_iff.mp hw
  refine wpAny_getItem_heap (tupleKind_room_in1 hu) (EL I.aF eb) dd hp ?_
  rw [M8]
  exact h w' _ (I.tok _) rw'
theorem Mo {Q:Value->Shared->Prop} (hu:A.units+1<cLine) (I:Inv X pins σ H s) (g:g9 H a y o) (ry:bu y u) (h:∀ s',Inv X pins σ H s'->Q (.bool o.isSome) s') :
  wpAny (model X.prog X.w) A (compareOp .In u (.ref a)) Q E s:=by
 rcases g with ⟨kvs,k,e,ey,l⟩ | ⟨kvs,k,b,e,ey,eb,l⟩
 ·subst ey
  obtain ⟨z,hd,vs,rel,dd⟩:=qI I.aF e
  refine wpAny_in_of (vJ ry) hd dd.mapOf ?_
  rw [<- (rel.val k).dO,<- l]
  exact h _ (I.tok _)
 ·subst ey
  cases (show u=Value.ref b from ry)
  obtain ⟨z,hd,xs,rel,dd⟩:=zE I.aF e
  refine wpAny_in_heap (tupleKind_room_in1 hu) (EL I.aF eb) hd dd ?_
  have q:=(rel.val k).dO
  rw [Option.isSome_map] at q
  rw [<- q,<- l]
  exact h _ (I.tok _)
theorem WY {Q:Value->Shared->Prop} (hu:A.units+1<cLine) (I:Inv X pins σ H s) (g:g9 H a y o) (ry:bu y u) (h:∀ s',Inv X pins σ H s'->Q (.bool (!o.isSome)) s') :
  wpAny (model X.prog X.w) A (compareOp .NotIn u (.ref a)) Q E s:=by
 rcases g with ⟨kvs,k,e,ey,l⟩ | ⟨kvs,k,b,e,ey,eb,l⟩
 ·subst ey
  obtain ⟨z,hd,vs,rel,dd⟩:=qI I.aF e
  refine wpAny_notIn_of (vJ ry) hd dd.mapOf ?_
  rw [<- (rel.val k).dO,<- l]
  exact h _ (I.tok _)
 ·subst ey
  cases (show u=Value.ref b from ry)
  obtain ⟨z,hd,xs,rel,dd⟩:=zE I.aF e
  refine wpAny_notIn_heap (tupleKind_room_in1 hu) (EL I.aF eb) hd dd ?_
  have q:=(rel.val k).dO
  rw [Option.isSome_map] at q
  rw [<- q,<- l]
  exact h _ (I.tok _)
theorem Gi {h':Heap}{t':Nat}{ob:HO} (I:Inv X pins σ H s) (mu:BF (H a)) (hs:Heap.SameBut a s.heap h') (he:∃ q,h'.get? a=some q) (new:fz X.prog X.w (upd H a ob) h' a ob) :
  Inv X pins σ (upd H a ob) { s with heap:=h',toks:=t' } :=
 I.write (x:=a) (e:=a) mu (.inl rfl) (fun b q hb z=>(hs.2 b hb).trans z) he new
theorem IK {P:Program}{w:World}{H':Hp}{h':Heap}{kvs:List (Key × V)}{vs:List (Key × Value)} (z:kvs.length<=sizeLine) (hd:(a == sysModules)=false) (rel:KV kvs vs) (dd:h'.DictOf (iP P w) a vs) :
  fz P w H' h' a (.dK kvs):=⟨z,hd,vs,rel,dd⟩
theorem Zn9 {H':Hp}{Q:Unit->Shared->Prop} (hu:A.units+1<cLine) (I:Inv X pins σ H s) (g:nM H a y v H') (ry:bu y u) (rv:bu v r) (h:∀ s',Inv X pins σ H' s'->Q () s') :
  wpAny (model X.prog X.w) A (setItem (.ref a) u r) Q E s:=by
 rcases g with ⟨kvs,k,e,ey,l,eH⟩ | ⟨kvs,k,b,e,ey,eb,l,eH⟩
 ·subst ey eH
  obtain ⟨z,hd,vs,rel,dd⟩:=HD I.aF e
  have hz:vs.length<=sizeLine:=by rw [<- rel.length];exact z
  have hl:(gj kvs k v).length<=sizeLine:=by have:=Jy kvs k v;omega
  refine wpAny_setItem_pairs (hsz:=hz) (vJ ry) dd fun h' dd' hs=>h _ ?_
  have he:∃ q,h'.get? a=some q:=let ⟨q,_,_,hq,_⟩:=dd';⟨q,hq⟩
  exact Gi I (by rw [e];exact True.intro) hs he (IK hl hd (rel.put k rv) dd')
 ·subst ey eH
  cases (show u=Value.ref b from ry)
  obtain ⟨z,hd,xs,rel,dd⟩:=EV I.aF e
  have hz:xs.length<=sizeLine:=by rw [<- Paired.length rel];exact z
  have hl:(gj kvs k v).length<=sizeLine:=by have:=Jy kvs k v;omega
  refine wpAny_setItem_heap (hsz:=hz) (tupleKind_room_in1 hu) (EL I.aF eb) dd fun h' dd' hs=>h _ ?_
  obtain ⟨q,es,ep,hq,h2,h3,h4,_,h5⟩:=dd'
  refine Gi I (by rw [e];exact True.intro) hs ⟨q,hq⟩ ⟨hl,hd,_,(rel.put k eb rv).keeps fun c ys ec=>?_,q,es,ep,hq,h2,h3,h4,h5⟩
  rw [aQ (cZ ec e (fun z=>nomatch z))]
  exact ec
end
section
variable {X:Cx}{pins:List (Addr × Obj)}{σ:St}{H:Hp}{s:Shared}{a:Addr}{kvs:List (Key × V)}{k:Key}{u:Value}{A:Around}{E:Value->Shared->Prop}
theorem Fz {v:V}{more:List Value}{Q:Value->Shared->Prop} (I:Inv X pins σ H s) (e:H a=some (.dK kvs)) (ry:bu (kV k) u) (l:gO kvs k=some v) (hm:more=[]\/∃ x,more=[x])
  (h:∀ w' s',Inv X pins σ (upd H a (.dK (uG kvs k))) s'->bu v w'->Q w' s'):wpAny (model X.prog X.w) A (call (.builtin "dict.pop") (.ref a :: u :: more)) Q E s:=by
 obtain ⟨z,hd,vs,rel,dd⟩:=HD I.aF e
 obtain ⟨w',hw,rw'⟩:=j6.some_of (v:=v) (o:=valueAt vs k) (by rw [<- l];exact rel.val k)
 have hp:(keyPart u).isSome=true:=by
  cases k with
  | inl i=>obtain ⟨t,q⟩:=(show ∃ t,u=Value.int i t from ry);subst q;rfl
  | inr x=>obtain ⟨t,q⟩:=(show ∃ t,u=Value.str x t from ry);subst q;rfl
 have ha:argsOk "dict.pop" ⟨.ref a :: u :: more,[]⟩:=by
  rcases hm with q | ⟨x,q⟩
  ·subst q;exact PySem.F.args_dict_pop_2 _ _
  ·subst q;exact PySem.F.args_dict_pop_3 _ _ _
 refine call_meetsIn ZrT dd.typeIs PySem.F.entry_dict_pop ha (meets_dict_pop_there (iP X.prog X.w) a (vJ ry) more hm hp)
  ⟨vs,w',dd,by rw [<- rel.length];exact z,hw,fun h' dd' hs=>h w' _ ?_ rw'⟩
 have he:∃ q,h'.get? a=some q:=let ⟨q,_,_,hq,_⟩:=dd';⟨q,hq⟩
 exact Gi I (by rw [e];exact True.intro) hs he (IK (Ztv (YF kvs k) z) hd (rel.drop k) dd')
theorem Bj {Q:Value->Shared->Prop} (I:Inv X pins σ H s) (e:Rd H a (.dK kvs)) (h:∀ t s',Inv X pins σ H s'->Q (.int kvs.length t) s'):wpAny (model X.prog X.w) A (call (.builtin "len") [.ref a]) Q E s:=by
 obtain ⟨z,hd,vs,rel,dd⟩:=qI I.aF e
 refine call_len_dict hd dd (by rw [<- rel.length];rw [sizeLine_eq] at z;omega) ?_
 rw [<- rel.length]
 exact h _ _ (I.tok _)
end
noncomputable def Ff (i:Expr):Prop:=∀ ov iv,subscripted i false ov iv=operate [ov,iv] (getItem ov iv)
theorem Vt {prog:Program}{w:World}{A:Around}{E:Value->Shared->Prop}{s:Shared}{env:Env}{value slice:Expr}{pos:Pos}{T id:String}{Q:Value->Shared->Prop}
  (hl:typeLookup (.type T) "__getitem__" = pure (some (.builtin id))) (hs:Ff slice)
  (h:wpAny (model prog w) A (eval value env) (fun o s₁=>wpAny (model prog w) A (eval slice env) (fun i s₂=>s₂.TypeIs o T/\wpAny (model prog w) A (getItem o i) Q E s₂) E s₁) E s) :
  wpAny (model prog w) A (eval (.Subscript value slice pos) env) Q E s:=by
 refine Subscript_ (wpAny_mono h (fun o s₁ h₁=>wpAny_mono h₁ (fun i s₂ h₂=>?_) fun _ _ x=>x) fun _ _ x=>x)
 obtain ⟨hT,h₂⟩:=h₂
 unfold subscriptTail
 refine wpAny_bind ?_
 rw [getitemInPython_of_ne hT.not_modules]
 refine wpAny_bind (wpAny_specialOf hT hl ?_)
 have fin:wpAny (model prog w) A (subscripted slice false o i) (fun r s₃=>wpAny (model prog w) A (letTemporaryGo value o r >>= fun _=>pure r) Q E s₃) E s₂:=by
  rw [hs o i]
  exact wpAny_operating (wpAny_mono h₂ (fun r s₃ h₃=>wpAny_bind (wpAny_letTemporaryGo (wpAny_pure h₃))) fun _ _ x=>x)
 first
  | exact wpAny_pure (wpAny_bind fin)
  | exact wpAny_bind (wpAny_pure (wpAny_bind fin))
  | exact wpAny_bind fin
theorem TQ {X:Cx}{pins:List (Addr × Obj)}{σ:St}{H:Hp}{s:Shared}{a:Addr}{y:V}{o:Option V} (I:Inv X pins σ H s) (g:g9 H a y o):s.TypeIs (.ref a) "dict":=by
 rcases g with ⟨kvs,k,e,_,_⟩ | ⟨kvs,k,b,e,_,_,_⟩
 ·obtain ⟨_,_,vs,_,dd⟩:=qI I.aF e
  exact dd.typeIs
 ·obtain ⟨_,_,xs,_,dd⟩:=zE I.aF e
  exact dd.typeIs
noncomputable def pE (td ty:TE):TE:=fun σ H Q=>td σ H fun x H1=>ty σ H1 fun y H2=>∃ a v,x=.ref a/\g9 H2 a y (some v)/\Q v H2
noncomputable def qr (ty td:TE):TE:=fun σ H Q=>ty σ H fun y H1=>td σ H1 fun x H2=>∃ a o,x=.ref a/\g9 H2 a y o/\Q (.bl o.isSome) H2
noncomputable def rC (ty td:TE):TE:=fun σ H Q=>ty σ H fun y H1=>td σ H1 fun x H2=>∃ a o,x=.ref a/\g9 H2 a y o/\Q (.bl (!o.isSome)) H2
noncomputable def nK (td ty tv:TE):TS:=fun D σ H=>tv σ H fun v H1=>td σ H1 fun x H2=>ty σ H2 fun y H3=>∃ a H4,x=.ref a/\nM H3 a y v H4/\D.nx σ H4
section
variable {X:Cx}{o i e value:Expr}{pos pos' MI:Pos}{td ty tv:TE}
theorem tj (hu:X.A.units+1<cLine) (ho:PE X o td) (hi:PE X i ty) (hs:Ff i):PE X (.Subscript o i pos) (pE td ty):=by
 intro pins s σ H Q I h
 refine Vt PySem.F.slot_dict_getitem.lookup hs (aS (ho pins s σ H _ I h) fun u s1 ⟨x,H1,I1,rx,q1⟩=>aS (hi pins s1 σ H1 _ I1 q1) fun iv s2 ⟨y,H2,I2,ry,a,v,ex,g,q2⟩=>?_)
 subst ex
 obtain rfl:u=Value.ref a:=rx
 exact ⟨TQ I2 g,VD hu I2 g ry fun w' s3 I3 rw'=>⟨v,H2,I3,rw',q2⟩⟩
theorem QM (hu:X.A.units+1<cLine) (hi:PE X i ty) (ho:PE X o td):PC X .In i o (qr ty td):=by
 intro pins s σ H Q I h
 refine aS (hi pins s σ H _ I h) fun iv s1 ⟨y,H1,I1,ry,q1⟩=>aS (ho pins s1 σ H1 _ I1 q1) fun u s2 ⟨x,H2,I2,rx,a,ov,ex,g,q2⟩=>?_
 subst ex
 obtain rfl:u=Value.ref a:=rx
 exact Mo hu I2 g ry fun s3 I3=>⟨.bl ov.isSome,H2,I3,rfl,q2⟩
theorem zh (hu:X.A.units+1<cLine) (hi:PE X i ty) (ho:PE X o td):PC X .NotIn i o (rC ty td):=by
 intro pins s σ H Q I h
 refine aS (hi pins s σ H _ I h) fun iv s1 ⟨y,H1,I1,ry,q1⟩=>aS (ho pins s1 σ H1 _ I1 q1) fun u s2 ⟨x,H2,I2,rx,a,ov,ex,g,q2⟩=>?_
 subst ex
 obtain rfl:u=Value.ref a:=rx
 exact WY hu I2 g ry fun s3 I3=>⟨.bl (!ov.isSome),H2,I3,rfl,q2⟩
theorem pT (hu:X.A.units+1<cLine) (ho:PE X o td) (hi:PE X i ty) (hv:PE X value tv) (hs:swapsWith value (some (.Subscript o i pos')) pos.line X.env=pure false) :
  PS X (.Assign [.Subscript o i pos'] value pos) (nK td ty tv):=by
 intro pins s σ H D I h
 refine wpAny_Assign_Subscript (aS (hv pins s σ H _ I h) fun r s1 ⟨v,H1,I1,rv,q1⟩=>aS (ho pins s1 σ H1 _ I1 q1) fun u s2 ⟨x,H2,I2,rx,q2⟩=>aS (hi pins s2 σ H2 _ I2 q2) fun iv s3 ⟨y,H3,I3,ry,a,H4,ex,g,q3⟩=>?_) hs
 subst ex
 obtain rfl:u=Value.ref a:=rx
 exact Zn9 hu I3 g ry rv fun s4 I4=>⟨σ,H4,I4,q3⟩
end
theorem Ts {P:Program}{w:World}{H:Hp} (h:Heap) (hb:sysModules<h.objs.size):fz P w H (h.push { cls:=.type "dict",data:=.dict #[] }) h.objs.size (.dK []) :=
 ⟨Ztx _,beq_eq_false_iff_ne.mpr (Ne.symm (Ztu hb)),[],.nil,Heap.DictOf.new h⟩
theorem VQ {P:Program}{w:World}{H:Hp} (h:Heap) (hb:sysModules<h.objs.size):fz P w H (h.push { cls:=.type "dict",data:=.dict #[] }) h.objs.size (.dT []) :=
 ⟨Ztx _,beq_eq_false_iff_ne.mpr (Ne.symm (Ztu hb)),[],.nil,_,#[],0,Heap.get?_push_size _ rfl,⟨rfl,rfl,rfl⟩,rfl,rfl,ZsP⟩
noncomputable def qv:TE:=fun _ H Q=>∀ p,H p=none->Q (.ref p) (upd H p (.dK []))
noncomputable def G5:TE:=fun _ H Q=>∀ p,H p=none->Q (.ref p) (upd H p (.dT []))
section
variable {X:Cx}{pos:Pos}
theorem zx:PE X (.Dict [] [] pos) qv:=fun pins s σ H Q I h =>
 wpAny_Dict_empty ⟨.ref s.heap.objs.size,_,I.laid (a:=s.heap.objs.size) (o:=.dK []) (t':=s.toks) (fun _ _ q=>Heap.get?_push_of_some _ q) (Zts _) (Ts s.heap I.big),rfl,h _ (I.aF.fresh (Zts _))⟩
theorem ZoY:PE X (.Dict [] [] pos) G5:=fun pins s σ H Q I h =>
 wpAny_Dict_empty ⟨.ref s.heap.objs.size,_,I.laid (a:=s.heap.objs.size) (o:=.dT []) (t':=s.toks) (fun _ _ q=>Heap.get?_push_of_some _ q) (Zts _) (VQ s.heap I.big),rfl,h _ (I.aF.fresh (Zts _))⟩
end
noncomputable def GU:List (TE × TE)->St->Hp->(List (V × V)->Hp->Prop)->Prop
 | [],_,H,Q=>Q [] H
 | (tk,tv) :: r,σ,H,Q=>tk σ H fun x H1=>tv σ H1 fun y H2=>GU r σ H2 fun ps H3=>Q ((x,y) :: ps) H3
noncomputable abbrev VV:List (V × V)->List (Value × Value)->Prop:=Paired fun p q=>bu p.1 q.1/\bu p.2 q.2
noncomputable def BG (X:Cx) (pos:Pos) (keys:List (Option Expr)) (values:List Expr) (qV:List (TE × TE)):Prop :=
 ∀ (pins:List (Addr × Obj)) (s:Shared) (σ:St) (H:Hp) (Q:List (V × V)->Hp->Prop),Inv X pins σ H s->GU qV σ H Q ->
  wpAny (model X.prog X.w) X.A (evalPairs (pairTrees keys values X.env pos)) (fun vs s'=>∃ ps H',Inv X pins σ H' s'/\VV ps vs/\Q ps H') X.xe s
theorem ZqC {X:Cx}{pos:Pos}:BG X pos [] [] []:=fun pins s σ H Q I h=>pairTrees_nil_walk ⟨[],H,I,.nil,h⟩
theorem YD {X:Cx}{pos:Pos}{k v:Expr}{ks:List (Option Expr)}{vs:List Expr}{tk tv:TE}{qV:List (TE × TE)} (hk:PE X k tk) (hv:PE X v tv) (hr:BG X pos ks vs qV) :
  BG X pos (some k :: ks) (v :: vs) ((tk,tv) :: qV):=fun pins s σ H Q I h =>
 pairTrees_cons_walk (aS (hk pins s σ H _ I h) fun u s1 ⟨x,H1,I1,rx,q1⟩=>aS (hv pins s1 σ H1 _ I1 q1) fun w2 s2 ⟨y,H2,I2,ry,q2⟩ =>
  aS (hr pins s2 σ H2 _ I2 q2) fun ws s3 ⟨ps,H3,I3,rel,q3⟩=>⟨(x,y) :: ps,H3,I3,.cons ⟨rx,ry⟩ rel,q3⟩)
noncomputable def ur (kvs more:List (Key × V)):List (Key × V):=more.foldl (fun acc kv=>gj acc kv.1 kv.2) kvs
theorem KV.merge:∀ {more:List (Key × V)}{rs:List (Key × Value)}{kvs:List (Key × V)}{vs:List (Key × Value)},KV more rs->KV kvs vs->KV (ur kvs more) (merged vs rs):=by
 intro more rs kvs vs r
 unfold KV at r
 induction r generalizing kvs vs with
 | nil=>intro q;exact q
 | @cons p q ps qs h t ih =>
  intro r0
  have e:KV (gj kvs p.1 p.2) (stored vs q.1 q.2):=by
   have:=r0.put p.1 h.2
   rw [<- h.1];exact this
  exact ih e
theorem Qm:∀ (more kvs:List (Key × V)),(ur kvs more).length<=kvs.length+more.length
 | [],kvs=>by show kvs.length<=kvs.length+0;omega
 | p :: r,kvs=>by
  have h1:=Qm r (gj kvs p.1 p.2)
  have h2:=Jy kvs p.1 p.2
  show (ur (gj kvs p.1 p.2) r).length<=_
  rw [Zsf];omega
theorem Nu {P:Program}{w:World}:∀ {kvs:List (Key × V)}{ws:List (Value × Value)},VV (kvs.map fun kv=>(kV kv.1,kv.2)) ws->∃ rs,Carries (iP P w) ws rs/\KV kvs rs
 | [],_,r=>by rw [ZsB] at r;cases r;exact ⟨[],True.intro,.nil⟩
 | p :: kvs,_,r=>by
  rw [Zsg] at r
  cases r with
  | @cons a b as bs h t =>
   obtain ⟨rs,c,q⟩:=Nu (P:=P) (w:=w) t
   obtain ⟨b1,b2⟩:=b
   exact ⟨(p.1,b2) :: rs,⟨vJ h.1,rfl,c⟩,.cons ⟨rfl,h.2⟩ q⟩
noncomputable def Lx (qV:List (TE × TE)):TE:=fun σ H Q=>∀ p,H p=none->GU qV σ (upd H p (.dK [])) fun ps H2=>H2 p=some (.dK [])/\∃ kvs:List (Key × V),ps=kvs.map (fun kv=>(kV kv.1,kv.2))/\kvs.length<=15/\Q (.ref p) (upd H2 p (.dK (ur [] kvs)))
theorem YE {X:Cx}{pos:Pos}{keys:List (Option Expr)}{values:List Expr}{qV:List (TE × TE)} (h:BG X pos keys values qV) (iJ:keys.all (·.isSome)=true) (hl:keys.length=values.length) (h0:keys≠[])
  (h15:keys.length<=15):PE X (.Dict keys values pos) (Lx qV):=by
 intro pins s σ H Q I q
 have hn:=I.aF.fresh (Zts s.heap.objs.size)
 have I1:=I.laid (a:=s.heap.objs.size) (o:=.dK []) (h':=s.heap.push { cls:=.type "dict",data:=.dict #[] }) (t':=s.toks) (fun _ _ q=>Heap.get?_push_of_some _ q) (Zts _) (Ts s.heap I.big)
 refine wpAny_Dict_walk (knd:=iP X.prog X.w) iJ hl h0 h15 (aS (h pins _ σ _ _ I1 (q _ hn)) fun ws s2 ⟨ps,H2,I2,rel,e,kvs,ep,lk,q2⟩=>?_)
 subst ep
 obtain ⟨rs,c,rk⟩:=Nu (P:=X.prog) (w:=X.w) rel
 obtain ⟨z,hd,vs0,r0,dd⟩:=HD I2.aF e
 cases r0
 refine ⟨rs,c,dd,fun h' dd' hs=>⟨.ref s.heap.objs.size,_,?_,rfl,q2⟩⟩
 have hz:(ur [] kvs).length<=sizeLine:=by
  have h1:=Qm kvs []
  rw [Zst] at h1
  rw [sizeLine_eq];omega
 have he:∃ q,h'.get? s.heap.objs.size=some q:=let ⟨q,_,_,hq,_⟩:=dd';⟨q,hq⟩
 exact Gi I2 (by rw [e];exact True.intro) hs he (IK hz hd (rk.merge .nil) dd')
structure M1 (X:Cx) (o:Expr) (m:Str) (apos:Pos) (e:Expr) (cH:Pos):Prop where
 base:attributeBase o m X.env (eval o X.env)=eval o X.env
 Qe:((backTo cH (starEach [e] X.env)).all (fun x=>!x.1) && (backToKw cH (keywordEach [] X.env)).all (fun x=>x.1.isSome)
  && decide (([e]:List Expr).length+([]:List Keyword).length+(if ([]:List Keyword).isEmpty then 0 else 1)<30))=true
 line:(apos.endLine == cH.line)=true
 trees:backTo cH (starEach [e] X.env)=[(false,eval e X.env)]
structure M2 (X:Cx) (o:Expr) (m:Str) (apos:Pos) (e f:Expr) (cH:Pos):Prop where
 base:attributeBase o m X.env (eval o X.env)=eval o X.env
 Qe:((backTo cH (starEach [e,f] X.env)).all (fun x=>!x.1) && (backToKw cH (keywordEach [] X.env)).all (fun x=>x.1.isSome)
  && decide (([e,f]:List Expr).length+([]:List Keyword).length+(if ([]:List Keyword).isEmpty then 0 else 1)<30))=true
 line:(apos.endLine == cH.line)=true
 trees:backTo cH (starEach [e,f] X.env)=[(false,eval e X.env),(false,eval f X.env)]
noncomputable def QY (H:Hp) (a:Addr):Prop:=(∃ kvs,Rd H a (.dK kvs))\/∃ kvs,Rd H a (.dT kvs)
theorem uI {X:Cx}{pins:List (Addr × Obj)}{σ:St}{H:Hp}{s:Shared}{a:Addr} (I:Inv X pins σ H s) (d:QY H a) :
  s.TypeIs (.ref a) "dict" /\ (∀ b,Value.ref a=.ref b->∃ ob,s.heap.get? b=some ob/\ob.dict=none)/\(a == sysModules)=false:=by
 rcases d with ⟨kvs,e⟩ | ⟨kvs,e⟩
 ·obtain ⟨_,hd,vs,_,dd⟩:=qI I.aF e
  refine ⟨dd.typeIs,fun b q=>?_,hd⟩
  cases q
  obtain ⟨ob,_,_,h1,h2,_⟩:=dd
  exact ⟨ob,h1,h2.2.1⟩
 ·obtain ⟨_,hd,xs,_,dd⟩:=zE I.aF e
  refine ⟨dd.typeIs,fun b q=>?_,hd⟩
  cases q
  obtain ⟨ob,_,_,h1,h2,_⟩:=dd
  exact ⟨ob,h1,h2.2.1⟩
section
variable {X:Cx}{pins:List (Addr × Obj)}{σ:St}{H:Hp}{s:Shared}{a:Addr}{y d:V}{u r:Value}{o:Option V}{A:Around}{E:Value->Shared->Prop}
end
noncomputable def LB (td ty:TE):TE:=fun σ H Q=>td σ H fun x H1=>∃ a,x=.ref a/\QY H1 a/\ty σ H1 fun y H2=>∃ kvs k v,H2 a=some (.dK kvs)/\y=kV k/\gO kvs k=some v/\Q v (upd H2 a (.dK (uG kvs k)))
section
variable {X:Cx}{o e f:Expr}{apos cH:Pos}{td ty tx:TE}
theorem V5 (ho:PE X o td) (he:PE X e ty) (m:M1 X o "pop" apos e cH):PE X (.Call (.Attribute o "pop" apos) [e] [] cH) (LB td ty):=by
 intro pins s σ H Q I h
 refine wpAny_Call_method m.base m.Qe m.line ZrU ZrT PySem.F.type_dict_pop (aS (ho pins s σ H _ I h) fun u s1 ⟨x,H1,I1,rx,a,ex,d,q1⟩=>?_)
 subst ex
 obtain rfl:u=Value.ref a:=rx
 obtain ⟨t1,t2,_⟩:=uI I1 d
 refine ⟨t1,t2,?_⟩
 rw [m.trees]
 refine Calls.callWith_builtin rfl (Calls.evalArgs_plain (Calls.spliced_cons (aS (he pins s1 σ H1 _ I1 q1) fun iv s2 ⟨y,H2,I2,ry,kvs,k,v,ea,ey,l,q2⟩=>Calls.spliced_nil ?_)))
 subst ey
 exact Fz I2 ea ry l (.inl rfl) fun w' s3 I3 rw'=>⟨v,_,I3,rw',q2⟩
end
section
variable {X:Cx}{pins:List (Addr × Obj)}{σ:St}{H:Hp}{s:Shared}{a:Addr}{kvs:List (Key × V)}{A:Around}{E:Value->Shared->Prop}
end
section
variable {X:Cx}{pins:List (Addr × Obj)}{σ:St}{H:Hp}{s:Shared}{a:Addr}{y:V}{u:Value}{A:Around}{E:Value->Shared->Prop}
end
end L2
namespace Tq
open PySem PySem.W PySem.Calls PyProof.Rows
theorem XB {P:Params}{h:Heap}:∀ (ns:List Int) (vs:List Value),WellAll P h vs (ns.map WData.int)->IntsAre vs ns:=by
 intro ns
 induction ns with
 | nil =>
  intro vs w
  rw [ZsB] at w
  cases w
  exact .nil
 | cons n ns ih =>
  intro vs w
  rw [Zsg] at w
  cases w with
  | cons a b =>
   cases a
   exact .cons _ _ (ih _ b)
theorem Xw {l:OpenLaw}{n:Nat} (hn:l.most=some n) {P:Params}{h:Heap}{args:List WData}{vals:List Value}
  (qx:l.row.toRowW.claim.pre args=true) (kW:WellAll P h vals args) :
  ∃ a vs ns,vals=[Value.ref a]/\args=[WData.list (ns.map WData.int)]/\h.get? a=some { cls:=.type "list",data:=.seq vs.toArray }/\IntsAre vs ns/\ns.length<=n:=by
 have YZ:WShape.hasAll [] args [.list .int]=true:=(pre_splitW qx).1
 have hc:l.pre.holds [] { args:=args }=true:=(pre_splitW qx).2
 obtain ⟨d,r,rfl,h1,h2⟩:=hasAllW_cons YZ
 obtain rfl:=hasAllW_nil h2
 obtain ⟨xs,rfl,h3⟩:=hasW_list h1
 obtain ⟨ns,rfl⟩:=items_int h3
 have hlen:ns.length<=n:=by
  unfold OpenLaw.pre at hc
  have h4:(WTm.not (.lt (.lit (.int (n:Int))) (.len (.arg 0)))).holds [] { args:=[.list (ns.map .int)] }=true:=by
   have h4:=(holds_andW hc).1
   rw [hn] at h4
   exact h4
  have h5:=condW_of h4 (w_not (w_lt w_lit (w_len_list (w_arg rfl))))
  rw [ZrX] at h5
  refine Nat.le_of_not_lt fun q=>?_
  have q':(n:Int)<((ns.length:Nat):Int):=by omega
  first
   | (rw [decide_eq_true q'] at h5;exact absurd h5 (by decide))
   | (simp at h5;omega)
 cases kW with
 | cons w1 w2 =>
  cases w2
  cases w1 with
  | list ho iJ=>exact ⟨_,_,ns,rfl,rfl,ho,XB ns _ iJ,hlen⟩
theorem TN (l:OpenLaw) (args:List WData):l.row.toRowW.claim.post args (.bool true) args=true :=
 postW_of (r:=l.row.toRowW) (X:=(true == true))
  (show WShape.has [] (.bool true) .bool=true by first | rfl | decide | simp [WShape.has,WShape.arms,WShape.armsAll])
  (show (WTm.eq .res (.lit (.bool true))).value [] { args:=args,res:=some (.bool true),after:=args }=some (.bool (true == true)) from w_eq_bool (w_res rfl) w_lit) rfl
theorem Zk4 {l:OpenLaw}{n:Nat}{q:Program}{loose:List Str}{XP:(Str->Option Value)->Heap->Prop}{YP:World->Heap->Prop}{d:DefRec}
  (hn:l.most=some n) (Er:d.params.defaults=[])
  (call:∀ (w:World) (s₀ s₁:Shared) (mg mb:Str->Option Value) (fa:Addr) (o:Obj) (pm cd doc:Value) (a:Addr) (vs:List Value) (ns:List Int),
   Ground q loose [] XP w s₀ mg mb s₁.heap->YP w s₁.heap ->
   s₁.heap.get? fa=some o->o.data=.func (docDef d.name d.params d.body d.scope pm cd doc)->s₁.heap.CodeRec cd d.name->mg d.name=some (.ref fa) ->
   s₁.heap.get? a=some { cls:=.type "list",data:=.seq vs.toArray }->IntsAre vs ns->ns.length<=n->s₁.gens = #[] ->
   codeAny (model l.prog w) callerA (.call (.ref fa) ⟨[.ref a],[]⟩) (fun r s'=>r=.ok (.ret (.bool true))/\OldK s₁.heap s'.heap/\s'.os=s₁.os/\AllBare s'.gens) s₁) :
  WalkO q loose XP YP l.row.toRowW d [] (fun f vs=>PySem.call f vs):=by
 intro w s₀ s₁ mg mb G Y fa o pm cd doc dV kV ho hd mh hD hmg hg args vals as qx hlay hrd kW fj
 obtain rfl:dV=.none:=Dflts.none hD Er
 obtain rfl:kV=.none:=Dflts.noKw hD
 obtain ⟨a,vs,ns,rfl,rfl,hobj,hints,hlen⟩:=Xw hn qx kW
 refine enter_call (codeAny_mono (call w s₀ s₁ mg mb fa o pm cd doc a vs ns G Y ho (fd_plain hd) mh hmg hobj hints hlen hg) fun r s' hq=>?_)
 obtain ⟨rfl,h2,h3,h4⟩:=hq
 exact ⟨.inl ⟨.bool true,.bool true,[],rfl,fun _=>rfl,.bool true,TN l _,fun _=>⟨Zte.nil,fun _ hm=>(nomatch hm)⟩⟩,h2,h3,h4⟩
section
variable {prog:Program}{w:World}{A:Around}{E:Value->Shared->Prop}{s:Shared}{K:Frag}
noncomputable def ledger (h:Heap) (L d:Addr):List (Addr × Obj):=(Zr6 h.objs.size).filterMap fun a=>if a=L\/a=d then none else (h.get? a).map fun o=>(a,o)
end
end Tq
namespace L2
open PySem PySem.Spec PyProof.Rows
theorem Ji:∀ {vs:List Value}{ns:List Int},IntsAre vs ns->Vals (ns.map V.int) vs
 | _,_,.nil=>.nil
 | _,_,.cons n t h=>.cons ⟨t,rfl⟩ (Ji h)
noncomputable def uo (H:Hp):Prop:=∀ b,H b=none\/∃ o xs,H b=some (.frz o (.lst xs))
theorem Zo7 {P:Program}{w:World}{K:Zrk}{mg mb:Str->Option Value}{CX:lp}{k:Nat}{fa a:Addr}{fd:FuncData}{x:Str}{sp:Sp}{s₁:Shared}{vs:List Value}{ns:List Int}
  (KX:K.In s₁.heap) (pR:s₁.heap.Ns mainGlobals mg) (hb:s₁.heap.Ns builtinsNs mb) (hbb:∀ x:Str,x ≠ "__name__" -> mb x=bootBuiltins x) (HU:s₁.heap.NoLimit) (hg:s₁.gens = #[])
  (ha:s₁.heap.get? a=some { cls:=.type "list",data:=.seq vs.toArray }) (hi:IntsAre vs ns) (hl:ns.length<=sizeLine) (hr:bG k callerA)
  (F:∀ base:Heap,K.In base->base.Ns mainGlobals mg->aK P w K mg base CX k fa fd [x] sp) (FU:∀ (s:Shared) (u:Value),BindsTo s fd ⟨[u],[]⟩ [(x,u)])
  (pX:∀ H:Hp,uo H->bY K H a (ns.map V.int)->sp [.ref a] H (fun v _=>v=.bl true) fun _ _ _=>False)
  (JX:∀ H e s',CX [] H s₁ (fun _ _ _=>False) e s'->False) :
  codeAny (model P w) callerA (.call (.ref fa) ⟨[.ref a],[]⟩) (fun r s'=>r=.ok (.ret (.bool true))/\OldK s₁.heap s'.heap/\s'.os=s₁.os/\AllBare s'.gens) s₁:=by
 have rv:=Ji hi
 have L7:=hi.length
 -- from an abstract heap in which nothing but oF script may be tracked
 have core:∀ H:Hp,uo H->bY K H a (ns.map V.int)->e7 P w H s₁.heap->(∀ b,H b≠none->b=a)->(H a≠none->K.lookup a=none) ->
   codeAny (model P w) callerA (.call (.ref fa) ⟨[.ref a],[]⟩) (fun r s'=>r=.ok (.ret (.bool true))/\OldK s₁.heap s'.heap/\s'.os=s₁.os/\AllBare s'.gens) s₁:=by
  intro H hO hS aF hA hK
  have lS:∀ {b:Addr}{o:Obj},s₁.heap.get? b=some o->H b=none->(qA s₁.heap H).get? b=some o:=fun e n=>ZL e n
  have D0:∀ {b:Addr}{o:Obj}{es:Array DictEntry}{ep:Nat},s₁.heap.get? b=some o->o.data=.dict es ep->H b=none:=fun {b o es ep} e d=>by
   cases q:H b with
   | none=>rfl
   | some u =>
    have e':b=a:=hA b (by rw [q];simp)
    subst e'
    rw [ha] at e;cases e
    have d':Data.seq vs.toArray _=Data.dict es ep:=d
    cases d'
  have HI:∀ {b:Addr}{m:Str->Option Value},s₁.heap.Ns b m->(qA s₁.heap H).Ns b m:=fun {b m} ⟨o,es,ep,e,d,r⟩=>⟨o,es,ep,lS e (D0 e d),d,r⟩
  have Se:K.In (qA s₁.heap H):=fun b o e=>lS (KX b o e) (by
   cases q:H b with
   | none=>rfl
   | some u =>
    have e':b=a:=hA b (by rw [q];simp)
    subst e'
    rw [hK (by rw [q];simp)] at e;cases e)
  have hM:Mod K mg (qA s₁.heap H):=⟨Se,HI pR,⟨mb,HI hb,hbb⟩,let ⟨mc,h1,h2⟩:=HU;⟨mc,HI h1,h2⟩⟩
  have e0:ja P w K mg (qA s₁.heap H) callerA [] s₁ H:=⟨rfl,hM,fun b o e=>ZqL e,ZtB (ZnR _ _),trivial,fun b hb=>absurd (show b∈([]:List Addr) from hb) (by simp),aF,.of_eq hg⟩
  refine codeAny_mono ((F _ Se (HI pR)).run callerA [] s₁ H ⟨[.ref a],[]⟩ [.ref a] [.ref a] _ _ hr e0 (FU s₁ (.ref a)) (.cons rfl .nil) (pX H hO hS)) fun r s' h=>?_
  cases r with
  | error e=>exact (JX H e s' h).elim
  | ok fl =>
   cases fl with
   | next=>exact False.elim h
   | brk=>exact False.elim h
   | cont=>exact False.elim h
   | ret u =>
    obtain ⟨v,H',os,bare,un,hok',r',q⟩:=h
    have q':v=.bl true:=q
    subst q'
    obtain rfl:u=Value.bool true:=r'
    refine ⟨rfl,OldK.of_keep fun b o e=>?_,os,bare⟩
    cases q:H b with
    | none=>exact un.keep b o e q (by intro z;exact absurd (show b∈([]:List Addr) from z) (by simp)) (by simp)
    | some u =>
     rcases hO b with z | ⟨ob,xs,z⟩
     ·rw [q] at z;cases z
     ·have z2:=un.gD b ob _ z
      obtain ⟨e1,_⟩:=aF b _ z
      obtain ⟨e2,_⟩:=hok' b _ z2
      rw [e] at e1;cases e1
      exact e2
 cases hk:K.lookup a with
 | some o =>
  -- oF script is one of oF module's own objects
  have e:=KX a o hk
  rw [ha] at e
  cases e
  refine core (fun _=>none) (fun _=>.inl rfl) (.inr ⟨_,vs.toArray,_,hk,rfl,rfl,rfl,by rw [Zr9,L7];exact hl,by simpa using rv⟩) (fun b u z=>by have z':(none:Option HO)=some u:=z;cases z') (fun b z=>absurd rfl z) fun z=>absurd rfl z
 | none =>
  refine core (fun b=>if b=a then some (.frz { cls:=.type "list",data:=.seq vs.toArray } (.lst (ns.map V.int))) else none) (fun b=>?_) (.inl (.inr ⟨{ cls:=.type "list",data:=.seq vs.toArray },if_pos rfl⟩)) (fun b u z=>?_) (fun b z=>?_) fun _=>hk
  ·by_cases hb:b=a
   ·exact .inr ⟨_,_,if_pos hb⟩
   ·exact .inl (if_neg hb)
  ·by_cases hb:b=a
   ·have z':=(if_pos hb).symm.trans z
    cases z'
    subst hb
    exact ⟨ha,by rw [ZrX];exact hl,vs,_,rv,ha⟩
   ·have z':=(if_neg hb).symm.trans z
    cases z'
  ·by_cases hb:b=a
   ·exact hb
   ·exact absurd (if_neg hb) z
noncomputable abbrev N9 {K:Zrk}{h:Heap} (_:K.In h):Zrk:=K
theorem S6 {l:ZrK}{n k:Nat}{q:Program}{loose:List Str}{XP:(Str->Option Value)->Heap->Prop}{YP:World->Heap->Prop}{d:DefRec}{K:Params->Zrk}{CX:World->lp}{sp:World->Sp}{x:Str}
  (hn:l.most=some n) (ph:n<=sizeLine) (Er:d.params.defaults=[]) (hr:bG k callerA)
  (hY:∀ (w:World) (h:Heap),YP w h->(K w.params).In h)
  (F:∀ (w:World) (mg:Str->Option Value) (fa:Addr) (h:Heap),(K w.params).In h->h.Ns mainGlobals mg->mg d.name=some (.ref fa) ->
   ∃ fd:FuncData,(∀ (s:Shared) (u:Value),BindsTo s fd ⟨[u],[]⟩ [(x,u)]) /\
    ∀ base:Heap,(K w.params).In base->base.Ns mainGlobals mg->aK l.prog w (K w.params) mg base (CX w) k fa fd [x] (sp w))
  (pX:∀ (w:World) (H:Hp) (a:Addr) (ns:List Int),ns.length<=n->uo H->bY (K w.params) H a (ns.map V.int)->sp w [.ref a] H (fun v _=>v=.bl true) fun _ _ _=>False)
  (JX:∀ (w:World) (H:Hp) (s:Shared) (e:Value) (s':Shared),CX w [] H s (fun _ _ _=>False) e s'->False) :
  PySem.W.WalkO q loose XP YP l.row.toRowW d [] (fun f vs=>PySem.call f vs):=by
 refine Tq.Zk4 hn Er fun w s₀ s₁ mg mb fa o pm cd doc a vs ns G Y ho hd mh hmg hobj hints hlen hg=>?_
 have KX:=hY w _ Y
 obtain ⟨fd,hb,hF⟩:=F w mg fa _ KX G.T.g hmg
 exact Zo7 KX G.T.g G.T.b G.T.builtins G.T.nolimit hg hobj hints (Ztv hlen ph) hr hF hb (fun H hO hS=>pX w H a ns hlen hO hS) fun H e s'=>JX w H s₁ e s'
end L2
/- THE LAST THEOREM (shape;LID,My.* are yours):
   My.aN: a structure of oF addresses that your layer names (classes,functions);My.Txt K t: a structure (Prop) of oF equations over K;
   My.txt_mk:{K}{implicit addresses ..} (e1:nsIn K mainGlobals "law" = some (some (.ref f))) (e2:K.lookup f=some ⟨oc,od,.func (fnOf "law" "law" params body scope dV kV doc pm an bS ct),sl⟩) (e3:codeIn K bS "law" = true) .. : ∃ t,My.Txt K t
set_option maxRecDepth 100000 in
set_option maxHeartbeats 0 in
theorem PySem.Challenge.cw_LID_holds : PySem.Challenge.rw_LID.Holds := by
 w_on;o_law;k_head;(case hw=>w_witness2)
 k_fill
 refine L2.S6 (l:=PySem.Challenge.rw_LID) (n:=63) (k:=40) (x:="script") (CX:=fun w=>..) (sp:=fun _=>My.iF) rfl (by decide) rfl ⟨rfl,by decide,by decide⟩ (fun w h Y=>PySem.W.kIn_of Y) ?F ?S ?C
 case F =>
  intro w mg fa h KX G hmg
  have T:∃ t,My.Txt (L2.N9 KX) t:=by
   dsimp only [L2.N9]                          -- K must stand as «<heap const> w.params» for k_is
   refine' My.txt_mk ?e1 ?e2 ?e3 ..
   (case e1 => PySem.W.k_is)                    -- in oF order: a name -> its address -> its object -> its parts
   (case e2=>PySem.W.k_is)
   ..
  obtain ⟨t,T⟩:=T
  have e0:=hmg.symm.trans (Zrn KX G T.law)
  cases e0                                       -- fa is oF law's own address
  exact ⟨_, fun s u => .of_eq rfl, fun base kb nb => My.law_fn T kb nb⟩     -- if «.of_eq rfl» comes too early: refine' ⟨_, ?b, fun base kb nb => My.law_fn T kb nb⟩; exact fun s u => .of_eq rfl
 case S=>exact fun w H a ns hl hO hS=>..
 case C=>exact ..
(oF tactic k_is has no namespace: write k_is) -/
namespace L2
open PySem PySem.Spec PyProof.Rows
noncomputable def eg (s:Stmt) (j:Nat):Stmt:=match s with
 | .ClassDef _ _ _ body _ _ _ _ _ _ _=>body.getD j (.Pass ⟨0,0,0,0⟩)
 | _=>.Pass ⟨0,0,0,0⟩
noncomputable def nV (s:Stmt):Arguments:=match s with
 | .FunctionDef _ a _ _ _ _ _ _ _ _=>a
 | _=>{ posonlyargs:=[],args:=[],vararg:=none,kwonlyargs:=[],kw_defaults:=[],kwarg:=none,defaults:=[] }
noncomputable def kL (s:Stmt):List Stmt:=match s with
 | .FunctionDef _ _ b _ _ _ _ _ _ _=>b
 | _=>[]
noncomputable def bx (s:Stmt):Scope:=match s with
 | .FunctionDef _ _ _ _ _ _ sc _ _ _=>sc
 | _=>{ kind:=.function,names:=[],isGenerator:=false,isCoroutine:=false }
noncomputable abbrev dQ:lp:=fun _ _ _ _ _ _=>False
noncomputable abbrev E0:XK:=fun _ _ _=>False
theorem bZ {X:Cx}:pM dQ X E0:=fun _ _ _ _ _ _ _ h=>h.elim
structure kF (K:Zrk) (x qual:Str) (st:Stmt) (f:Addr) (fd:FuncData):Prop where
 ex:∃ (oc:Value) (od:Option Addr) (kV doc pm:Value) (an:Option Addr) (bS ct:Value) (lV:Array (Option Value)),
  fd=Zro x qual (nV st) (kL st) (bx st) .none kV doc pm an bS ct/\K.lookup f=some ⟨oc,od,.func fd,lV⟩/\Zry K bS qual=true
 kp:Zrv K (.ref f)=true
section
variable {P:Program}{w:World}{K:Zrk}{mg:Str->Option Value}{base:Heap}
theorem kF.ok {x qual:Str}{st:Stmt}{f:Addr}{fd:FuncData}{N ps:List Str}{k:Nat}{sp:Sp} (F:kF K x qual st f fd) (S:aj N ps (bx st)) (len:∀ vs H Q E,sp vs H Q E->vs.length=ps.length)
  (kJ:∀ (bS:Value) (A:Around) (outer:List Env) (s:Shared) (H:Hp) (vs:List V) (Q:VK) (E:XK),bG k (A.deeper (envOfC qual (bx st) s.heap.objs.size f bS))->sp vs H Q E ->
   ∃ t,jl (kT dQ P w K mg base N qual (bx st) f bS A outer s H E).qh (kL st) t/\t { nx:=fun _ H'=>Q .non H',rt:=Q } (start N vs) H):aK P w K mg base dQ (k+1) f fd ps sp:=by
 obtain ⟨oc,od,kV,doc,pm,an,bS,ct,lV,rfl,lk,mh⟩:=F.ex
 refine rT lk mh S len fun A outer s H vs Q E hr pX=>?_
 obtain ⟨t,h,q⟩:=kJ bS A outer s H vs Q E hr pX
 exact ⟨t,h.qh,q⟩
theorem kF.binds {x qual:Str}{st:Stmt}{f:Addr}{fd:FuncData}{ps:List Str} (F:kF K x qual st f fd)
  (h:∀ (kV doc pm:Value) (an:Option Addr) (bS ct:Value) (us:List Value),us.length=ps.length->bindArgs (Zro x qual (nV st) (kL st) (bx st) .none kV doc pm an bS ct) ⟨us,[]⟩=pure (ps.zip us)):oi K fd ps []:=by
 obtain ⟨oc,od,kV,doc,pm,an,bS,ct,lV,rfl,lk,mh⟩:=F.ex
 exact .all (h kV doc pm an bS ct)
theorem Od {x qual:Str}{st:Stmt}{f:Addr}{oc:Value}{od an:Option Addr}{lV:Array (Option Value)}{kV doc pm bS ct:Value} (l:K.lookup f=some ⟨oc,od,.func (Zro x qual (nV st) (kL st) (bx st) .none kV doc pm an bS ct),lV⟩)
  (c:Zry K bS qual=true) (k:Zrv K (.ref f)=true):kF K x qual st f (Zro x qual (nV st) (kL st) (bx st) .none kV doc pm an bS ct):=⟨⟨oc,od,kV,doc,pm,an,bS,ct,lV,rfl,l,c⟩,k⟩
end
theorem gK {A:Around}{k:Nat} (hr:bG k A):A.units+1<cLine:=Nat.lt_of_le_of_lt (Nat.add_le_add_left (by decide:1<=64) _) hr.units
section
variable {X:Cx}
theorem Yx:jO X (.builtin "len") (fun xs H Q=>∃ a kvs,xs=[V.ref a]/\H a=some (.dK kvs)/\Q (.int kvs.length) H):=by
 intro pins s σ H xs us Q I r h
 obtain ⟨a,kvs,rfl,ha,q⟩:=h
 obtain ⟨u,rfl,ru⟩:=pY r
 cases ru
 exact Bj I (.inl ha) fun t s' I'=>⟨.int kvs.length,H,I',⟨t,rfl⟩,q⟩
end
noncomputable def aP (H H':Hp):Prop:=∀ b o,H b=some o->H' b=some o
theorem aP.refl (H:Hp):aP H H:=fun _ _ h=>h
theorem aP.trans {H H1 H2:Hp} (a:aP H H1) (b:aP H1 H2):aP H H2:=fun c o h=>b c o (a c o h)
theorem aP.seq {K:Zrk}{H H':Hp}{a:Addr}{xs:List V} (e:aP H H') (h:bY K H a xs):bY K H' a xs:=by
 rcases h with (h | ⟨o,h⟩) | h
 ·exact .inl (.inl (e _ _ h))
 ·exact .inl (.inr ⟨o,e _ _ h⟩)
 ·exact .inr h
section
variable {κ:Type} [DecidableEq κ]
end
noncomputable def jj (env:Env):List (Str × NameKind)->List (Str × Addr)->List (Str × Addr)
 | [],acc=>acc
 | (n,k) :: r,acc=>if (k == NameKind.free)=true then jj env r ((n,(env.cells.lookup n).getD 0) :: acc) else jj env r acc
theorem Wg {env:Env}{n:Str}{c:Addr} (h:env.cells.lookup n=some c):cellOf env n=pure c:=by
 unfold cellOf
 rw [h]
theorem RT {env:Env}:∀ (names:List (Str × NameKind)) (acc:List (Str × Addr)),(∀ x∈names,x.2=.free->∃ c,env.cells.lookup x.1=some c) ->
  (forIn names acc fun (x:Str × NameKind) (cs:List (Str × Addr))=>(match x with | (name,kind)=>if (kind == NameKind.free)=true then (do let __do_lift <- cellOf env name;pure PUnit.unit;pure (ForInStep.yield ((name,__do_lift) :: cs)):Sem _) else (do pure PUnit.unit;pure (ForInStep.yield cs)):Sem (ForInStep (List (Str × Addr)))))=pure (jj env names acc)
 | [],acc,_=>rfl
 | (n,k) :: r,acc,h=>by
  have ih:=fun a=>RT r a fun x hx=>h x (Zso _ hx)
  rw [List.forIn_cons]
  by_cases hk:(k == NameKind.free)=true
  ·obtain ⟨c,hc⟩:=h (n,k) Zsl (by simpa using hk)
   simp only [hk,if_true,jj,Wg hc,hc,Option.getD_some,pure_bind]
   exact ih _
  ·simp only [hk,if_false,jj,pure_bind]
   exact ih _
theorem Rp {scope:Scope}{env:Env} (h:∀ x∈scope.names,x.2=.free->∃ c,env.cells.lookup x.1=some c):closureFor scope env=pure (jj env scope.names []):=by
 unfold closureFor
 have q:=RT scope.names [] h
 exact (congrArg (fun m=>m >>= pure) q).trans (pure_bind _ _)
theorem Lh {env:Env}:∀ (names:List (Str × NameKind)) (acc:List (Str × Addr)),(∀ x∈names,x.2=.free->∃ c,env.cells.lookup x.1=some c)->(∀ p∈acc,env.cells.lookup p.1=some p.2) ->
  ∀ p∈jj env names acc,env.cells.lookup p.1=some p.2
 | [],acc,_,ha=>ha
 | (n,k) :: r,acc,h,ha=>by
  by_cases hk:(k == NameKind.free)=true
  ·obtain ⟨c,hc⟩:=h (n,k) Zsl (by simpa using hk)
   simp only [jj,hk,if_true]
   refine Lh r _ (fun x hx=>h x (Zso _ hx)) fun p hp=>?_
   rcases Zr7.mp hp with rfl | hp
   ·show env.cells.lookup n=some _
    rw [hc];rfl
   ·exact ha p hp
  ·simp only [jj,hk,if_false]
   exact Lh r _ (fun x hx=>h x (Zso _ hx)) ha
theorem HL {env:Env}:∀ (names:List (Str × NameKind)) (acc:List (Str × Addr)) (p:Str × Addr),p∈acc->p∈jj env names acc
 | [],_,_,h=>h
 | (n,k) :: r,acc,p,h=>by
  by_cases hk:(k == NameKind.free)=true
  ·simp only [jj,hk,if_true]
   exact HL r _ p (Zso _ h)
  ·simp only [jj,hk,if_false]
   exact HL r _ p h
theorem LM {env:Env}:∀ (names:List (Str × NameKind)) (acc:List (Str × Addr)) (x:Str),(x,NameKind.free)∈names->∃ c,(x,c)∈jj env names acc
 | (n,k) :: r,acc,x,h=>by
  rcases Zr7.mp h with e | h
  ·injection e with e1 e2
   subst e1;subst e2
   simp only [jj,beq_self_eq_true,if_true]
   exact ⟨_,HL r _ _ Zsl⟩
  ·by_cases hk:(k == NameKind.free)=true
   ·simp only [jj,hk,if_true]
    exact LM r _ x h
   ·simp only [jj,hk,if_false]
    exact LM r _ x h
theorem QK:∀ {l:List (Str × Addr)}{x:Str}{c:Addr},(x,c)∈l->∃ d,l.lookup x=some d
 | (n,d) :: r,x,c,h=>by
  by_cases e:x == n
  ·exact ⟨d,by simp [Zsv,e]⟩
  ·rcases Zr7.mp h with q | q
   ·injection q with q1 _
    subst q1
    simp at e
   ·obtain ⟨d',hd⟩:=QK q
    exact ⟨d',by simp [Zsv,e,hd]⟩
theorem Jt {env:Env}:∀ {names:List (Str × NameKind)}{x:Str}{k:NameKind},
  (names.map fun (n,k)=>if (k == NameKind.free && env.scope.kind == .function && env.kindOf n == some .cell) then (n,NameKind.cell) else (n,k)).lookup x=some k ->
  ∃ k',names.lookup x=some k'/\(k=k'\/k'=.free)
 | [],_,_,h=>by simp at h
 | (n,j) :: r,x,k,h=>by
  have ih:=@Jt env r x k
  by_cases hc:(j == NameKind.free && env.scope.kind == .function && env.kindOf n == some .cell)=true
  ·simp only [Zsg,hc,if_true,Zsv] at h ⊢
   cases e:x == n with
   | true =>
    rw [e] at h
    refine ⟨j,rfl,.inr ?_⟩
    simp only [Zt6,beq_iff_eq] at hc
    exact hc.1.1
   | false =>
    rw [e] at h
    exact ih h
  ·rw [Zsg] at h
   dsimp only at h
   rw [if_neg hc,Zsv] at h
   rw [Zsv]
   cases e:x == n with
   | true =>
    rw [e] at h
    exact ⟨j,rfl,.inl (by injection h with h;exact h.symm)⟩
   | false =>
    rw [e] at h
    exact ih h
theorem Nj {env:Env}:∀ {names:List (Str × NameKind)}{x:Str},names.lookup x=some .free ->
  (names.map fun (n,k)=>if (k == NameKind.free && env.scope.kind == .function && env.kindOf n == some .cell) then (n,NameKind.cell) else (n,k)).lookup x=some .cell \/
  (names.map fun (n,k)=>if (k == NameKind.free && env.scope.kind == .function && env.kindOf n == some .cell) then (n,NameKind.cell) else (n,k)).lookup x=some .free
 | [],_,h=>by simp at h
 | (n,j) :: r,x,h=>by
  have ih:=@Nj env r x
  cases e:x == n with
  | true =>
   rw [Zsv,e] at h
   injection h with h
   subst h
   rw [Zsg]
   dsimp only
   split
   ·exact .inl (by simp [Zsv,e])
   ·exact .inr (by simp [Zsv,e])
  | false =>
   rw [Zsv,e] at h
   rcases ih h with q | q
   ·left
    rw [Zsg]
    dsimp only
    split <;> simp only [Zsv,e] <;> exact q
   ·right
    rw [Zsg]
    dsimp only
    split <;> simp only [Zsv,e] <;> exact q
noncomputable def nJ (X:Cx) (scope:Scope) (N:List Str) (C:Addr) (s:Shared) (H:Hp) (fp:List Addr):Cx :=
 { X with N:=N,s₀:=s,H₀:=H,env:=compEnvC scope (jj X.env scope.names []) C X.env,outer:=X.stack,stack:=X.stack,ex:=fp,fn:=fun _=>false,pn:=[],xe:=fun _ _=>False }
structure aT (X:Cx) (scope:Scope):Prop where
 kind:scope.kind=.function
 oJ:∀ y∈scope.names,y.2≠.cell
 names:∀ y∈scope.names,y.2=.local->scope.names.lookup y.1=some .local
 free:∀ y∈scope.names,y.2=.free->X.env.kindOf y.1=some .cell\/X.env.kindOf y.1=some .free
section
variable {X:Cx}{pins:List (Addr × Obj)}{σ:St}{H:Hp}{s:Shared}
theorem aT.has {scope:Scope} (S:aT X scope) (ok:X.Ok):∀ x∈scope.names,x.2=.free->∃ c,X.env.cells.lookup x.1=some c:=fun x hx h=>ok.has _ (S.free x hx h)
theorem uz {scope:Scope} (S:aT X scope) (ok:X.Ok) {x:Str}{c:Addr} (h:(jj X.env scope.names []).lookup x=some c):X.env.cells.lookup x=some c :=
 Lh scope.names [] (S.has ok) (fun p hp=>absurd hp (by simp)) (x,c) (PySem.mem_of_lookup h)
theorem KN {scope:Scope} (S:aT X scope) (ok:X.Ok) {x:Str} (h:scope.names.lookup x=some .free):∃ c,(jj X.env scope.names []).lookup x=some c/\X.env.cells.lookup x=some c:=by
 obtain ⟨c,hc⟩:=LM (env:=X.env) scope.names [] x (PySem.mem_of_lookup h)
 obtain ⟨d,hd⟩:=QK hc
 exact ⟨d,hd,uz S ok hd⟩
structure bA (X:Cx) (scope:Scope) (N:List Str) (k:Nat) (sel:List Nat):Prop where
 len:N.length=k+sel.length
 fr:∀ (i j:Nat) (x:Str),sel[i]? = some j->N[k+i]? = some x->X.N[j]? = some x/\scope.names.lookup x=some .free
noncomputable def cst (σ:St) (k:Nat) (sel:List Nat):St:=ZrZ k none ++ sel.map fun j=>(σ[j]?).join
theorem YC {k:Nat}{sel:List Nat}:(cst σ k sel).length=k+sel.length:=by
 unfold cst;rw [Zr0,Zsb,ZrX]
theorem Q5 {scope:Scope}{N:List Str}{fp:List Addr} (S:aT X scope) (I:Inv X pins σ H s) (hf:∀ b∈fp,nE X pins H b) (aX:∀ b∈fp,b<s.heap.objs.size):(nJ X scope N s.heap.objs.size s H fp).Ok where
 mod:=I.ok.mod
 kind:=S.kind
 glob:=I.ok.glob
 blt:=I.ok.blt
 above:=Zts _
 inj:=fun x y c h1 h2=>I.ok.inj x y c (uz S I.ok h1) (uz S I.ok h2)
 has:=fun x h=>by
  have h':(relabel scope X.env).names.lookup x=some .cell\/(relabel scope X.env).names.lookup x=some .free:=h
  rcases h' with h' | h'
  ·obtain ⟨k',e,q⟩:=Jt h'
   rcases q with q | q
   ·subst q
    exact absurd rfl (S.oJ _ (PySem.mem_of_lookup e))
   ·subst q
    obtain ⟨c,hc,_⟩:=KN S I.ok e
    exact ⟨c,hc⟩
  ·obtain ⟨k',e,q⟩:=Jt h'
   have:k'=.free:=by rcases q with q | q;exact q.symm;exact q
   subst this
   obtain ⟨c,hc,_⟩:=KN S I.ok e
   exact ⟨c,hc⟩
 rZ:=fun x c h=>absurd (show false=true from h) (by simp)
 hd:=I.ok.hd
 frames:=I.ok.frames
 xU:=.inl rfl
 D9:=fun b hb=>⟨Ztu (aX b hb),fun x c h=>(hf b hb).2.2.2.2.1 x c (uz S I.ok h)⟩
 bs:=I.bs
 lU:=Ztv I.ok.lU I.sz
 jP:=fun b o e hb=>by
  rcases (hf b hb).2.2.2.1 with z | z
  ·exact I.ok.jP b o e z
  ·exact absurd (Ztw (Heap.lt_size e) (Ztv I.ok.lU z)) (Ztz _)
 ku:=fun b hb z=>by
  rcases Zr7.mp (I.lJ b z) with q | q
  ·exact (hf b hb).2.1 q
  ·exact (hf b hb).2.2.1 q
 eL:=I.stack
 pk:=I.iy
theorem Zq3 {scope:Scope}{N:List Str}{fp:List Addr}{k:Nat}{sel:List Nat}{h₁:Heap}{m:Str->Option Value}{t':Nat} (S:aT X scope) (M:bA X scope N k sel) (I:Inv X pins σ H s) (hf:∀ b∈fp,nE X pins H b) (aX:∀ b∈fp,b<s.heap.objs.size)
  (hn:h₁.Ns s.heap.objs.size m) (hk:∀ b o,s.heap.get? b=some o->h₁.get? b=some o):Inv (nJ X scope N s.heap.objs.size s H fp) [] (cst σ k sel) H { s with heap:=h₁,toks:=t' }:=by
 refine ⟨Q5 S I hf aX,rfl,I.bare,Un.kept hk,⟨m,hn,fun i x v e1 e2 e3=>?_⟩,fun x c e=>?_,I.aF.fresh (Zts _),fun x c e=>I.dv x c (uz S I.ok e),fun p hp=>absurd (show p∈([]:List (Addr × Obj)) from hp) (by simp),I.aF.kept hk,?_⟩
 ·have hi:k<=i:=by
   by_cases hi:k<=i
   ·exact hi
   ·unfold cst at e2
    rw [Zse (by simp;omega),ZsM] at e2
    split at e2 <;> cases e2
  obtain ⟨d,rfl⟩:∃ d,i=k+d:=⟨i - k,by omega⟩
  unfold cst at e2
  rw [Zsi (by simp),Zsb,Nat.add_sub_cancel_left,Zsa] at e2
  cases ej:sel[d]? with
  | none=>rw [ej] at e2;cases e2
  | some j =>
   rw [ej] at e2
   have e2':(σ[j]?).join=some v:=Option.some.inj e2
   have e4:σ[j]? = some (some v):=by
    cases q:σ[j]? with
    | none=>rw [q] at e2';cases e2'
    | some o=>rw [q] at e2';cases o with
     | none=>cases e2'
     | some w=>cases e2';rfl
   obtain ⟨hN,kZ⟩:=M.fr d j x ej e1
   obtain ⟨mo,kG,fj⟩:=I.loc
   have mj:=S.free _ (PySem.mem_of_lookup kZ) rfl
   obtain ⟨u,ru,lu⟩:=fj j x v hN e4 (by rcases mj with q | q;exact .inr (.inl q);exact .inr (.inr q))
   obtain ⟨c,hc,hc'⟩:=KN S I.ok kZ
   refine ⟨u,ru,.inr ⟨?_,c,hc,?_⟩⟩
   ·exact Nj kZ
   ·rcases lu with ⟨kl,_⟩ | ⟨_,c',e5,z⟩
    ·rcases mj with q | q
     ·rw [kl] at q;cases q
     ·rw [kl] at q;cases q
    ·rw [hc'] at e5;cases e5
     obtain ⟨o,ho,hd⟩:=z
     exact ⟨o,hk _ _ ho,hd⟩
 ·obtain ⟨v,o,ho,hd⟩:=I.cell x c (uz S I.ok e)
  exact ⟨v,o,hk _ _ ho,hd⟩
 ·rw [YC];exact M.len.symm
end
noncomputable def um (X:Cx) (ifs:List Expr) (t:TT):Prop :=
 ∀ (pins:List (Addr × Obj)) (s:Shared) (σ:St) (H:Hp) (Q:Bool->Hp->Prop),Inv X pins σ H s->t σ H Q ->
  wpAny (model X.prog X.w) X.A (forIn ifs true fun c r=>if r=true then do let ok <- isTrue c X.env (eval c X.env);pure (ForInStep.yield ok) else pure (ForInStep.yield r)) (TP X pins σ Q) X.xe s
noncomputable def lx:TT:=fun _ H Q=>Q true H
theorem sR {X:Cx}:um X [] lx:=fun pins s σ H Q I h=>wpAny_tests_nil ⟨H,I,h⟩
theorem AH {X:Cx}{c:Expr}{t:TT} (hc:PT X c t):um X [c] t:=fun pins s σ H Q I h=>wpAny_tests_one (hc pins s σ H Q I h)
noncomputable def jn (wi:TI) (k:Nat) (sel:List Nat) (g:TG) (tt:TT) (te:TE):TE:=fun σ H Q=>wi σ H fun J H1=>∀ p,H1 p=none ->
 ∃ W:Nat->Nat->St->Hp->Prop,(∃ m,W 0 m (cst σ k sel) (upd H1 p (.lst [])))/\∀ i m σ2 H2,W i m σ2 H2 ->
  (J.stop i H2/\Q (.ref p) H2)\/(J.go i H2/\∀ x H3,J.lL i H2 x H3->g x σ2 H3 fun σ4 H4=>tt σ4 H4 fun b H5 =>
   if b=true then te σ4 H5 fun v H6=>∃ ys,H6 p=some (.lst ys)/\ys.length<sizeLine/\∃ m',m'<m/\W (i+1) m' σ4 (upd H6 p (.lst (ys ++ [v]))) else ∃ m',m'<m/\W (i+1) m' σ4 H5)
theorem Zod {X:Cx}{elt tg iter:Expr}{ifs:List Expr}{scope:Scope}{pos:Pos}{it D:Addr}{fp:List Addr}{tn:Nat->Heap->Prop}{J:It}{g:TG}{tt:TT}{te:TE}{W:Nat->Nat->St->Hp->Prop}{R:Result->Shared->Prop}{QQ:Hp->Prop}
  (hx:X.xe=fun _ _=>False) (hc:X.calm=true) (T:Turn X.prog X.w X.K tg J fp it tn) (hg:PG X tg g) (ht:um X ifs tt) (he:PE X elt te)
  (V4:∀ b∈fp,b≠X.env.locals/\b ∉ X.fs/\(b∈X.ex\/X.s₀.heap.objs.size<=b)/\(∀ x c,X.env.cells.lookup x=some c->c≠b)/\∀ p∈X.pn ++ [],p.1≠b)
  (turn:∀ i m σ2 H2,W i m σ2 H2 ->
   (J.stop i H2/\QQ H2)\/(J.go i H2/\∀ x H3,J.lL i H2 x H3->g x σ2 H3 fun σ4 H4=>tt σ4 H4 fun b H5 =>
    if b=true then te σ4 H5 fun v H6=>∃ ys,H6 D=some (.lst ys)/\ys.length<sizeLine/\∃ m',m'<m/\W (i+1) m' σ4 (upd H6 D (.lst (ys ++ [v]))) else ∃ m',m'<m/\W (i+1) m' σ4 H5))
  (hR:∀ s' σ' H',Inv X [] σ' H' s'->QQ H'->R (.ok .next) s') {s:Shared} (m0:Nat) (h:∃ i σ' H',Inv X [] σ' H' s/\tn i s.heap/\(∀ b∈fp,H' b=none)/\W i m0 σ' H') :
  codeAny (model X.prog X.w) X.A (.compLoop (.ListComp elt [⟨tg,iter,ifs,0⟩] scope pos) 0 (.ref it) (.ref D) X.env) R s:=by
 have stat:∀ {H':Hp},(∀ b∈fp,H' b=none)->∀ b∈fp,nE X [] H' b:=fun hn b hb=>⟨hn b hb,V4 b hb⟩
 have yJ:∀ {α:Type}{t:Sem α}{Q:α->Shared->Prop}{E:Value->Shared->Prop}{s:Shared},wpAny (model X.prog X.w) X.A t Q X.xe s->wpAny (model X.prog X.w) X.A t Q E s:=fun {α t Q E s} h=>by
  rw [hx] at h
  exact wpAny_noRaise h
 refine codeAny_loop rfl (fun n s'=>∃ i σ' H',Inv X [] σ' H' s'/\tn i s'.heap/\(∀ b∈fp,H' b=none)/\W i n σ' H') (fun n s3 hI=>?_) m0 h
 obtain ⟨i,σ3,H3,I3,bR,fr3,w3⟩:=hI
 show wpAny _ X.A ((compTurn (.ListComp elt [⟨tg,iter,ifs,0⟩] scope pos) 0 (.ref it) (.ref D) X.env).onRaise (fun x=>do noteFrame x X.env;theTreesLotGoes x)) _ _ s3
 refine wpAny_noted ?_
 rw [compTurn_list]
 rcases turn i n σ3 H3 w3 with ⟨stop,qn⟩ | ⟨go,step⟩
 ·refine wpAny_bind (wpAny_standAt (wpAny_bind (aS (yJ (T.done X rfl rfl rfl hc i [] s3 σ3 H3 X.xe I3 (stat fr3) bR stop)) fun r s4 ⟨hr,I4⟩=>?_)))
  subst hr
  exact wpAny_pure (hR s4 σ3 H3 I4 qn)
 ·refine wpAny_bind (wpAny_standAt (wpAny_bind (aS (yJ (T.item X rfl rfl rfl hc i [] s3 σ3 H3 X.xe I3 (stat fr3) bR go)) fun r s4 ⟨u,hr,h4⟩=>?_)))
  subst hr
  refine wpAny_bind (aS (yJ h4) fun _ s5 ⟨x,H5,I5,r5,y5,st5,fr5⟩=>?_)
  have I5':=I5.pinned (stat fr5) (T.obj _ _ st5)
  refine wpAny_bind (aS (yJ (hg _ s5 σ3 H5 x u _ I5' r5 (step x H5 y5))) fun _ s6 ⟨σ6,H6,I6,q6⟩=>?_)
  refine wpAny_bind (aS (yJ (ht _ s6 σ6 H6 _ I6 q6)) fun ok s7 ⟨H7,I7,q7⟩=>?_)
  have again:∀ {s8:Shared}{H8:Hp},Inv X ([] ++ Ek fp s5.heap) σ6 H8 s8->(∃ m',m'<n/\W (i+1) m' σ6 H8)->∃ m,m<n/\∃ i σ' H',Inv X [] σ' H' s8/\tn i s8.heap/\(∀ b∈fp,H' b=none)/\W i m σ' H':=fun {s8 H8} I8 n8=>by
   obtain ⟨m',hm,w8⟩:=n8
   refine ⟨m',hm,i+1,σ6,H8,I8.gd,T.keep _ _ _ st5 fun b hb o e=>(I8.pin (b,o) (Zsm _ (Zsm _ (Hg hb e)))).1,fun b hb=>?_,w8⟩
   obtain ⟨o,e,d⟩:=T.obj _ _ st5 b hb
   exact (I8.pin (b,o) (Zsm _ (Zsm _ (Hg hb e)))).2.1
  cases ok with
  | false=>exact wpAny_pure ⟨rfl,again I7 q7⟩
  | true =>
   refine wpAny_bind (wpAny_bind (aS (yJ (he _ s7 σ6 H7 _ I7 q7)) fun y s8 ⟨v,H8,I8,r8,ys,hys,hl,q8⟩=>?_))
   refine wpAny_bind (aS (yJ (kS _ s8 σ6 H8 (.ref D) [v] (.ref D) [y] (fun _ H9=>∃ m',m'<n/\W (i+1) m' σ6 H9) I8 rfl (.cons r8 .nil) ⟨D,ys,v,rfl,rfl,hys,hl,q8⟩)) fun _ s9 ⟨_,H9,I9,_,q9⟩=>?_)
   exact wpAny_pure (wpAny_pure ⟨rfl,again I9 q9⟩)
structure Fw (X:Cx) (pins:List (Addr × Obj)) (H:Hp) (C:Addr) (s:Shared):Prop where
 none:H C=Option.none
 ne:C≠X.env.locals
 above:X.s₀.heap.objs.size<=C
 cells:∀ x c,X.env.cells.lookup x=some c->c≠C
 pins:∀ p∈X.pn ++ pins,p.1≠C
 ns:∃ m,s.heap.Ns C m
theorem Ql {X:Cx}{pins:List (Addr × Obj)}{σ:St}{elt tg iter:Expr}{ifs:List Expr}{scope:Scope}{pos:Pos}{N:List Str}{k:Nat}{sel:List Nat}{g:TG}{tt:TT}{te:TE}{tI:Value}{s2:Shared}{QQ:VK}{use:Option (Value->Sem Unit)}{Qv:Value->Shared->Prop}
  (S:aT X scope) (M:bA X scope N k sel) (hc:X.calm=true)
  (hg:∀ C s H fp,PG (nJ X scope N C s H fp) tg g) (ht:∀ C s H fp,um (nJ X scope N C s H fp) ifs tt) (he:∀ C s H fp,PE (nJ X scope N C s H fp) elt te)
  (fin:∀ D C s' H',Inv X pins σ H' s'->Fw X pins H' C s'->QQ (.ref D) H'->compPost (model X.prog X.w) X.A X.xe use Qv (.ref D) C (.ok .next) s')
  (h2:K6 X pins σ tg (fun J H1=>∀ p,H1 p=none->∃ W:Nat->Nat->St->Hp->Prop,(∃ m,W 0 m (cst σ k sel) (upd H1 p (.lst [])))/\∀ i m σ2 H2,W i m σ2 H2 ->
   (J.stop i H2/\QQ (.ref p) H2)\/(J.go i H2/\∀ x H3,J.lL i H2 x H3->g x σ2 H3 fun σ4 H4=>tt σ4 H4 fun b H5 =>
    if b=true then te σ4 H5 fun v H6=>∃ ys,H6 p=some (.lst ys)/\ys.length<sizeLine/\∃ m',m'<m/\W (i+1) m' σ4 (upd H6 p (.lst (ys ++ [v]))) else ∃ m',m'<m/\W (i+1) m' σ4 H5)) tI s2) :
  wpAny (model X.prog X.w) X.A (newList []) (fun acc s₃=>wpAny (model X.prog X.w) X.A (newFunctionEnv scope X.env.globals (jj X.env scope.names []) [] X.env.qual none .none (some X.env)) (fun Bt s₄ =>
   codeAny (model X.prog X.w) X.A (.compStart (.ListComp elt [⟨tg,iter,ifs,0⟩] scope pos) 0 tI acc { Bt with scope:=relabel scope X.env }) (compPost (model X.prog X.w) X.A X.xe use Qv acc Bt.locals) s₄) X.xe s₃) X.xe s2:=by
 obtain ⟨it,fp,tn,J,H2,rfl,I2,T,st2,f2,R2⟩:=h2
 have hD:H2 s2.heap.objs.size=none:=I2.aF.fresh (Zts _)
 obtain ⟨W,⟨m0,w0⟩,turn⟩:=R2 _ hD
 refine wpAny_newObj_type ?_
 have I3:=I2.wj (its:=[]) (ys:=[]) (t':=s2.toks) .nil (Ztx _)
 generalize hs3:({ s2 with heap:=s2.heap.push { cls:=.type "list",data:=.seq ([]:List Value).toArray },toks:=s2.toks }:Shared)=s3 at I3
 have e3:({ s2 with heap:=s2.heap.push { cls:=.type "list",dict:=none,data:=.seq ([]:List Value).toArray } }:Shared)=s3:=by rw [<- hs3]
 have up:∀ b o,s2.heap.get? b=some o->s3.heap.get? b=some o:=fun b o e=>by rw [<- hs3];exact Heap.get?_push_of_some _ e
 have hsz:s2.heap.objs.size<=s3.heap.objs.size:=by rw [<- hs3];show _<=(s2.heap.push _).objs.size;rw [Heap.size_push];exact Nat.le_succ _
 have Ea:∀ b∈fp,b<s2.heap.objs.size:=fun b hb=>by
  obtain ⟨o,e,_⟩:=T.obj _ _ st2 b hb
  exact Heap.lt_size e
 have aX:∀ b∈fp,b<s3.heap.objs.size:=fun b hb=>Ztw (Ea b hb) hsz
 have f3:∀ b∈fp,nE X pins (upd H2 s2.heap.objs.size (.lst [])) b:=fun b hb=>⟨by rw [aQ (Ztu (Ea b hb))];exact (f2 b hb).1,(f2 b hb).2⟩
 refine wpAny_newFunctionEnv S.oJ (by intro y hy;simp at hy) (fun h₁ hns₁ hsb₁=>?_) S.kind
 have N8:∀ b o,s3.heap.get? b=some o->h₁.get? b=some o:=fun b o e=>hsb₁.extBut b o (Ztu (Heap.lt_size e)) (Heap.get?_push_of_some _ e)
 have Ic:=Zq3 (N:=N) (k:=k) (sel:=sel) (t':=s3.toks+([]:List (Str × Value)).length) S M I3 f3 aX hns₁ N8
 have Nz:tn 0 h₁:=T.keep _ _ _ st2 fun b hb o e=>N8 b o (up b o e)
 have fr:∀ b∈fp,(upd H2 s2.heap.objs.size (.lst [])) b=none:=fun b hb=>(f3 b hb).1
 have loop:codeAny (model X.prog X.w) X.A (.compLoop (.ListComp elt [⟨tg,iter,ifs,0⟩] scope pos) 0 (.ref it) (.ref s2.heap.objs.size) (compEnvC scope (jj X.env scope.names []) s3.heap.objs.size X.env))
   (compPost (model X.prog X.w) X.A X.xe use Qv (.ref s2.heap.objs.size) s3.heap.objs.size) { s3 with heap:=h₁,toks:=s3.toks+([]:List (Str × Value)).length }:=by
  refine Zod (X:=nJ X scope N s3.heap.objs.size s3 (upd H2 s2.heap.objs.size (.lst [])) fp) (QQ:=fun H'=>QQ (.ref s2.heap.objs.size) H') (W:=W) rfl hc T (hg _ _ _ _) (ht _ _ _ _) (he _ _ _ _) (fun b hb=>?_) turn (fun s' σ' H' I' q'=>?_) m0 ⟨0,cst σ k sel,_,Ic,Nz,fr,w0⟩
  ·refine ⟨Ztu (aX b hb),?_,.inl hb,fun x c h=>(f3 b hb).2.2.2.2.1 x c (uz S I3.ok h),fun p hp=>absurd (show p∈([]:List (Addr × Obj)) from hp) (by simp)⟩
   exact (Q5 (N:=N) S I3 f3 aX).ku b hb
  ·have Ie:Inv X pins σ H' s':=I3.CA (ch:=fp) I'.os I'.base I'.aF I'.bare fun b hb=>⟨(f3 b hb).2.2.2.1,(f3 b hb).2.1,(f3 b hb).2.2.2.2.1,(f3 b hb).2.2.2.2.2⟩
   refine fin _ _ s' H' Ie ⟨I'.free,?_,Ztv I3.sz (Zts _),fun x c e=>?_,fun p hp=>?_,?_⟩ q'
   ·exact Ne.symm (Ztu I3.lt)
   ·obtain ⟨v,o,ho,_⟩:=I3.cell x c e
    exact Ztu (Heap.lt_size ho)
   ·exact Ztu (Heap.lt_size (I3.pin p hp).1)
   ·obtain ⟨m,hn,_⟩:=I'.loc
    exact ⟨m,hn⟩
 exact codeAny_compStart_list loop (T.self X.A 0 _ _ _ Nz loop)
section
variable {X:Cx}{elt tg iter:Expr}{ifs:List Expr}{scope:Scope}{pos:Pos}{N:List Str}{k:Nat}{sel:List Nat}{wi:TI}{g:TG}{tt:TT}{te:TE}
theorem ze (S:aT X scope) (M:bA X scope N k sel) (hc:X.calm=true) (hi:PI X tg iter wi)
  (hg:∀ C s H fp,PG (nJ X scope N C s H fp) tg g) (ht:∀ C s H fp,um (nJ X scope N C s H fp) ifs tt) (he:∀ C s H fp,PE (nJ X scope N C s H fp) elt te)
  (hs:∀ x,foldedSetIterable iter X.env x=pure x:=by intro _;rfl):PE X (.ListComp elt [⟨tg,iter,ifs,0⟩] scope pos) (jn wi k sel g tt te):=by
 intro pins s σ H Q I h
 rw [eval_ListComp]
 refine wpAny_comprehension_free (use:=none) rfl hs (Rp (S.has I.ok)) S.kind S.names (aS (hi pins s σ H _ I h) fun v s1 h1=>aS h1 fun tI s2 h2=>?_)
 refine Ql (QQ:=Q) S M hc hg ht he (fun D C s' H' I' F q=>?_) h2
 obtain ⟨m,hn⟩:=F.ns
 exact ⟨m,hn,fun h' hsb=>⟨.ref D,H',I'.turned (t':=s'.toks) (fun b o hb e=>hsb.extBut b o hb e) F.none F.ne (.inr F.above) F.cells F.pins,rfl,q⟩⟩
theorem xE {i:Nat}{y:Str}{py Bd:Pos} (S:aT X scope) (M:bA X scope N k sel) (hc:X.calm=true) (hi:PI X tg iter wi)
  (hg:∀ C s H fp,PG (nJ X scope N C s H fp) tg g) (ht:∀ C s H fp,um (nJ X scope N C s H fp) ifs tt) (he:∀ C s H fp,PE (nJ X scope N C s H fp) elt te)
  (hN:X.N.Nodup) (UJ:X.N[i]? = some y) (hy:Loc X.env.scope y)
  (Zq:swapsWith (.ListComp elt [⟨tg,iter,ifs,0⟩] scope pos) (some (.Name y py)) Bd.line X.env=pure true)
  (hs:∀ x,foldedSetIterable iter X.env x=pure x:=by intro _;rfl) (hf:X.fn y=true\/X.env.scope.names.lookup y=some .local:=by first | exact .inl rfl | exact .inr rfl | assumption) :
  PS X (.Assign [.Name y py] (.ListComp elt [⟨tg,iter,ifs,0⟩] scope pos) Bd) (bb (jn wi k sel g tt te) (aE i)):=by
 intro pins s σ H D I h
 rw [exec_Assign_Name_used _ _ _ _ Zq]
 refine wpAny_bind (wpAny_standAt (wpAny_bind ?_))
 show wpAny _ X.A (do let _ <- comprehension (.ListComp elt [⟨tg,iter,ifs,0⟩] scope pos) scope X.env _ (newList []) false (eval iter X.env) (some (assign (.Name y py) X.env))) _ _ s
 refine wpAny_bind (wpAny_mono (wpAny_comprehension_free (use:=some (assign (.Name y py) X.env)) (Q:=fun _ s'=>SP X pins D .next s') rfl hs (Rp (S.has I.ok)) S.kind S.names
  (aS (hi pins s σ H _ I h) fun v s1 h1=>aS h1 fun tI s2 h2=>?_)) (fun _ s' hq=>wpAny_pure (wpAny_pure hq)) fun _ _ e=>e)
 refine Ql (QQ:=fun v H1=>D.nx (σ.set i (some v)) H1) S M hc hg ht he (fun Da C s' H' I' F q=>?_) h2
 show wpAny _ X.A (assign (.Name y py) X.env (.ref Da)) _ _ _
 refine wpAny_assign_Name (OE I' hN UJ hy (v:=.ref Da) rfl (fun s'' I'' kY=>?_) hf)
 obtain ⟨m,hn⟩:=F.ns
 obtain ⟨a,hsb,ha⟩:=kY
 have V9:C≠a:=by
  rcases ha with ha | ha
  ·rw [ha];exact F.ne
  ·exact Ne.symm (F.cells _ _ ha)
 refine ⟨m,hn.sameBut hsb V9,fun h' hsb'=>⟨σ.set i (some (.ref Da)),H',I''.turned (t':=s''.toks) (fun b o hb e=>hsb'.extBut b o hb e) F.none F.ne (.inr F.above) F.cells F.pins,q⟩⟩
end
section
variable {X:Cx}
theorem PE.imp {e:Expr}{t t':TE} (h:PE X e t) (f:∀ σ H Q,t' σ H Q->t σ H Q):PE X e t':=fun pins s σ H Q I q=>h pins s σ H Q I (f σ H Q q)
theorem cy.imp {g:Value->Value->Sem Value}{r r':R2} (h:cy X g r) (f:∀ x y H Q,r' x y H Q->r x y H Q):cy X g r':=fun pins s σ H x y v u Q I rx ry q=>h pins s σ H x y v u Q I rx ry (f x y H Q q)
theorem mv.imp {r r':R2} (h:mv X r) (f:∀ x y H Q,r' x y H Q->r x y H Q):mv X r':=fun value slice pins s σ H x y v u Q I rx ry q=>h value slice pins s σ H x y v u Q I rx ry (f x y H Q q)
theorem qd.imp {r r':V->Option Int->Option Int->Hp->VK->Prop} (h:qd X r) (f:∀ x lo hi H Q,r' x lo hi H Q->r x lo hi H Q):qd X r':=fun pins s σ H x v vl vu lo hi sl Q I rx hs pl pu q=>h pins s σ H x v vl vu lo hi sl Q I rx hs pl pu (f x lo hi H Q q)
noncomputable def aa (i:Nat):TE:=fun σ H Q=>match σ[i]? with | some (some v)=>Q v H | _=>False
theorem WU {i:Nat}{σ:St}{H:Hp}{Q:VK} (h:aa i σ H Q):EH i σ H Q:=by
 unfold aa at h
 split at h
 ·exact ⟨_,by assumption,h⟩
 ·exact h.elim
theorem cv (i:Nat) {x:Str}{pos:Pos} (hN:X.N[i]? = some x:=by rfl) (hv:IQ X.env.scope x:=by first | exact Or.inl rfl | exact Or.inr (Or.inl rfl) | exact Or.inr (Or.inr rfl)) (hd:(x == ("__debug__" : Str))=false:=by decide)
  (mh:(x == ("__classdict__" : Str))=false:=by decide):PE X (.Name x pos) (aa i):=(wK hN hv hd mh).imp fun _ _ _ h=>WU h
noncomputable def cf (f:Int->Int->V):R2:=fun x y H Q=>match x,y with | .int i,.int j=>Q (f i j) H | _,_=>False
noncomputable def bU (C:Int->Int->Prop) (f:Int->Int->V):R2:=fun x y H Q=>match x,y with | .int i,.int j=>C i j/\Q (f i j) H | _,_=>False
theorem zp {f:Int->Int->V}{x y:V}{H:Hp}{Q:VK} (h:cf f x y H Q):pI f x y H Q:=by
 cases x <;> cases y <;> first | exact False.elim h | exact ⟨_,_,rfl,rfl,h⟩
theorem QD {C:Int->Int->Prop}{f:Int->Int->V}{x y:V}{H:Hp}{Q:VK} (h:bU C f x y H Q):rI C f x y H Q:=by
 cases x <;> cases y <;> first | exact False.elim h | exact ⟨_,_,rfl,rfl,h.1,h.2⟩
theorem kE:cy X (binaryOp .Sub) (cf fun i j=>.int (i - j)):=wk.imp fun _ _ _ _ h=>zp h
theorem eE:cy X (binaryOp .FloorDiv) (bU eA fun i j=>.int (i / j)):=ZqI.imp fun _ _ _ _ h=>QD h
theorem gh:cy X (binaryOp .Mod) (bU (fun _ j=>0<j) fun i j=>.int (i % j)):=yI.imp fun _ _ _ _ h=>QD h
theorem zJ:cy X (binaryOp .BitXor) (cf fun i j=>.int (Builtin.bitXor i j)):=t6.imp fun _ _ _ _ h=>zp h
theorem oZ:cy X (compareOp .Lt) (cf fun i j=>.bl (decide (i<j))):=Bp.imp fun _ _ _ _ h=>zp h
theorem mY:cy X (compareOp .LtE) (cf fun i j=>.bl (decide (i<=j))):=Dz.imp fun _ _ _ _ h=>zp h
theorem mU:cy X (compareOp .Gt) (cf fun i j=>.bl (decide (j<i))):=Fx.imp fun _ _ _ _ h=>zp h
theorem oK:cy X (compareOp .GtE) (cf fun i j=>.bl (decide (j<=i))):=Dm.imp fun _ _ _ _ h=>zp h
noncomputable def ef:R2:=fun x y H Q=>match x,y with
 | .int i,.int j=>Q (.int (i+j)) H
 | .str i,.str j=>i.length+j.length<=sizeLine/\Q (.str (i ++ j)) H
 | .ref l,.ref b=>∃ xs zs,H l=some (.lst xs)/\H b=some (.lst zs)/\xs.length+zs.length<=sizeLine/\∀ p,H p=none->Q (.ref p) (upd H p (.lst (xs ++ zs)))
 | _,_=>False
theorem eC:cy X (binaryOp .Add) ef:=by
 intro pins s σ H x y v u Q I rx ry h
 cases x <;> cases y <;> first
  | exact False.elim h
  | exact uA pins s σ H _ _ v u Q I rx ry ⟨_,_,rfl,rfl,h⟩
  | exact Ys pins s σ H _ _ v u Q I rx ry ⟨_,_,rfl,rfl,h.1,h.2⟩
  | (obtain ⟨xs,zs,h1,h2,h3,h4⟩:=h;exact tM pins s σ H _ _ v u Q I rx ry ⟨_,_,xs,zs,rfl,rfl,h1,h2,h3,h4⟩)
inductive dF (K:Zrk) (H:Hp):Nat->V->V->Prop where
 | flat {n:Nat}{x:V} (f:jN x=true):dF K H n x x
 | lst {n:Nat}{a b:Addr}{xs ys:List V} (h1:bY K H a xs) (h2:bY K H b ys) (hl:xs.length=ys.length) (h:∀ (i:Nat) x y,xs[i]? = some x->ys[i]? = some y->dF K H n x y):dF K H (n+1) (.ref a) (.ref b)
 | tup {n:Nat}{a b:Addr}{xs ys:List V} (h1:dR K H a xs) (h2:dR K H b ys) (hl:xs.length=ys.length) (h:∀ (i:Nat) x y,xs[i]? = some x->ys[i]? = some y->dF K H n x y):dF K H (n+1) (.ref a) (.ref b)
theorem sW {pins:List (Addr × Obj)}{σ:St}{H:Hp}{s:Shared}{a:Addr}{xs:List V} (I:Inv X pins σ H s) (h:bY X.K H a xs):∃ its:List Value,Vals xs its/\s.heap.IsList a its.toArray:=by
 obtain ⟨its,r,p,_⟩:=I.list h
 exact ⟨its,r,p.isList⟩
theorem Tz {A:Around}{n:Nat} (h:A.units+(n+1)<cLine):A.in1.units+n<cLine:=by
 have e:A.in1.units=A.units+1:=rfl
 omega
theorem Iq {pins:List (Addr × Obj)}{σ:St}{H:Hp}{s:Shared} (I:Inv X pins σ H s):∀ {n:Nat}{x y:V},dF X.K H n x y->∀ (A:Around) {u v:Value},A.units+n<cLine->bu x u->bu y v->SeqAt.EqAt A s u v true
 | _,_,_,.flat f,A,u,v,hu,rx,ry=>by
  have e:=MJ (A:=A) (s:=s) rx ry f f
  rename_i n x
  have q:jh x x=true:=by cases x <;> first | rfl | (simp [jh];done) | exact absurd f (by simp [jN])
  rw [q] at e
  exact e
 | _,_,_,@dF.lst _ _ n a b xs ys h1 h2 hl h,A,u,v,hu,rx,ry=>by
  cases rx;cases ry
  by_cases gX:a=b
  ·subst gX;exact SeqAt.EqAt.same _
  ·obtain ⟨its,r1,p1⟩:=sW I h1
   obtain ⟨its2,r2,p2⟩:=sW I h2
   have e1:=r1.length
   have e2:=r2.length
   have q:=SeqAt.RcAt.lists (A:=A) (e:=fun _=>true) p1 p2 (by simp;omega) (by omega) (fun j j1 j2=>by
    have j1':j<its.length:=by simpa using j1
    have j2':j<its2.length:=by simpa using j2
    obtain ⟨w1,q1,s1⟩:=r1.get (i:=j) (x:=xs[j]'(by omega)) (by simp)
    obtain ⟨w2,q2,s2⟩:=r2.get (i:=j) (x:=ys[j]'(by omega)) (by simp)
    have z1:its.toArray[j]=w1:=by
     have:=Zr1.mp q1
     obtain ⟨_,z⟩:=this
     simpa using z
    have z2:its2.toArray[j]=w2:=by
     have:=Zr1.mp q2
     obtain ⟨_,z⟩:=this
     simpa using z
    rw [z1,z2]
    exact Iq I (h j _ _ (by simp) (by simp)) A.in1 (Tz hu) s1 s2)
   have:((Zr6 its.toArray.size).all fun _=>true)=true:=by simp
   rw [this] at q
   exact SeqAt.EqAt.of_refs gX q
 | _,_,_,@dF.tup _ _ n a b xs ys h1 h2 hl h,A,u,v,hu,rx,ry=>by
  cases rx;cases ry
  by_cases gX:a=b
  ·subst gX;exact SeqAt.EqAt.same _
  ·obtain ⟨its,r1,p1,_⟩:=I.tuple h1
   obtain ⟨its2,r2,p2,_⟩:=I.tuple h2
   have e1:=r1.length
   have e2:=r2.length
   have q:=SeqAt.RcAt.tuples (A:=A) (e:=fun _=>true) p1 p2 (by omega) (fun j j1 j2=>by
    have j1':j<its.length:=by simpa using j1
    have j2':j<its2.length:=by simpa using j2
    obtain ⟨w1,q1,s1⟩:=r1.get (i:=j) (x:=xs[j]'(by omega)) (by simp)
    obtain ⟨w2,q2,s2⟩:=r2.get (i:=j) (x:=ys[j]'(by omega)) (by simp)
    have z1:its.toArray[j]=w1:=by
     have:=Zr1.mp q1
     obtain ⟨_,z⟩:=this
     simpa using z
    have z2:its2.toArray[j]=w2:=by
     have:=Zr1.mp q2
     obtain ⟨_,z⟩:=this
     simpa using z
    rw [z1,z2]
    exact Iq I (h j _ _ (by simp) (by simp)) A.in1 (Tz hu) s1 s2)
   have:(((Zr6 (min its.toArray.size its2.toArray.size)).all fun _=>true) && its.toArray.size == its2.toArray.size)=true:=by simp;omega
   rw [this] at q
   exact SeqAt.EqAt.of_refs gX q
end
section
variable {X:Cx}{a b c:Expr}{ta tb tc:TE}{pos:Pos}
noncomputable def ow (xs ys:List V):Bool:=xs.length == ys.length && (Zr6 xs.length).all fun i=>jh (xs.getD i .non) (ys.getD i .non)
theorem tY {xs ys:List V}{us ws:List Value} (r1:Vals xs us) (r2:Vals ys ws) (f1:xs.all jN=true) (f2:ys.all jN=true) (A:Around) (s:Shared) :
  ∀ j (h1:j<us.toArray.size) (h2:j<ws.toArray.size),SeqAt.EqAt A s us.toArray[j] ws.toArray[j] (jh (xs.getD j .non) (ys.getD j .non)):=fun j j1 j2=>by
 have e1:=r1.length
 have e2:=r2.length
 have j1':j<us.length:=by simpa using j1
 have j2':j<ws.length:=by simpa using j2
 have x1:j<xs.length:=by omega
 have y1:j<ys.length:=by omega
 obtain ⟨w1,q1,s1⟩:=r1.get (i:=j) (x:=xs[j]) (by simp)
 obtain ⟨w2,q2,s2⟩:=r2.get (i:=j) (x:=ys[j]) (by simp)
 have z1:us.toArray[j]=w1:=by
  obtain ⟨_,z⟩:=Zr1.mp q1
  simpa using z
 have z2:ws.toArray[j]=w2:=by
  obtain ⟨_,z⟩:=Zr1.mp q2
  simpa using z
 rw [z1,z2]
 have g1:xs.getD j .non=xs[j]:=by simp [Zsw,x1]
 have g2:ys.getD j .non=ys[j]:=by simp [Zsw,y1]
 rw [g1,g2]
 exact MJ s1 s2 (Zs2.mp f1 _ (ZsD _)) (Zs2.mp f2 _ (ZsD _))
noncomputable def LD (K:Zrk) (H:Hp) (p q:Addr) (k:Bool):Prop :=
 (k=true/\dF K H 4 (.ref p) (.ref q)) \/
 (∃ xs ys,bY K H p xs/\bY K H q ys/\xs.all jN=true/\ys.all jN=true/\k=ow xs ys) \/
 (k=false/\∃ xs ys,bY K H p xs/\bY K H q ys/\xs.length≠ys.length) \/
 (∃ xs ys,dR K H p xs/\dR K H q ys/\xs.all jN=true/\ys.all jN=true/\k=ow xs ys)
theorem Te {pins:List (Addr × Obj)}{σ:St}{H:Hp}{s:Shared}{p q:Addr}{k:Bool} (I:Inv X pins σ H s) (hu:X.A.units+8<cLine) (h:LD X.K H p q k) :
  SeqAt.RcAt X.A s (.ref p) (.ref q) k/\SeqAt.RcNeAt X.A s (.ref p) (.ref q) (!k):=by
 have deep:∀ {xs ys:List V}{n:Nat},n<=4->(bY X.K H p xs/\bY X.K H q ys\/dR X.K H p xs/\dR X.K H q ys)->xs.length=ys.length->(∀ (i:Nat) x y,xs[i]? = some x->ys[i]? = some y->dF X.K H n x y) ->
   SeqAt.RcAt X.A s (.ref p) (.ref q) true/\SeqAt.RcNeAt X.A s (.ref p) (.ref q) (!true):=fun {xs ys n} hn hq hl hd=>by
  have items:∀ {us ws:List Value},Vals xs us->Vals ys ws->∀ j (h1:j<us.toArray.size) (h2:j<ws.toArray.size),SeqAt.EqAt X.A.in1 s us.toArray[j] ws.toArray[j] true:=fun {us ws} r1 r2 j j1 j2=>by
   have e1:=r1.length
   have e2:=r2.length
   have j1':j<us.length:=by simpa using j1
   have j2':j<ws.length:=by simpa using j2
   obtain ⟨w1,q1,s1⟩:=r1.get (i:=j) (x:=xs[j]'(by omega)) (by simp)
   obtain ⟨w2,q2,s2⟩:=r2.get (i:=j) (x:=ys[j]'(by omega)) (by simp)
   have z1:us.toArray[j]=w1:=by
    obtain ⟨_,z⟩:=Zr1.mp q1
    simpa using z
   have z2:ws.toArray[j]=w2:=by
    obtain ⟨_,z⟩:=Zr1.mp q2
    simpa using z
   rw [z1,z2]
   exact Iq I (hd j _ _ (by simp) (by simp)) X.A.in1 (by have e:X.A.in1.units=X.A.units+1:=rfl;omega) s1 s2
  rcases hq with ⟨h1,h2⟩ | ⟨h1,h2⟩
  ·obtain ⟨its,r1,p1⟩:=sW I h1
   obtain ⟨its2,r2,p2⟩:=sW I h2
   have e1:=r1.length
   have e2:=r2.length
   have z:((Zr6 its.toArray.size).all fun _=>true)=true:=by simp
   have a1:=SeqAt.RcAt.lists (A:=X.A) (e:=fun _=>true) p1 p2 (by simp;omega) (by omega) (items r1 r2)
   have a2:=SeqAt.RcNeAt.lists (A:=X.A) (e:=fun _=>true) p1 p2 (by simp;omega) (by omega) (items r1 r2)
   rw [z] at a1 a2
   exact ⟨a1,a2⟩
  ·obtain ⟨its,r1,p1,_⟩:=I.tuple h1
   obtain ⟨its2,r2,p2,_⟩:=I.tuple h2
   have e1:=r1.length
   have e2:=r2.length
   have z:(((Zr6 (min its.toArray.size its2.toArray.size)).all fun _=>true) && its.toArray.size == its2.toArray.size)=true:=by simp;omega
   have a1:=SeqAt.RcAt.tuples (A:=X.A) (e:=fun _=>true) p1 p2 (by omega) (items r1 r2)
   have a2:=SeqAt.RcNeAt.tuples (A:=X.A) (e:=fun _=>true) p1 p2 (by omega) (items r1 r2)
   rw [z] at a1 a2
   exact ⟨a1,a2⟩
 have rj:∀ {xs ys:List V},bY X.K H p xs->bY X.K H q ys->xs.length≠ys.length->SeqAt.RcAt X.A s (.ref p) (.ref q) false/\SeqAt.RcNeAt X.A s (.ref p) (.ref q) (!false):=fun {xs ys} h1 h2 hl=>by
  obtain ⟨its,r1,p1⟩:=sW I h1
  obtain ⟨its2,r2,p2⟩:=sW I h2
  have e1:=r1.length
  have e2:=r2.length
  have z:(its.toArray.size != its2.toArray.size)=true:=by simp;omega
  exact ⟨SeqAt.RcAt.lists_lengths p1 p2 z (by omega),SeqAt.RcNeAt.lists_lengths p1 p2 z (by omega)⟩
 rcases h with ⟨rfl,h⟩ | ⟨xs,ys,h1,h2,f1,f2,rfl⟩ | ⟨rfl,xs,ys,h1,h2,hl⟩ | ⟨xs,ys,h1,h2,f1,f2,rfl⟩
 ·cases h with
  | flat f=>simp [jN] at f
  | lst h1 h2 hl hd=>exact deep (by decide) (.inl ⟨h1,h2⟩) hl hd
  | tup h1 h2 hl hd=>exact deep (by decide) (.inr ⟨h1,h2⟩) hl hd
 ·by_cases hl:xs.length=ys.length
  ·obtain ⟨its,r1,p1⟩:=sW I h1
   obtain ⟨its2,r2,p2⟩:=sW I h2
   have e1:=r1.length
   have e2:=r2.length
   have z:ow xs ys=(Zr6 its.toArray.size).all fun i=>jh (xs.getD i .non) (ys.getD i .non):=by
    unfold ow
    rw [Zr9,<- e1,hl]
    simp
   rw [z]
   exact ⟨SeqAt.RcAt.lists p1 p2 (by simp;omega) (by omega) (tY r1 r2 f1 f2 _ _),SeqAt.RcNeAt.lists p1 p2 (by simp;omega) (by omega) (tY r1 r2 f1 f2 _ _)⟩
  ·have z:ow xs ys=false:=by unfold ow;simp [hl]
   rw [z]
   exact rj h1 h2 hl
 ·exact rj h1 h2 hl
 ·obtain ⟨its,r1,p1,_⟩:=I.tuple h1
  obtain ⟨its2,r2,p2,_⟩:=I.tuple h2
  have e1:=r1.length
  have e2:=r2.length
  by_cases hl:xs.length=ys.length
  ·have z:ow xs ys=((Zr6 (min its.toArray.size its2.toArray.size)).all (fun i=>jh (xs.getD i .non) (ys.getD i .non)) && its.toArray.size == its2.toArray.size):=by
    unfold ow
    rw [Zr9,Zr9,<- e1,<- e2,hl]
    simp
   rw [z]
   exact ⟨SeqAt.RcAt.tuples p1 p2 (by omega) (tY r1 r2 f1 f2 _ _),SeqAt.RcNeAt.tuples p1 p2 (by omega) (tY r1 r2 f1 f2 _ _)⟩
  ·have z:ow xs ys=((Zr6 (min its.toArray.size its2.toArray.size)).all (fun i=>jh (xs.getD i .non) (ys.getD i .non)) && its.toArray.size == its2.toArray.size):=by
    have z1:ow xs ys=false:=by unfold ow;simp [hl]
    have z2:(its.toArray.size == its2.toArray.size)=false:=by simp;omega
    rw [z1,z2,Bool.and_false]
   rw [z]
   exact ⟨SeqAt.RcAt.tuples p1 p2 (by omega) (tY r1 r2 f1 f2 _ _),SeqAt.RcNeAt.tuples p1 p2 (by omega) (tY r1 r2 f1 f2 _ _)⟩
noncomputable def gU (K:Zrk):R2:=fun x y H Q=>match x,y with
 | .int i,.int j=>Q (.bl (decide (i=j))) H
 | .bl i,.bl j=>Q (.bl (decide (i=j))) H
 | .str i,.str j=>Q (.bl (decide (i=j))) H
 | .non,.non=>Q (.bl true) H
 | .non,.int _=>Q (.bl false) H
 | .int _,.non=>Q (.bl false) H
 | .non,.str _=>Q (.bl false) H
 | .str _,.non=>Q (.bl false) H
 | .non,.bl _=>Q (.bl false) H
 | .bl _,.non=>Q (.bl false) H
 | .ref p,.ref q=>∃ k,LD K H p q k/\Q (.bl k) H
 | _,_=>False
noncomputable def Gx (K:Zrk):R2:=fun x y H Q=>match x,y with
 | .int i,.int j=>Q (.bl (!decide (i=j))) H
 | .bl i,.bl j=>Q (.bl (!decide (i=j))) H
 | .str i,.str j=>Q (.bl (!decide (i=j))) H
 | .non,.non=>Q (.bl false) H
 | .non,.int _=>Q (.bl true) H
 | .int _,.non=>Q (.bl true) H
 | .non,.str _=>Q (.bl true) H
 | .str _,.non=>Q (.bl true) H
 | .non,.bl _=>Q (.bl true) H
 | .bl _,.non=>Q (.bl true) H
 | .ref p,.ref q=>∃ k,LD K H p q k/\Q (.bl (!k)) H
 | _,_=>False
theorem Nt {i j:Int}:decide (V.int i=V.int j)=decide (i=j):=by rw [decide_eq_decide];exact ⟨V.int.inj,congrArg _⟩
theorem Sk {i j:Bool}:decide (V.bl i=V.bl j)=decide (i=j):=by rw [decide_eq_decide];exact ⟨V.bl.inj,congrArg _⟩
theorem Qz {i j:Str}:decide (V.str i=V.str j)=decide (i=j):=by rw [decide_eq_decide];exact ⟨V.str.inj,congrArg _⟩
theorem iq (hu:X.A.units+8<cLine):cy X (compareOp .Eq) (gU X.K):=by
  intro pins s σ H x y v u Q I rx ry h
  have go:NC x y H Q->wpAny (model X.prog X.w) X.A (compareOp .Eq v u) (EP X pins σ Q) X.xe s:=fun q=>Ee pins s σ H _ _ v u Q I rx ry q
  cases x <;> cases y <;> first
    | exact False.elim h
    | exact go ⟨rfl,h⟩
    | exact go ⟨rfl,by rw [Nt];exact h⟩
    | exact go ⟨rfl,by rw [Sk];exact h⟩
    | exact go ⟨rfl,by rw [Qz];exact h⟩
    | (obtain ⟨k,e,q⟩:=h
       cases rx;cases ry
       exact (Te I hu e).1 _ _ _ _ ⟨.bl k,H,I,rfl,q⟩)
theorem Fh (hu:X.A.units+8<cLine):cy X (compareOp .NotEq) (Gx X.K):=by
  intro pins s σ H x y v u Q I rx ry h
  have go:N4 x y H Q->wpAny (model X.prog X.w) X.A (compareOp .NotEq v u) (EP X pins σ Q) X.xe s:=fun q=>DD pins s σ H _ _ v u Q I rx ry q
  cases x <;> cases y <;> first
    | exact False.elim h
    | exact go ⟨rfl,h⟩
    | exact go ⟨rfl,by rw [Nt];exact h⟩
    | exact go ⟨rfl,by rw [Sk];exact h⟩
    | exact go ⟨rfl,by rw [Qz];exact h⟩
    | (obtain ⟨k,e,q⟩:=h
       cases rx;cases ry
       exact (Te I hu e).2 _ _ _ _ ⟨.bl (!k),H,I,rfl,q⟩)
noncomputable def vd:R2:=fun x y H Q=>match x,y with
 | .bl i,.bl j=>Q (.bl (decide (i=j))) H
 | x,.non=>Q (.bl (decide (x=.non))) H
 | .non,.bl _=>Q (.bl false) H
 | .int _,.bl _=>Q (.bl false) H
 | .str _,.bl _=>Q (.bl false) H
 | .ref _,.bl _=>Q (.bl false) H
 | _,_=>False
noncomputable def wJ:R2:=fun x y H Q=>match x,y with
 | .bl i,.bl j=>Q (.bl (!decide (i=j))) H
 | x,.non=>Q (.bl (!decide (x=.non))) H
 | _,_=>False
theorem og:cy X (compareOp .Is) vd:=by
 intro pins s σ H x y v u Q I rx ry h
 have pl:∀ {k:Bool},PySem.plainIs v u=true->(v == u)=k->Q (.bl k) H->wpAny (model X.prog X.w) X.A (compareOp .Is v u) (EP X pins σ Q) X.xe s:=fun {k} hp e q=>wpAny_is_plain hp ⟨.bl k,H,I,by rw [e];rfl,q⟩
 cases y with
 | non =>
  have q:Q (.bl (decide (x=.non))) H:=by cases x <;> exact h
  exact yP pins s σ H _ _ v u Q I rx ry ⟨rfl,q⟩
 | bl j =>
  cases ry
  cases x with
  | bl i =>
   cases rx
   exact pl rfl (by cases i <;> cases j <;> rfl) h
  | non=>cases rx;exact pl rfl rfl h
  | int i=>obtain ⟨t,rfl⟩:=rx;exact pl rfl rfl h
  | str i=>obtain ⟨t,rfl⟩:=rx;exact pl rfl rfl h
  | ref i=>cases rx;exact pl rfl rfl h
  | _=>exact False.elim h
 | _=>cases x <;> exact False.elim h
theorem B3:cy X (compareOp .IsNot) wJ:=by
 intro pins s σ H x y v u Q I rx ry h
 cases y with
 | non =>
  have q:Q (.bl (!decide (x=.non))) H:=by cases x <;> exact h
  exact U4 pins s σ H _ _ v u Q I rx ry ⟨rfl,q⟩
 | bl j =>
  cases ry
  cases x with
  | bl i =>
   cases rx
   exact wpAny_isNot_plain rfl ⟨.bl (!decide (i=j)),H,I,(by cases i <;> cases j <;> rfl),h⟩
  | _=>exact False.elim h
 | _=>cases x <;> exact False.elim h
noncomputable def rg (i j:Str):Bool:=!(Builtin.Str.occurrences j i 0 j.length 1).isEmpty
noncomputable def Jq (K:Zrk) (neg:Bool):R2:=fun x y H Q=>match y with
 | .ref p=>∃ xs,(bY K H p xs\/dR K H p xs)/\jN x=true/\xs.all jN=true/\Q (.bl (if neg then !vM x xs else vM x xs)) H
 | .str j=>match x with | .str i=>Q (.bl (if neg then !rg i j else rg i j)) H | _=>False
 | _=>False
theorem JW:cy X (compareOp .In) (Jq X.K false):=by
 intro pins s σ H x y v u Q I rx ry h
 cases y with
 | ref p =>
  obtain ⟨xs,h1,h2,h3,q⟩:=h
  exact Vv pins s σ H _ _ v u Q I rx ry ⟨p,xs,rfl,h1,h2,h3,q⟩
 | str j =>
  cases x with
  | str i=>exact UO pins s σ H _ _ v u Q I rx ry ⟨i,j,rfl,rfl,h⟩
  | _=>exact False.elim h
 | _=>exact False.elim h
noncomputable def vj (x:V) (k:Bool->Prop):Prop:=match x with | .bl b=>k b | _=>False
theorem ZpC {x:V}{k:Bool->Prop} (h:vj x k):∃ b,x=.bl b/\k b:=by
 cases x <;> first | exact False.elim h | exact ⟨_,rfl,h⟩
noncomputable def bK (t:TE):TT:=fun σ H Q=>t σ H fun x H'=>vj x fun k=>Q k H'
noncomputable def jX (K:Zrk) (t:TE):TT:=fun σ H Q=>t σ H fun x H'=>match x with
 | .non=>Q false H'
 | .bl b=>Q b H'
 | .int i=>Q (decide (i≠0)) H'
 | .str y=>y.length<=sizeLine/\Q (decide (y.length≠0)) H'
 | .ref p=>∃ k,pb K (.ref p) H' k/\Q k H'
 | .byt p=>∃ k,pb K (.byt p) H' k/\Q k H'
 | _=>False
theorem mf {t:TE} (ha:PE X a t) (he:∀ whole,isTrue a X.env whole=(do let v <- whole;standAt a.pos;holding [v] (truthy v)):=by intro _;rfl):PT X a (jX X.K t):=by
 have h:=T3 ha he
 have e:jX X.K t=(fun σ H Q=>t σ H fun x H'=>∃ k,pb X.K x H' k/\Q k H'):=by
  funext σ H Q
  unfold jX
  congr 1
  funext x H'
  apply propext
  cases x with
  | non=>exact ⟨fun q=>⟨false,rfl,q⟩,fun ⟨k,h1,h2⟩=>by have h1:k=false:=h1;subst h1;exact h2⟩
  | bl b=>exact ⟨fun q=>⟨b,rfl,q⟩,fun ⟨k,h1,h2⟩=>by have h1:k=b:=h1;subst h1;exact h2⟩
  | int i =>
   have z:decide (i≠0)=(i != 0):=by by_cases e:i=0 <;> simp [e]
   exact ⟨fun q=>⟨decide (i≠0),z,q⟩,fun ⟨k,h1,h2⟩=>by have h1:k=(i != 0):=h1;rw [<- z] at h1;subst h1;exact h2⟩
  | str y =>
   have z:decide (y.length≠0)=((y.length:Int) != 0):=by
    by_cases e:y.length=0
    ·simp [e]
    ·have:(y.length:Int)≠0:=by omega
     simp [e,this]
   exact ⟨fun q=>⟨decide (y.length≠0),⟨q.1,z⟩,q.2⟩,fun ⟨k,h1,h2⟩=>by
    have h1:y.length<=sizeLine/\k=((y.length:Int) != 0):=h1
    obtain ⟨h0,h1⟩:=h1
    rw [<- z] at h1;subst h1;exact ⟨h0,h2⟩⟩
  | ref p=>exact Iff.rfl
  | byt y=>exact Iff.rfl
  | flt y=>exact ⟨fun q=>q.elim,fun ⟨k,h1,h2⟩=>h1.elim⟩
  | ty y=>exact ⟨fun q=>q.elim,fun ⟨k,h1,h2⟩=>h1.elim⟩
 rw [e]
 exact h
theorem DM {x:V}{k:Bool->Prop}:vj x k = ∃ b,x=.bl b/\k b:=propext ⟨ZpC,fun ⟨b,e,q⟩=>by subst e;exact q⟩
theorem SK (t:TE):bK t=Gz t:=by
 funext σ H Q
 unfold bK Gz
 congr 1
 funext x H'
 exact DM
theorem cA {op:CmpOp}{r:R2} (ho:cy X (compareOp op) r) (ha:PE X a ta) (hb:PE X b tb) (hm:behindInMarks op b=false):PT X (.Compare a [op] [b] pos) (bK (ag r ta tb)):=by
 rw [SK]
 exact V8 ho ha hb hm
noncomputable def qg (r r':R2) (ta tb tc:TE):TE:=fun σ H Q=>ta σ H fun x H1=>tb σ H1 fun y H2=>r x y H2 fun z H3=>vj z fun k =>
 (if k=true then tc σ H3 fun w' H4=>r' y w' H4 Q else Q (.bl false) H3)
theorem Pa (r r':R2) (ta tb tc:TE):qg r r' ta tb tc=Gr r r' ta tb tc:=by
 funext σ H Q
 unfold qg Gr
 congr 1
 funext x H1
 congr 1
 funext y H2
 congr 1
 funext z H3
 exact DM
theorem QW {op lr:CmpOp}{r r':R2} (ho:cy X (compareOp op) r) (ki:cy X (compareOp lr) r') (ha:PE X a ta) (hb:PE X b tb) (hc:PE X c tc)
  (hm:lastMarks [op,lr] [b,c]=false:=by with_unfolding_all rfl):PE X (.Compare a [op,lr] [b,c] pos) (qg r r' ta tb tc):=by
 rw [Pa]
 exact W6 ho ki ha hb hc hm
theorem OR {op lr:CmpOp}{r r':R2} (ho:cy X (compareOp op) r) (ki:cy X (compareOp lr) r') (ha:PE X a ta) (hb:PE X b tb) (hc:PE X c tc)
  (hm:lastMarks [op,lr] [b,c]=false:=by with_unfolding_all rfl):PT X (.Compare a [op,lr] [b,c] pos) (bK (qg r r' ta tb tc)):=by
 rw [SK,Pa]
 exact XE ho ki ha hb hc hm
noncomputable def sD (ta tb:TE):TE:=fun σ H Q=>ta σ H fun x H1=>vj x fun c=>if c=true then tb σ H1 Q else Q (.bl false) H1
noncomputable def zM (ta:TE):TE:=fun σ H Q=>ta σ H fun x H1=>vj x fun c=>Q (.bl (!c)) H1
theorem X6 (ta tb:TE):sD ta tb=J3 ta tb:=by
 funext σ H Q
 unfold sD J3
 congr 1
 funext x H'
 exact DM
theorem UP (ta:TE):zM ta=JT ta:=by
 funext σ H Q
 unfold zM JT
 congr 1
 funext x H'
 exact DM
variable {rest:List Expr}
theorem GP (ha:PE X a ta) (hb:PE X (.BoolOp .And (b :: rest) pos) tb):PE X (.BoolOp .And (a :: b :: rest) pos) (sD ta tb):=by
 rw [X6]
 exact t4 ha hb
theorem sM (ha:PE X a ta):PE X (.UnaryOp .Not a pos) (zM ta):=by
 rw [UP]
 exact xY ha
noncomputable def bJ (K:Zrk):R2:=fun x y H Q=>match x,y with
 | .ref p,.int i=>∃ xs v,(bY K H p xs\/dR K H p xs)/\fJ xs i=some v/\Q v H
 | .str z,.int i=>z.length<=sizeLine/\∃ c,fJ z.cps.toList i=some c/\Q (.str ⟨#[c]⟩) H
 | _,_=>False
theorem bQ:mv X (bJ X.K):=xI.imp fun x y H Q h=>by
  cases x <;> cases y <;> first
    | exact False.elim h
    | (obtain ⟨xs,v,h1 | h1,h2,h3⟩:=h
       · exact .inl ⟨_,xs,_,v,rfl,rfl,h1,h2,h3⟩
       · exact .inr (.inl ⟨_,xs,_,v,rfl,rfl,h1,h2,h3⟩))
    | (obtain ⟨h1,c,h2,h3⟩:=h
       exact .inr (.inr ⟨_,_,c,rfl,rfl,h1,h2,h3⟩))
noncomputable def tR (K:Zrk):V->Option Int->Option Int->Hp->VK->Prop:=fun x lo hi H Q=>match x with
 | .ref p=>∃ xs,bY K H p xs/\∀ q,H q=none->Q (.ref q) (upd H q (.lst (qQ xs lo hi)))
 | _=>False
theorem uh:qd X (tR X.K):=Xb.imp fun x lo hi H Q h=>by
 cases x <;> first | exact False.elim h | (obtain ⟨xs,h1,h2⟩:=h;exact ⟨_,xs,rfl,h1,h2⟩)
noncomputable def iB (K:Zrk):List V->Hp->VK->Prop:=fun vs H Q=>match vs with
 | [.str z]=>z.length<=sizeLine/\Q (.int z.length) H
 | [.ref p]=>(∃ ys,(bY K H p ys\/dR K H p ys)/\Q (.int ys.length) H)\/∃ kvs,H p=some (.dK kvs)/\Q (.int kvs.length) H
 | _=>False
theorem jw:jO X (.builtin "len") (iB X.K):=by
 intro pins s σ H xs us Q I r h
 match xs,h with
 | [.str z],h=>exact ZT pins s σ H _ us Q I r ⟨z,rfl,h.1,h.2⟩
 | [.ref p],h =>
  rcases h with ⟨ys,h1,h2⟩ | ⟨kvs,h1,h2⟩
  ·exact ZN pins s σ H _ us Q I r ⟨p,ys,rfl,h1,h2⟩
  ·exact Yx pins s σ H _ us Q I r ⟨p,kvs,rfl,h1,h2⟩
noncomputable def cInt:List V->Hp->VK->Prop:=fun vs H Q=>match vs with
 | [.int i]=>Q (.int i) H
 | [.bl k]=>Q (.int (if k then 1 else 0)) H
 | _=>False
theorem EF:jO X (.type "int") cInt:=by
 intro pins s σ H xs us Q I r h
 match xs,h with
 | [.int i],h=>exact Sj pins s σ H _ us Q I r (.inl ⟨i,rfl,h⟩)
 | [.bl k],h=>exact Sj pins s σ H _ us Q I r (.inr ⟨k,rfl,h⟩)
noncomputable def Hu (K:Zrk):List V->Hp->VK->Prop:=fun vs H Q=>match vs with
 | [.ref p]=>∃ ys,(bY K H p ys\/dR K H p ys)/\∀ l,H l=none->Q (.ref l) (upd H l (.lst ys))
 | _=>False
theorem xB:jO X (.type "list") (Hu X.K):=by
 intro pins s σ H xs us Q I r h
 match xs,h with
 | [.ref p],h =>
  obtain ⟨ys,h1,h2⟩:=h
  exact TJ pins s σ H _ us Q I r ⟨p,ys,rfl,h1,h2⟩
noncomputable def uH:List V->Hp->VK->Prop:=fun vs H Q=>match vs with
 | [.int i,.int j]=>Q (.int (if j<i then j else i)) H
 | _=>False
theorem CJ (hc:X.calm=true):jO X (.builtin "min") uH:=by
 intro pins s σ H xs us Q I r h
 match xs,h with
 | [.int i,.int j],h=>exact Zoh hc pins s σ H _ us Q I r ⟨i,j,rfl,h⟩
noncomputable def mO:List V->Hp->VK->Prop:=fun vs H Q=>match vs with
 | [.int i,.int j]=>Q (.int (if j > i then j else i)) H
 | _=>False
theorem Hh (hc:X.calm=true):jO X (.builtin "max") mO:=by
 intro pins s σ H xs us Q I r h
 match xs,h with
 | [.int i,.int j],h=>exact TB hc pins s σ H _ us Q I r ⟨i,j,rfl,h⟩
noncomputable def rH (K:Zrk):List V->Hp->VK->Prop:=fun vs H Q=>match vs with
 | [x,.ty T]=>∃ t b,fU K H x t/\Zrp K t (.type T)=some b/\Q (.bl b) H
 | [x,.ref C]=>∃ t b,fU K H x t/\Zrp K t (.ref C)=some b/\Q (.bl b) H
 | _=>False
theorem zq:jO X (.builtin "isinstance") (rH X.K):=by
 intro pins s σ H xs us Q I r h
 match xs,h with
 | [x,.ty T],h =>
  obtain ⟨t,k,h1,h2,h3⟩:=h
  obtain ⟨u,w',rfl,r1,r2⟩:=HG r
  cases r2
  exact Oo I r1 h1 h2 fun tk=>⟨.bl k,H,I.tok tk,rfl,h3⟩
 | [x,.ref C],h =>
  obtain ⟨t,k,h1,h2,h3⟩:=h
  obtain ⟨u,w',rfl,r1,r2⟩:=HG r
  cases r2
  exact Oo I r1 h1 h2 fun tk=>⟨.bl k,H,I.tok tk,rfl,h3⟩
noncomputable def Ce (onames:List (Str × NameKind)) (scope:Scope):Bool:=scope.names.all fun y=>decide (y.2≠.cell) && (decide (y.2≠.local) || decide (scope.names.lookup y.1=some .local)) && (decide (y.2≠.free) || decide (onames.lookup y.1=some .cell) || decide (onames.lookup y.1=some .free))
theorem aT.of {scope:Scope} (onames:List (Str × NameKind)) (h:Ce onames scope=true) (k:scope.kind=.function:=by rfl) (e:X.env.scope.names=onames:=by rfl):aT X scope:=by
 have q:=Zs2.mp h
 refine ⟨k,fun y hy=>?_,fun y hy hl=>?_,fun y hy hf=>?_⟩
 ·have z:=q y hy
  simp only [Zt6,decide_eq_true_eq] at z
  exact z.1.1
 ·have z:=q y hy
  simp only [Zt6,Zua,decide_eq_true_eq] at z
  exact z.1.2.resolve_left fun w=>w hl
 ·have z:=q y hy
  simp only [Zt6,Zua,decide_eq_true_eq] at z
  show X.env.scope.names.lookup y.1=_\/X.env.scope.names.lookup y.1=_
  rw [e]
  rcases z.2 with (w | w) | w
  ·exact absurd hf w
  ·exact .inl w
  ·exact .inr w
noncomputable def sQ (XN:List Str) (scope:Scope) (N:List Str) (k:Nat) (sel:List Nat):Bool:=decide (N.length=k+sel.length) && (Zr6 sel.length).all fun i=>match sel[i]?,N[k+i]? with
 | some j,some x=>decide (XN[j]? = some x) && decide (scope.names.lookup x=some .free)
 | _,_=>false
theorem bA.of {scope:Scope}{N:List Str}{k:Nat}{sel:List Nat} (XN:List Str) (h:sQ XN scope N k sel=true) (e:X.N=XN:=by rfl):bA X scope N k sel:=by
 unfold sQ at h
 simp only [Zt6,decide_eq_true_eq] at h
 refine ⟨h.1,fun i j x h1 h2=>?_⟩
 have hi:i<sel.length:=(Zr1.mp h1).1
 have q:=Zs2.mp h.2 i (ZsY.mpr hi)
 rw [h1,h2] at q
 simp only [Zt6,decide_eq_true_eq] at q
 rw [e]
 exact q
end
theorem gr {A:Around}{k:Nat} (hr:bG k A):A.units+8<cLine:=by have:=hr.units;omega
section
variable {X:Cx}{a b:Expr}{te:TE}
noncomputable def zz (t:TE):TO:=fun σ H Q=>t σ H fun x H1=>match x with | .int i=>Q (some i) H1 | _=>False
theorem V7 (t:TE):zz t=Nh t:=by
 funext σ H Q
 unfold zz Nh
 congr 1
 funext x H'
 apply propext
 cases x <;> first
  | exact ⟨fun q=>⟨_,rfl,q⟩,fun ⟨i,e,q⟩=>by cases e;exact q⟩
  | exact ⟨fun q=>False.elim q,fun ⟨i,e,q⟩=>by cases e⟩
theorem Th (h:PE X a te):PO X (some a) (zz te):=by
 rw [V7]
 exact Wc h
noncomputable def rS:V->Hp->VK->Prop:=fun x H Q=>match x with | .int i=>Q (.int (-i)) H | _=>False
theorem Ae:Ft X (unaryOp .USub) rS:=fun pins s σ H x v Q I rx h=>by
 cases x <;> first | exact False.elim h | exact tL pins s σ H _ v Q I rx ⟨_,rfl,h⟩
theorem rn {op:CmpOp}{t:TE}{pos:Pos} (h:PC X op a b t) (h1:behindInMarks op b=false:=by first | exact Oy _ (by decide) (by decide) | rfl | with_unfolding_all rfl):PT X (.Compare a [op] [b] pos) (bK t):=by
 have e:bK t=tB t:=by
  funext σ H Q
  unfold bK tB
  congr 1
  funext x H'
  exact DM
 rw [e]
 exact vY h h1
end
section
variable {K:Zrk}{σ:St}{sel:List Nat}{rest:St}{H:Hp}{p:Addr}{tt:TT}{te:TE}{Q:VK}
noncomputable abbrev zP (J:It) (σ:St) (k:Nat) (sel:List Nat) (g:TG) (tt:TT) (te:TE) (Q:VK) (H1:Hp) (p:Addr):Prop :=
 ∃ W:Nat->Nat->St->Hp->Prop,(∃ m,W 0 m (cst σ k sel) (upd H1 p (.lst [])))/\∀ i m σ2 H2,W i m σ2 H2 ->
  (J.stop i H2/\Q (.ref p) H2)\/(J.go i H2/\∀ x H3,J.lL i H2 x H3->g x σ2 H3 fun σ4 H4=>tt σ4 H4 fun b H5 =>
   if b=true then te σ4 H5 fun v H6=>∃ ys,H6 p=some (.lst ys)/\ys.length<sizeLine/\∃ m',m'<m/\W (i+1) m' σ4 (upd H6 p (.lst (ys ++ [v]))) else ∃ m',m'<m/\W (i+1) m' σ4 H5)
theorem Hx {J:It}{n:Nat}{item:Nat->V} (Pv:Nat->Hp->Prop) (hr:sel.map (fun j=>(σ[j]?).join)=rest) (h0:Pv 0 (upd H p (.lst [])))
  (src:∀ i H2,i<n->Pv i H2->J.go i H2/\∀ x H3,J.lL i H2 x H3->H3=H2/\x=item i) (fin:∀ H2,Pv n H2->J.stop n H2)
  (step:∀ i H2 (R:Hp->Prop),i<n->Pv i H2->(∀ H',Pv (i+1) H'->R H')->tt (some (item i) :: rest) H2 fun b H5 =>
   if b=true then te (some (item i) :: rest) H5 fun v H6=>∃ ys,H6 p=some (.lst ys)/\ys.length<sizeLine/\R (upd H6 p (.lst (ys ++ [v]))) else R H5)
  (hQ:∀ H2,Pv n H2->Q (.ref p) H2):zP J σ 1 sel (aE 0) tt te Q H p:=by
 refine ⟨fun i m σ2 H2=>i<=n/\m=n - i+1/\(∃ v,σ2=v :: rest)/\Pv i H2,⟨n+1,Ztx _,rfl,⟨none,?_⟩,h0⟩,?_⟩
 ·unfold cst;rw [hr];rfl
 ·rintro i m σ2 H2 ⟨hi,rfl,⟨v,rfl⟩,hP⟩
  by_cases aX:i<n
  ·right
   obtain ⟨hg,hy⟩:=src i H2 aX hP
   refine ⟨hg,fun x H3 hx=>?_⟩
   obtain ⟨rfl,rfl⟩:=hy x H3 hx
   exact step i H3 (fun H'=>∃ m',m'<n - i+1/\i+1<=n/\m'=n - (i+1)+1/\(∃ v,(some (item i) :: rest:St)=v :: rest)/\Pv (i+1) H') aX hP fun H' h'=>⟨n - (i+1)+1,by omega,aX,rfl,⟨_,rfl⟩,h'⟩
  ·left
   have e:i=n:=by omega
   subst e
   exact ⟨fin H2 hP,hQ H2 hP⟩
theorem HA {a:Addr}{xs:List V}{Pv:Nat->Hp->Prop} (hl:∀ i H2,i<=xs.length->Pv i H2->bY K H2 a xs):∀ i H2,i<xs.length->Pv i H2->(lD K a).go i H2/\∀ x H3,(lD K a).lL i H2 x H3->H3=H2/\x=xs.getD i .non:=fun i H2 hi hP=>by
 have q:=hl i H2 (ZtC hi) hP
 have e:xs[i]? = some (xs.getD i .non):=by simp [Zsw,hi]
 refine ⟨⟨xs,_,q,e⟩,fun x H3 ⟨h1,h2⟩=>⟨h1,?_⟩⟩
 have:=h2 xs q
 rw [e] at this
 exact (Option.some.inj this).symm
theorem Tt {lo:Int}{n:Nat}{Pv:Nat->Hp->Prop}:∀ i H2,i<n->Pv i H2->(kU lo n).go i H2/\∀ x H3,(kU lo n).lL i H2 x H3->H3=H2/\x=.int (lo+i):=fun i H2 hi hP=>⟨hi,fun x H3 h=>h⟩
theorem kz {H:Hp}{p:Addr}{o:HO} (hp:H p=none):aP H (upd H p o):=fun b u e=>by rw [aQ (cq e hp)];exact e
theorem WE {xs:List V}{f:V->V}{i:Nat} (hi:i<xs.length):(xs.take i).map f ++ [f (xs.getD i .non)]=(xs.take (i+1)).map f:=by
 rw [Zsj,Zr4]
 congr 1
 simp [Zsw,hi]
theorem Zoe {a:Addr}{xs:List V} (f:V->V) (hl:bY K H a xs) (hp:H p=none) (hr:sel.map (fun j=>(σ[j]?).join)=rest) (hz:xs.length<=sizeLine)
  (he:∀ x H' (Q':VK),x∈xs->aP H H'->Q' (f x) H'->te (some x :: rest) H' Q') (hQ:Q (.ref p) (upd H p (.lst (xs.map f)))):zP (lD K a) σ 1 sel (aE 0) lx te Q H p:=by
 refine Hx (n:=xs.length) (item:=fun i=>xs.getD i .non) (fun i H2=>H2=upd H p (.lst ((xs.take i).map f))) hr (by simp) (HA ?_) ?_ ?_ ?_
 ·rintro i H2 hi rfl
  exact (kz hp).seq hl
 ·rintro H2 rfl
  exact ⟨xs,(kz hp).seq hl,Zts _⟩
 ·rintro i H2 R hi rfl hR
  unfold lx
  dsimp only
  rw [if_pos rfl]
  refine he _ _ _ (by rw [show xs.getD i .non=xs[i] from by simp [Zsw,hi]];exact ZsD _) (kz hp) ⟨_,cz,?_,hR _ ?_⟩
  ·rw [ZrX,Zsq];omega
  ·rw [G6,WE hi]
 ·rintro H2 rfl
  rw [Zsx]
  exact hQ
theorem Zpu {lo:Int}{n:Nat} (f:Int->V) (hp:H p=none) (hr:sel.map (fun j=>(σ[j]?).join)=rest) (hz:n<=sizeLine)
  (he:∀ (i:Nat) H' (Q':VK),i<n->aP H H'->Q' (f (lo+i)) H'->te (some (.int (lo+i)) :: rest) H' Q') (hQ:Q (.ref p) (upd H p (.lst ((Zr6 n).map fun i=>f (lo+(i:Nat)))))):zP (kU lo n) σ 1 sel (aE 0) lx te Q H p:=by
 refine Hx (n:=n) (item:=fun i=>.int (lo+i)) (fun i H2=>H2=upd H p (.lst ((Zr6 i).map fun i=>f (lo+(i:Nat))))) hr (by simp) Tt ?_ ?_ ?_
 ·rintro H2 rfl
  exact Zts _
 ·rintro i H2 R hi rfl hR
  unfold lx
  dsimp only
  rw [if_pos rfl]
  refine he i _ _ hi (kz hp) ⟨_,cz,?_,hR _ ?_⟩
  ·rw [ZrX,ZsG];omega
  ·rw [G6,Zs3,Zr4];rfl
 ·rintro H2 rfl
  exact hQ
theorem ZD {a:Addr}{xs:List V} (q:V->Bool) (f:V->V) (hl:bY K H a xs) (hp:H p=none) (hr:sel.map (fun j=>(σ[j]?).join)=rest) (hz:xs.length<=sizeLine)
  (ht:∀ x H' (Q':Bool->Hp->Prop),x∈xs->aP H H'->Q' (q x) H'->tt (some x :: rest) H' Q')
  (he:∀ x H' (Q':VK),x∈xs->q x=true->aP H H'->Q' (f x) H'->te (some x :: rest) H' Q') (hQ:Q (.ref p) (upd H p (.lst ((xs.filter q).map f)))):zP (lD K a) σ 1 sel (aE 0) tt te Q H p:=by
 refine Hx (n:=xs.length) (item:=fun i=>xs.getD i .non) (fun i H2=>H2=upd H p (.lst (((xs.take i).filter q).map f))) hr (by simp) (HA ?_) ?_ ?_ ?_
 ·rintro i H2 hi rfl
  exact (kz hp).seq hl
 ·rintro H2 rfl
  exact ⟨xs,(kz hp).seq hl,Zts _⟩
 ·rintro i H2 R hi rfl hR
  have ex:xs.getD i .non=xs[i]:=by simp [Zsw,hi]
  have hm:xs.getD i .non∈xs:=by rw [ex];exact ZsD _
  have et:xs.take (i+1)=xs.take i ++ [xs.getD i .non]:=by rw [Zsj];simp [Zsw,hi]
  refine ht _ _ _ hm (kz hp) ?_
  cases hq:q (xs.getD i .non) with
  | true =>
   rw [if_pos rfl]
   refine he _ _ _ hm hq (kz hp) ⟨_,cz,?_,hR _ ?_⟩
   ·rw [ZrX]
    have:=Zs1 q (xs.take i)
    rw [Zsq] at this
    omega
   ·rw [G6,et,ZsQ,Zr4,ZsF,if_pos hq]
    rfl
  | false =>
   rw [if_neg (by simp)]
   refine hR _ ?_
   rw [et,ZsQ,Zr4,ZsF,if_neg (by rw [hq];simp),Ztf,ZsB,Zsz]
 ·rintro H2 rfl
  rw [Zsx]
  exact hQ
end
noncomputable def mM (x:V) (k:Addr->Prop):Prop:=match x with | .ref p=>k p | _=>False
theorem Ho {x:V}{k:Addr->Prop}:(∃ p,x=.ref p/\k p)=mM x k:=by
 apply propext
 cases x <;> first
  | exact ⟨fun ⟨p,e,q⟩=>by cases e;exact q,fun q=>⟨_,rfl,q⟩⟩
  | exact ⟨fun ⟨p,e,q⟩=>(by cases e),fun q=>False.elim q⟩
noncomputable def DF (vs:List V) (k:Int->Prop):Prop:=match vs with | [.int j]=>k j | _=>False
theorem O4 {vs:List V}{k:Int->Prop}:(∃ j,vs=[.int j]/\k j)=DF vs k:=by
 apply propext
 constructor
 ·rintro ⟨j,rfl,q⟩;exact q
 ·intro h
  unfold DF at h
  split at h
  ·exact ⟨_,rfl,h⟩
  ·exact h.elim
noncomputable def GC (vs:List V) (k:Int->Int->Prop):Prop:=match vs with | [.int i,.int j]=>k i j | _=>False
theorem UN {vs:List V}{k:Int->Int->Prop}:(∃ i j,vs=[.int i,.int j]/\k i j)=GC vs k:=by
 apply propext
 constructor
 ·rintro ⟨i,j,rfl,q⟩;exact q
 ·intro h
  unfold GC at h
  split at h
  ·exact ⟨_,_,rfl,h⟩
  ·exact h.elim
noncomputable def pF (J:It) (g:TG) (tb:TS) (D:Ends) (σ:St) (H:Hp):Prop:=∃ W:Nat->Nat->St->Hp->Prop,(∃ m,W 0 m σ H)/\∀ i m σ H,W i m σ H ->
 (J.stop i H/\D.nx σ H)\/(J.go i H/\∃ N:St->Hp->Prop,(∀ σ' H',N σ' H'->∃ m',m'<m/\W (i+1) m' σ' H')/\∀ x H',J.lL i H x H'->g x σ H' fun σ2 H2=>tb { D with nx:=N,ct:=N,bk:=D.nx } σ2 H2)
noncomputable def wC (J:It) (σ:St) (k:Nat) (sel:List Nat) (g:TG) (tt:TT) (te:TE) (Q:VK) (H1:Hp):Prop:=∀ p,H1 p=none->zP J σ k sel g tt te Q H1 p
section
variable {K:Zrk}{te:TE}{ta:TA}{g:TG}{tb:TS}{D:Ends}{σ:St}{H:Hp}{p:Addr}{xs:List V}{k:Nat}{sel:List Nat}{tt:TT}{el:TE}{Q:VK}
theorem Wa:eD (jt K te) g tb D σ H=te σ H (fun x H1=>mM x fun p=>(∃ xs,bY K H1 p xs)/\pF (lD K p) g tb D σ H1):=by
 unfold eD jt
 congr 1
 funext x H1
 exact Ho
theorem TY:eD (mx K te) g tb D σ H=te σ H (fun x H1=>mM x fun p=>(∃ xs,dR K H1 p xs)/\pF (sf K p) g tb D σ H1):=by
 unfold eD mx
 congr 1
 funext x H1
 exact Ho
theorem T4:eD (jK ta) g tb D σ H=ta σ H (fun vs H1=>DF vs fun j=>-(2 ^ 62)<=j/\j<2 ^ 62/\pF (kU 0 j.toNat) g tb D σ H1):=by
 unfold eD jK
 congr 1
 funext x H1
 exact O4
theorem WN:eD (zw ta) g tb D σ H=ta σ H (fun vs H1=>GC vs fun i j=>(-(2 ^ 62)<=i/\i<2 ^ 62 /\ -(2 ^ 62)<=j/\j<2 ^ 62)/\pF (kU i (j - i).toNat) g tb D σ H1):=by
 unfold eD zw
 congr 1
 funext x H1
 exact UN
theorem W4:jn (jt K te) k sel g tt el σ H Q=te σ H (fun x H1=>mM x fun p=>(∃ xs,bY K H1 p xs)/\wC (lD K p) σ k sel g tt el Q H1):=by
 unfold jn jt
 congr 1
 funext x H1
 exact Ho
theorem Y1:jn (mx K te) k sel g tt el σ H Q=te σ H (fun x H1=>mM x fun p=>(∃ xs,dR K H1 p xs)/\wC (sf K p) σ k sel g tt el Q H1):=by
 unfold jn mx
 congr 1
 funext x H1
 exact Ho
theorem ZlZ:jn (jK ta) k sel g tt el σ H Q=ta σ H (fun vs H1=>DF vs fun j=>-(2 ^ 62)<=j/\j<2 ^ 62/\wC (kU 0 j.toNat) σ k sel g tt el Q H1):=by
 unfold jn jK
 congr 1
 funext x H1
 exact O4
theorem rD (Pv:Nat->St->Hp->Prop) (h0:Pv 0 σ H) (hk:∀ i σ H,i<=xs.length->Pv i σ H->bY K H p xs)
  (hs:∀ i x σ H,xs[i]? = some x->Pv i σ H->g x σ H fun σ2 H2=>tb { D with nx:=Pv (i+1),ct:=Pv (i+1),bk:=D.nx } σ2 H2) (hd:∀ σ H,Pv xs.length σ H->D.nx σ H):pF (lD K p) g tb D σ H:=Zpl Pv h0 hk hs hd
theorem Va (Pv:Nat->St->Hp->Prop) (h0:Pv 0 σ H) (hk:∀ i σ H,i<=xs.length->Pv i σ H->dR K H p xs)
  (hs:∀ i x σ H,xs[i]? = some x->Pv i σ H->g x σ H fun σ2 H2=>tb { D with nx:=Pv (i+1),ct:=Pv (i+1),bk:=D.nx } σ2 H2) (hd:∀ σ H,Pv xs.length σ H->D.nx σ H):pF (sf K p) g tb D σ H:=ZqY Pv h0 hk hs hd
theorem nQ {lo:Int}{n:Nat} (Pv:Nat->St->Hp->Prop) (h0:Pv 0 σ H)
  (hs:∀ (i:Nat) σ H,i<n->Pv i σ H->g (.int (lo+i)) σ H fun σ2 H2=>tb { D with nx:=Pv (i+1),ct:=Pv (i+1),bk:=D.nx } σ2 H2) (hd:∀ σ H,Pv n σ H->D.nx σ H):pF (kU lo n) g tb D σ H:=ZnW Pv h0 hs hd
end
theorem oS {α:Type}{xs:List α}{i:Int} (d:α) (h0:0<=i) (h1:i<xs.length):fJ xs i=some (xs.getD i.toNat d):=by
 obtain ⟨n,rfl⟩:=ZtM h0
 have hn:n<xs.length:=by omega
 have e:xs[n]? = some (xs.getD n d):=by simp [Zsw,hn]
 exact zy e
theorem Wh {α β:Type} (f:α->β) (xs:List α) (n:Nat) (d:α):(xs.map f).getD n (f d)=f (xs.getD n d):=by
 simp [Zsw]
theorem Vi {α β:Type}{f:α->β}{xs:List α}{i:Int} (d:α) (h0:0<=i) (h1:i<xs.length):fJ (xs.map f) i=some (f (xs.getD i.toNat d)):=by
 rw [oS (f d) h0 (by rw [ZrX];exact h1),Wh]
theorem xV {α β:Type}{f:α->β}{xs:List α}{i:Nat}{y:β} (h:(xs.map f)[i]? = some y):∃ x,xs[i]? = some x/\y=f x:=by
 rw [Zsa] at h
 cases e:xs[i]? with
 | none=>rw [e] at h;cases h
 | some x=>rw [e] at h;exact ⟨x,rfl,(Option.some.inj h).symm⟩
theorem zW {X:Cx}{x:Str}{v:V}{pos:Pos} (hg:Gl X x) (hm:∃ u,X.mg x=some u/\bu v u) (hd:(x == ("__debug__" : Str))=false:=by decide):PE X (.Name x pos) (tC v):=by
 obtain ⟨u,h1,h2⟩:=hm
 exact ZqE hg h1 h2 hd
noncomputable def zr:Expr->Option V
 | .Constant (.int i) _ _=>some (.int i)
 | .Constant (.bool b) _ _=>some (.bl b)
 | .Constant .none _ _=>some .non
 | .Constant (.str x) _ _=>some (.str x)
 | _=>none
noncomputable def HC:List Expr->Option (List V)
 | []=>some []
 | e :: r=>match zr e,HC r with | some v,some vs=>some (v :: vs) | _,_=>none
noncomputable def yj (vs:List V):TA:=fun _ H Q=>Q vs H
theorem ZC {X:Cx}{e:Expr}{v:V} (h:zr e=some v):PE X e (tC v):=by
 unfold zr at h
 split at h <;> first
  | (cases h;exact ax)
  | (cases h;exact jv)
  | (cases h;exact kg)
  | (cases h;exact sG)
  | cases h
theorem Zl2 {e:Expr}{es:List Expr}{env:Env}{v:V} (h:zr e=some v):starEach (e :: es) env=(false,eval e env) :: starEach es env:=by
 unfold zr at h
 split at h <;> first | rfl | cases h
theorem yX {X:Cx}:∀ {es:List Expr}{vs:List V},HC es=some vs->PA X es (yj vs)
 | [],vs,h=>by
  have e:vs=[]:=(Option.some.inj h).symm
  subst e
  exact fun pos pins s σ H Q I q=>av pos pins s σ H Q I q
 | e :: r,vs,h=>by
  unfold HC at h
  cases h1:zr e with
  | none=>rw [h1] at h;cases h
  | some v =>
   cases h2:HC r with
   | none=>rw [h1,h2] at h;cases h
   | some ws =>
    rw [h1,h2] at h
    have e':v :: ws=vs:=Option.some.inj h
    subst e'
    exact fun pos pins s σ H Q I q=>ai (ZC h1) (yX h2) (Zl2 h1) pos pins s σ H Q I q
section
variable {X:Cx}{tg:Expr}
noncomputable def Ku:V->Option Int->Option Int->Hp->VK->Prop:=fun x lo hi H Q=>match x with
 | .str z=>z.length<=sizeLine/\Q (.str (Txt.slice z lo hi)) H
 | _=>False
theorem Gb:qd X Ku:=by
 intro pins s σ H x v vl vu lo hi sl Q I rx hs pl pu h
 cases x with
 | str z =>
  obtain ⟨t,rfl⟩:=rx
  obtain ⟨hz,q⟩:=h
  refine ⟨"str",_,F.slot_str_getitem.lookup,typeIs_str _ _ _,?_⟩
  have fin:∀ t' k,EP X pins σ Q (.str (Txt.slice z lo hi) t') { s with toks:=k }:=fun t' k=>⟨.str (Txt.slice z lo hi),H,I.tok k,⟨t',rfl⟩,q⟩
  cases pl with
  | none=>cases pu with
   | none=>exact wpAny_getItem_str_slice (l:=none) (u:=none) (st:=none) hs rfl (post_val_or_str ⟨Ztv (Txt.slice_le z _ _) hz,fin⟩)
   | int j uj=>exact wpAny_getItem_str_slice (l:=none) (u:=some (j,uj)) (st:=none) hs rfl (post_val_or_str ⟨Ztv (Txt.slice_le z _ _) hz,fin⟩)
  | int i ui=>cases pu with
   | none=>exact wpAny_getItem_str_slice (l:=some (i,ui)) (u:=none) (st:=none) hs rfl (post_val_or_str ⟨Ztv (Txt.slice_le z _ _) hz,fin⟩)
   | int j uj=>exact wpAny_getItem_str_slice (l:=some (i,ui)) (u:=some (j,uj)) (st:=none) hs rfl (post_val_or_str ⟨Ztv (Txt.slice_le z _ _) hz,fin⟩)
 | _=>exact False.elim h
variable {te:TE}{g:TG}{tb:TS}{D:Ends}{σ:St}{H:Hp}{k:Nat}{sel:List Nat}{tt:TT}{el:TE}{Q:VK}
noncomputable def ju:R2:=fun x y H Q=>match x,y with
 | .int i,.int j=>rb i j/\Q (.int (i * j)) H
 | .str z,.int n=>MulOk z n/\Q (.str (Txt.mul z n)) H
 | _,_=>False
theorem jQ:cy X (binaryOp .Mult) ju:=by
  intro pins s σ H x y v u Q I rx ry h
  cases x <;> cases y <;> first
    | exact False.elim h
    | exact ud pins s σ H _ _ v u Q I rx ry ⟨_,_,rfl,rfl,h.1,h.2⟩
    | (obtain ⟨t,rfl⟩:=rx
       obtain ⟨t',rfl⟩:=ry
       exact SB.mul h.1 fun t'' k=>⟨.str _,H,I.tok k,⟨t'',rfl⟩,h.2⟩)
end
structure gk (H:Hp) (p:Addr) (o:HO) (H':Hp):Prop where
 aH:H p=none
 eq:H'=upd H p o
section
variable {H H':Hp}{p:Addr}{o:HO}
theorem gk.same (n:gk H p o H'):aP H H':=by rw [n.eq];exact kz n.aH
theorem gk.at_ (n:gk H p o H'):H' p=some o:=by rw [n.eq];exact cz
theorem gk.ne (n:gk H p o H') {b:Addr} (h:b≠p):H' b=H b:=by rw [n.eq];exact aQ h
theorem gk.sq {K:Zrk}{xs:List V} (n:gk H p (.lst xs) H'):bY K H' p xs:=.of n.at_
theorem zL {F:Addr->Hp->Prop}{o:HO}:(∀ p,H p=none->F p (upd H p o)) = ∀ p H',gk H p o H'->F p H' :=
 propext ⟨fun h p H' n=>by rw [n.eq];exact h p n.aH,fun h p hp=>h p _ ⟨hp,rfl⟩⟩
end
section
variable {K:Zrk}{t:TA}{σ:St}{H:Hp}{Q:VK}{x:V}{lo hi:Option Int}{vs:List V}{kvs:List (Key × V)}
theorem wt:ik t σ H Q=t σ H fun xs H1=>xs.length<=sizeLine/\∀ p H',gk H1 p (.lst xs) H'->Q (.ref p) H':=by
 unfold ik;congr 1;funext xs H1;rw [zL (F:=fun p H'=>Q (.ref p) H')]
theorem vp:kh t σ H Q=t σ H fun xs H1=>xs.length<=sizeLine/\∀ p H',gk H1 p (.tup xs) H'->Q (.ref p) H':=by
 unfold kh;congr 1;funext xs H1;rw [zL (F:=fun p H'=>Q (.ref p) H')]
theorem ZoD:qv σ H Q = ∀ p H',gk H p (.dK []) H'->Q (.ref p) H':=by
 unfold qv;rw [zL (F:=fun p H'=>Q (.ref p) H')]
theorem wI {p:Addr}:tR K (.ref p) lo hi H Q = ∃ xs,bY K H p xs/\∀ q H',gk H q (.lst (qQ xs lo hi)) H'->Q (.ref q) H':=by
 unfold tR
 dsimp only
 congr 1;funext xs;rw [zL (F:=fun p H'=>Q (.ref p) H')]
theorem Y7 {p:Addr}:Hu K [.ref p] H Q = ∃ ys,(bY K H p ys\/dR K H p ys)/\∀ l H',gk H l (.lst ys) H'->Q (.ref l) H':=by
 unfold Hu
 dsimp only
 congr 1;funext xs;rw [zL (F:=fun p H'=>Q (.ref p) H')]
end
section
variable {K:Zrk}{σ:St}{sel:List Nat}{rest:St}{H:Hp}{tt:TT}{te:TE}{Q:VK}
theorem PV {a:Addr}{xs:List V} (f:V->V) (hl:bY K H a xs) (hr:sel.map (fun j=>(σ[j]?).join)=rest) (hz:xs.length<=sizeLine)
  (he:∀ x H' (Q':VK),x∈xs->aP H H'->Q' (f x) H'->te (some x :: rest) H' Q') (hQ:∀ p H',gk H p (.lst (xs.map f)) H'->Q (.ref p) H'):wC (lD K a) σ 1 sel (aE 0) lx te Q H :=
 fun p hp=>Zoe f hl hp hr hz he (hQ p _ ⟨hp,rfl⟩)
theorem GY {lo:Int}{n:Nat} (f:Int->V) (hr:sel.map (fun j=>(σ[j]?).join)=rest) (hz:n<=sizeLine)
  (he:∀ (i:Nat) H' (Q':VK),i<n->aP H H'->Q' (f (lo+i)) H'->te (some (.int (lo+i)) :: rest) H' Q') (hQ:∀ p H',gk H p (.lst ((Zr6 n).map fun i=>f (lo+(i:Nat)))) H'->Q (.ref p) H'):wC (kU lo n) σ 1 sel (aE 0) lx te Q H :=
 fun p hp=>Zpu f hp hr hz he (hQ p _ ⟨hp,rfl⟩)
theorem GF {a:Addr}{xs:List V} (q:V->Bool) (f:V->V) (hl:bY K H a xs) (hr:sel.map (fun j=>(σ[j]?).join)=rest) (hz:xs.length<=sizeLine)
  (ht:∀ x H' (Q':Bool->Hp->Prop),x∈xs->aP H H'->Q' (q x) H'->tt (some x :: rest) H' Q')
  (he:∀ x H' (Q':VK),x∈xs->q x=true->aP H H'->Q' (f x) H'->te (some x :: rest) H' Q') (hQ:∀ p H',gk H p (.lst ((xs.filter q).map f)) H'->Q (.ref p) H'):wC (lD K a) σ 1 sel (aE 0) tt te Q H :=
 fun p hp=>ZD q f hl hp hr hz ht he (hQ p _ ⟨hp,rfl⟩)
end
noncomputable def wA (K:Zrk):V->Option Int->Option Int->Hp->VK->Prop:=fun x lo hi H Q=>match x with
 | .ref p=>∃ xs,bY K H p xs/\∀ q H',gk H q (.lst (qQ xs lo hi)) H'->Q (.ref q) H'
 | .str z=>z.length<=sizeLine/\Q (.str (Txt.slice z lo hi)) H
 | _=>False
theorem Zu {X:Cx}:qd X (wA X.K):=by
 intro pins s σ H x v vl vu lo hi sl Q I rx hs pl pu h
 cases x with
 | ref p=>exact uh pins s σ H (.ref p) v vl vu lo hi sl Q I rx hs pl pu (by rw [wI];exact h)
 | str z=>exact Gb pins s σ H (.str z) v vl vu lo hi sl Q I rx hs pl pu h
 | _=>exact False.elim h
end L2
set_option maxHeartbeats 4000000
namespace DZ
open PySem
section
variable {prog:Program}{w:World}{A:Around}{E:Value->Shared->Prop}{s:Shared}
end
section
variable {M:Model}{A:Around}{E:Value->Shared->Prop}{s:Shared}
end
structure ZSt (z TI TO i1 i2 t l:Addr) (xs ys:Array Value) (i:Nat) (h:Heap):Prop where
 zo:∃ f0 f1,h.get? z=some { cls:=.type "zip",dict:=none,data:=.fields #[f0,.bool f1,.bool false,.ref TI,.ref TO],slots:=#[] } /\
  (f0=.none\/∃ (T:Addr) (o:Obj),f0=rawInt T/\h.get? T=some o/\T≠z/\T≠TO/\T≠i1/\T≠i2)
 ti:IsPair h TI (.ref i1) (.ref i2)
 to:∃ a b,IsPair h TO a b
 a1:h.IsTupleIter i1 t i
 a2:h.IsListIter i2 l i
 l1:h.IsTuple t xs
 l2:h.IsList l ys
section
variable {prog:Program}{w:World}{A:Around}{E:Value->Shared->Prop}{s:Shared}
end
end DZ
set_option maxHeartbeats 4000000
namespace DZ
open PySem
section
variable {prog:Program}{w:World}{A:Around}{E:Value->Shared->Prop}{h:Heap}{g:Array GenState}{d:Drawn}{t:Nat}{os:OsState}{z:Addr}{vs:Array Value}
end
section
variable {prog:Program}{w:World}{A:Around}{E:Value->Shared->Prop}{s:Shared}
end
end DZ
set_option maxHeartbeats 4000000
namespace DZ
open PySem
section
variable {prog:Program}{w:World}{A:Around}{E:Value->Shared->Prop}{s:Shared}
variable {κ:Type} [DecidableEq κ] {knd:KeyKind prog w κ}
end
end DZ
set_option maxHeartbeats 4000000
namespace L2
open PySem PySem.Spec PyProof.Rows
section
variable {X:Cx}{pins:List (Addr × Obj)}{σ:St}{H:Hp}{s:Shared}{h':Heap}
theorem Inv.dz {t':Nat}{ch:List Addr}{d:Addr}{ob:HO} (I:Inv X pins σ H s) (kY:∀ b∈ch,nE X pins H b) (hd:s.heap.objs.size<=d) (k:∀ b o,b ∉ ch->s.heap.get? b=some o->h'.get? b=some o)
  (new:fz X.prog X.w (upd H d ob) h' d ob):Inv X pins σ (upd H d ob) { s with heap:=h',toks:=t' }:=by
 have hn:H d=none:=I.aF.fresh hd
 have old:∀ {b o},s.heap.get? b=some o->b≠d:=fun e=>Ztu (Ztw (Heap.lt_size e) hd)
 have sS:∀ b u,H b=some u->b ∉ ch:=fun b u e z=>by rw [(kY b z).1] at e;cases e
 refine I.step (g':=s.gens) (d':=s.drawn) (ch:=ch) (fun b hb=>?_) (fun b o _ _ hc e _=>k b o hc e) (fun b o _ _ hc e _=>⟨o.slots,k b o hc e⟩) (fun b o _ e n=>by rw [aQ (old e)];exact n)
  (fun b o hc e=>⟨o,k b o hc e⟩) (fun b xs e=>by rw [aQ (cq e hn)];exact e) (fun b o u e=>by rw [aQ (cq e hn)];exact e) (fun b ps e=>⟨#[],by rw [aQ (cq e hn),e];simp⟩) (fun m hm=>?_) (fun b u e=>?_) I.bare
 ·obtain ⟨f0,f1,f2,f3,f4,f5⟩:=kY b hb
  exact ⟨f3,f1,f4,f5⟩
 ·obtain ⟨o,es,ep,ho,r⟩:=hm
  exact ⟨o,es,ep,k _ o (fun z=>(kY _ z).2.1 rfl) ho,r⟩
 ·by_cases hb:b=d
  ·subst hb
   rw [cz] at e
   cases e
   exact new
  ·rw [aQ hb] at e
   refine (I.aF b u e).jU (fun c v hc q=>k c v ?_ q) (fun c q=>by rw [aQ (cq q hn)];exact q) fun c xs q=>by rw [aQ (cq q hn)];exact q
   rcases hc with z | z
   ·rw [z];exact sS b u e
   ·exact sS c _ z
end
end L2
namespace NM
noncomputable def Ut (c:Nat):Prop:=97<=c/\c<=122
structure Nm (w:List Nat):Prop where
 pos:1<=w.length
 le:w.length<=8
 ok:∀ c∈w,Ut c
noncomputable def nx (p:List Nat) (c k:Nat):List Nat:=p ++ (c+1) :: ZrZ k 97
inductive Nx:List Nat->List Nat->Prop where
 | at (p:List Nat) (c k:Nat):c≠122->Nx (p ++ c :: ZrZ k 122) (nx p c k)
 | all (n:Nat):Nx (ZrZ n 122) (ZrZ (n % 8+1) 97)
inductive IC:Nat->List Nat->List Nat->Prop where
 | zero (w:List Nat):IC 0 w w
 | succ {k:Nat}{u v w:List Nat}:Nx u v->IC k v w->IC (k+1) u w
end NM
namespace ME
section
variable {κ:Type} [DecidableEq κ] {α β:Type}
noncomputable def m2 (f:α->β) (e:List (κ × α)):List (κ × β):=e.map fun p=>(p.1,f p.2)
noncomputable abbrev Gt (κ:Type):=κ × κ × List κ
end
end ME
namespace MC
theorem IM:∀ (n a b:Nat),a<n->(a ^^^ b)+(a &&& b)=a ||| b
 | 0,_,_,h=>absurd h (by omega)
 | n+1,a,b,h=>by
  by_cases ha:a=0
  ·subst ha;simp
  have ih:=IM n (a / 2) (b / 2) (by omega)
  rw [<- Nat.xor_div_two,<- Nat.and_div_two,<- Nat.or_div_two] at ih
  have e1:=ZtH (a ^^^ b) 2
  have e2:=ZtH (a &&& b) 2
  have e3:=ZtH (a ||| b) 2
  have t:∀ x:Nat,x % 2=(x.testBit 0).toNat:=fun x=>by
   rw [Nat.testBit_zero]
   rcases ZtI x with q | q <;> simp [q]
  have m1:=t (a ^^^ b)
  have m2:=t (a &&& b)
  have m3:=t (a ||| b)
  rw [Nat.testBit_xor] at m1
  rw [Nat.testBit_and] at m2
  rw [Nat.testBit_or] at m3
  have:(a ^^^ b) % 2+(a &&& b) % 2=(a ||| b) % 2:=by
   rw [m1,m2,m3]
   cases a.testBit 0 <;> cases b.testBit 0 <;> rfl
  omega
end MC
namespace GM
open PySem
end GM
set_option maxHeartbeats 4000000
namespace L2
open PySem PySem.Spec PyProof.Rows
noncomputable def me (t u:TS):TS:=aD t u
theorem mid {t u:TS}{D:Ends}{σ:St}{H:Hp} (M:St->Hp->Prop) (h1:∀ N:St->Hp->Prop,(∀ σ' H',M σ' H'->N σ' H')->t { D with nx:=N } σ H) (h2:∀ σ' H',M σ' H'->u D σ' H'):me t u D σ H:=h1 _ h2
theorem qE {X:Cx}{st:Stmt}{rest:List Stmt}{t u:TS} (h:PS X st t) (hr:jl X rest u):jl X (st :: rest) (me t u):=aG h hr
theorem kR {X:Cx}{id:String}{r:V->List V->Hp->VK->Prop} (h:Hm X id r):yZ X id r:=h
theorem OH {J:It}{σ:St}{k:Nat}{sel:List Nat}{g:TG}{tt:TT}{te:TE}{Q:VK}{H:Hp}{p:Addr}{n:Nat}{item:Nat->V} (Sv:St->Prop) (Pv:Nat->Hp->Prop)
  (hS:Sv (cst σ k sel)) (h0:Pv 0 (upd H p (.lst [])))
  (src:∀ i H2,i<n->Pv i H2->J.go i H2/\∀ x H3,J.lL i H2 x H3->H3=H2/\x=item i) (fin:∀ H2,Pv n H2->J.stop n H2)
  (step:∀ i σ2 H2 (R:St->Hp->Prop),i<n->Sv σ2->Pv i H2->(∀ σ' H',Sv σ'->Pv (i+1) H'->R σ' H')->g (item i) σ2 H2 fun σ4 H4=>tt σ4 H4 fun b H5 =>
   if b=true then te σ4 H5 fun v H6=>∃ ys,H6 p=some (.lst ys)/\ys.length<sizeLine/\R σ4 (upd H6 p (.lst (ys ++ [v]))) else R σ4 H5)
  (hQ:∀ H2,Pv n H2->Q (.ref p) H2):zP J σ k sel g tt te Q H p:=by
 refine ⟨fun i m σ2 H2=>i<=n/\m=n - i+1/\Sv σ2/\Pv i H2,⟨n+1,Ztx _,rfl,hS,h0⟩,?_⟩
 rintro i m σ2 H2 ⟨hi,rfl,hs,hP⟩
 by_cases aX:i<n
 ·right
  obtain ⟨hg,hy⟩:=src i H2 aX hP
  refine ⟨hg,fun x H3 hx=>?_⟩
  obtain ⟨rfl,rfl⟩:=hy x H3 hx
  exact step i σ2 H3 (fun σ' H'=>∃ m',m'<n - i+1/\i+1<=n/\m'=n - (i+1)+1/\Sv σ'/\Pv (i+1) H') aX hs hP fun σ' H' s' h'=>⟨n - (i+1)+1,by omega,aX,rfl,s',h'⟩
 ·left
  have e:i=n:=by omega
  subst e
  exact ⟨fin H2 hP,hQ H2 hP⟩
noncomputable def Jc (H H':Hp):Prop:=∀ b o,H b=some o->(∀ xs,o≠.lst xs)->H' b=some o
section
variable {K:Zrk}{H H' H0 H1:Hp}{l a:Addr}{xs ys:List V}{o:HO}
theorem aP.n (s:aP H H'):Jc H H':=fun b o e _=>s b o e
theorem Jc.clear (h:H l=some (.lst xs)):Jc H (upd H l (.lst ys)):=fun b o e n=>by rw [aQ (cZ e h (n xs))];exact e
theorem aP.put (s:aP H0 H) (h:H0 l=none):aP H0 (upd H l o):=fun b u e=>by rw [aQ (cq e h)];exact s b u e
theorem aP.tup (e:aP H H') (h:dR K H a xs):dR K H' a xs:=by
 rcases h with (h | ⟨o,h⟩) | h
 ·exact .inl (.inl (e _ _ h))
 ·exact .inl (.inr ⟨o,e _ _ h⟩)
 ·exact .inr h
noncomputable def wR (N:Addr->Prop) (H H':Hp):Prop:=∀ b o,N b->H b=some o->H' b=some o
theorem aP.keep {N:Addr->Prop} (s:aP H H'):wR N H H':=fun b o _ e=>s b o e
theorem wR.tup {N:Addr->Prop} (e:wR N H H') (n:N a) (h:dR K H a xs):dR K H' a xs:=by
 rcases h with (h | ⟨o,h⟩) | h
 ·exact .inl (.inl (e _ _ n h))
 ·exact .inl (.inr ⟨o,e _ _ n h⟩)
 ·exact .inr h
end
theorem RP (c:Nat):∀ (k:Nat) (acc:Array Nat),((ZrZ k (#[c]:Array Nat)).foldl (· ++ ·) acc).toList=acc.toList ++ ZrZ k c
 | 0,acc=>by simp
 | k+1,acc=>by
  rw [ZsC,List.foldl_cons,RP c k,ZsC]
  simp
section
variable {K:Zrk}{H:Hp}{p:Addr}{i:Int}{F:V->Prop}
theorem ixI {cs:List Int} (hS:bY K H p (cs.map V.int)) (h0:0<=i) (h1:i<cs.length) (h:F (.int (cs.getD i.toNat 0))):∃ xs v,(bY K H p xs\/dR K H p xs)/\fJ xs i=some v/\F v:=⟨_,_,.inl hS,Vi 0 h0 h1,h⟩
end
theorem P9 (a b:Nat):Builtin.bitAnd (a:Int) (b:Int)=((a &&& b:Nat):Int):=by rw [bitAnd_pp (by omega) (by omega)];simp
theorem tG (a b:Nat):Builtin.bitOr (a:Int) (b:Int)=((a ||| b:Nat):Int):=by
 rw [bitOr_and,P9]
 have:=MC.IM (a+1) a b (ZtD _)
 have h2:(a ||| b)+(a &&& b)=a+b:=by
  have e:∀ (n a b:Nat),a<n->(a ||| b)+(a &&& b)=a+b:=by
   intro n
   induction n with
   | zero=>intro a b h;omega
   | succ n ih =>
    intro a b h
    by_cases ha:a=0
    ·subst ha;simp
    have i1:=ih (a / 2) (b / 2) (by omega)
    rw [<- Nat.and_div_two,<- Nat.or_div_two] at i1
    have t:∀ x:Nat,x % 2=(x.testBit 0).toNat:=fun x=>by
     rw [Nat.testBit_zero]
     rcases ZtI x with q | q <;> simp [q]
    have m2:=t (a &&& b)
    have m3:=t (a ||| b)
    rw [Nat.testBit_and] at m2
    rw [Nat.testBit_or] at m3
    have ma:=t a
    have mb:=t b
    have:(a ||| b) % 2+(a &&& b) % 2=a % 2+b % 2:=by
     rw [m2,m3,ma,mb]
     cases a.testBit 0 <;> cases b.testBit 0 <;> rfl
    omega
  exact e (a+1) a b (ZtD _)
 omega
theorem Hn (a b:Nat):Builtin.bitXor (a:Int) (b:Int)=((a ^^^ b:Nat):Int):=by
 unfold Builtin.bitXor
 rw [tG,P9]
 have:=MC.IM (a+1) a b (ZtD _)
 omega
end L2
set_option maxHeartbeats 4000000
namespace GM
open PySem L2
end GM
set_option maxHeartbeats 4000000
namespace L2
open PySem PySem.Spec PyProof.Rows
theorem ZoC {σ:St}{H:Hp}{Q:VK}:G5 σ H Q = ∀ p H',gk H p (.dT []) H'->Q (.ref p) H':=by
 unfold G5;rw [zL (F:=fun p H'=>Q (.ref p) H')]
section
open Builtin Builtin.Str
end
theorem aP.nil {H H':Hp}{p:Addr} (s:aP H H') (h:H' p=none):H p=none:=by
 cases e:H p with
 | none=>rfl
 | some o=>rw [s _ _ e] at h;cases h
structure qq (H:Hp) (p:Addr) (o:HO) (H':Hp):Prop where
 aH:H p=none
 at_:H' p=some o
 same:aP H H'
theorem gk.KD {H H':Hp}{p:Addr}{o:HO} (n:gk H p o H'):qq H p o H':=⟨n.aH,n.at_,n.same⟩
theorem qq.pre {H H0 H':Hp}{p:Addr}{o:HO} (s:aP H0 H) (n:qq H p o H'):qq H0 p o H':=⟨s.nil n.aH,n.at_,s.trans n.same⟩
theorem mul_one (c:Nat) (n:Int):(Txt.mul ⟨#[c]⟩ n).cps.toList=ZrZ n.toNat c:=by
 unfold Txt.mul
 by_cases h1:n<1
 ·rw [if_pos h1]
  have:n.toNat=0:=by omega
  rw [this]
  rfl
 ·rw [if_neg h1]
  by_cases h2:(n == 1 || Str.length ⟨#[c]⟩ == 0)=true
  ·rw [if_pos h2]
   have h3:n=1:=by
    rw [Zua] at h2
    rcases h2 with q | q
    ·exact beq_iff_eq.mp q
    ·exact absurd (beq_iff_eq.mp q) (by show ¬ (1:Nat)=0;decide)
   subst h3
   rfl
  ·rw [if_neg h2]
   show ((ZrZ n.toNat (#[c]:Array Nat)).foldl (· ++ ·) #[]).toList=_
   rw [RP]
   simp
end L2
namespace MF
noncomputable abbrev Pr:=Int × Int
noncomputable def tn (t:Int):Int:=if t % 2=0 then t+1 else t - 1
noncomputable def lo (s t:Int):Int:=if t<s then t else s
noncomputable def hi (s t:Int):Int:=if t > s then t else s
noncomputable def fN:Int->List Pr->Pr->Option Int
 | _,[],_=>none
 | n,q :: r,p=>if q=p then some n else fN (n+1) r p
noncomputable def nW (s t:Int):Option Int :=
 if lo s t=0 then some 0 else if lo s t=1\/lo s t=hi s t then some (hi s t) else if lo s t=tn (hi s t) then some 0 else none
noncomputable def kn (m:Int) (ps:List Pr) (p:Pr):Int:=(fN (m+1) ps p).getD (m+1+ps.length)
noncomputable def kp (m:Int) (ps:List Pr) (p:Pr):List Pr:=if (fN (m+1) ps p).isSome then ps else ps ++ [p]
noncomputable def bt (m:Int) (ps:List Pr) (s t:Int):Int:=match nW s t with | some v=>v | none=>2 * kn m ps (lo s t,hi s t)
noncomputable def bp (m:Int) (ps:List Pr) (s t:Int):List Pr:=match nW s t with | some _=>ps | none=>kp m ps (lo s t,hi s t)
theorem Mf:∀ {n:Int}{ps:List Pr}{p:Pr}{i:Int},fN n ps p=some i->n<=i/\i<n+ps.length/\ps[(i - n).toNat]? = some p
 | n,[],p,i,h=>by simp [fN] at h
 | n,q :: r,p,i,h=>by
  unfold fN at h
  by_cases e:q=p
  ·rw [if_pos e] at h
   have:=Option.some.inj h
   subst this
   refine ⟨by omega,by simp only [Zsf];omega,?_⟩
   rw [show (n - n).toNat=0 by omega,Zs4,e]
  ·rw [if_neg e] at h
   obtain ⟨h1,h2,h3⟩:=Mf h
   refine ⟨by omega,by simp only [Zsf];omega,?_⟩
   rw [show (i - n).toNat=(i - (n+1)).toNat+1 by omega,ZsJ]
   exact h3
theorem M4:∀ {n:Int}{ps:List Pr}{p:Pr},fN n ps p=none->p ∉ ps
 | n,[],p,h=>by simp
 | n,q :: r,p,h=>by
  unfold fN at h
  by_cases e:q=p
  ·rw [if_pos e] at h;cases h
  ·rw [if_neg e] at h
   intro hm
   rcases Zr7.mp hm with e' | e'
   ·exact e e'.symm
   ·exact M4 h e'
theorem IW:∀ {n:Int}{ps:List Pr}{p:Pr},fN n ps p=none->fN n (ps ++ [p]) p=some (n+ps.length)
 | n,[],p,h=>by simp [fN]
 | n,q :: r,p,h=>by
  have e:¬ q=p:=fun e=>by unfold fN at h;rw [if_pos e] at h;cases h
  unfold fN at h
  rw [if_neg e] at h
  show fN n (q :: (r ++ [p])) p=_
  unfold fN
  rw [if_neg e,IW h]
  congr 1
  simp only [Zsf]
  omega
theorem ye (m:Int) (ps:List Pr) (p:Pr):ps.length<=(kp m ps p).length/\(kp m ps p).length<=ps.length+1:=by
 unfold kp;split <;> simp
theorem S8 (m:Int) (ps:List Pr) (s t:Int):ps.length<=(bp m ps s t).length/\(bp m ps s t).length<=ps.length+1:=by
 unfold bp;split
 ·omega
 ·exact ye ..
theorem Vj (m:Int) (ps:List Pr) (p:Pr):m+1<=kn m ps p/\kn m ps p<m+1+(kp m ps p).length:=by
 unfold kn kp
 cases h:fN (m+1) ps p with
 | none=>simp;omega
 | some i =>
  have:=Mf h
  simp;omega
noncomputable def Ok (m:Int) (ps:List Pr):Prop:=∀ (i:Nat) (p:Pr),ps[i]? = some p->2<=p.1/\p.1<p.2/\p.1 / 2≠p.2 / 2/\p.2<2 * (m+1+i)
theorem X2 {s t:Int} (hs:0<=s) (ht:0<=t) (h:nW s t=none):2<=lo s t/\lo s t<hi s t/\lo s t / 2≠hi s t / 2:=by
 unfold nW at h
 have rE:lo s t<=hi s t/\0<=lo s t:=by unfold lo hi;split <;> split <;> omega
 by_cases h1:lo s t=0
 ·rw [if_pos h1] at h;cases h
 rw [if_neg h1] at h
 by_cases h2:lo s t=1\/lo s t=hi s t
 ·rw [if_pos h2] at h;cases h
 rw [if_neg h2] at h
 by_cases h3:lo s t=tn (hi s t)
 ·rw [if_pos h3] at h;cases h
 refine ⟨by omega,by omega,fun e=>h3 ?_⟩
 unfold tn
 split <;> omega
theorem ZmU {s t T v:Int} (hs:0<=s) (ht:0<=t) (dD:s<T) (nO:t<T) (h:nW s t=some v):0<=v/\v<T:=by
 unfold nW at h
 have rE:lo s t<=hi s t/\0<=lo s t/\hi s t<T:=by unfold lo hi;split <;> split <;> omega
 by_cases h1:lo s t=0
 ·rw [if_pos h1] at h;cases h;omega
 rw [if_neg h1] at h
 by_cases h2:lo s t=1\/lo s t=hi s t
 ·rw [if_pos h2] at h;cases h;omega
 rw [if_neg h2] at h
 by_cases h3:lo s t=tn (hi s t)
 ·rw [if_pos h3] at h;cases h;omega
 rw [if_neg h3] at h;cases h
theorem Aw {s t T:Int} (h1:s<T) (h2:t<T):hi s t<T:=by unfold hi;split <;> omega
theorem W5 (s t:Int):lo s t<=hi s t:=by unfold lo hi;split <;> split <;> omega
theorem Ok.bp {m:Int}{ps:List Pr} (h:Ok m ps) {s t:Int} (hs:0<=s) (ht:0<=t) (dD:s<2 * (m+1+ps.length)) (nO:t<2 * (m+1+ps.length)):Ok m (bp m ps s t):=by
 unfold MF.bp
 cases e:nW s t with
 | some v=>exact h
 | none =>
  show Ok m (kp m ps (lo s t,hi s t))
  unfold kp
  split
  ·exact h
  ·intro i p hp
   rcases Ztt i ps.length with hi' | hi'
   ·rw [Zse hi'] at hp
    exact h i p hp
   ·rw [Zsi hi'] at hp
    have h0:i - ps.length=0:=by
     rcases Nat.eq_zero_or_pos (i - ps.length) with z | z
     ·exact z
     ·rw [Zsu (by simp;omega)] at hp;cases hp
    rw [h0] at hp
    have:=Option.some.inj hp
    subst this
    have h3:=X2 hs ht e
    have h4:=Aw dD nO
    refine ⟨h3.1,h3.2.1,h3.2.2,?_⟩
    show MF.hi s t<_
    have:i=ps.length:=by omega
    subst this
    exact h4
theorem ZpE {m:Int} (hm:0<=m) {ps:List Pr}{s t:Int} (hs:0<=s) (ht:0<=t) (dD:s<2 * (m+1+ps.length)) (nO:t<2 * (m+1+ps.length)):0<=bt m ps s t/\bt m ps s t<2 * (m+1+(MF.bp m ps s t).length):=by
 unfold bt MF.bp
 cases e:nW s t with
 | some v=>exact ZmU hs ht dD nO e
 | none =>
  have:=Vj m ps (lo s t,hi s t)
  show 0<=2 * kn m ps (lo s t,hi s t)/\2 * kn m ps (lo s t,hi s t)<2 * (m+1+((kp m ps (lo s t,hi s t)).length:Int))
  omega
end MF
namespace MF
noncomputable abbrev RS:=Int × List Pr
noncomputable def jT (m:Int) (ps:List Pr) (t:Int):Prop:=0<=t/\t<2 * (m+1+ps.length)
structure St (m:Int) (ps:List Pr) (n:Nat) (r:RS):Prop where
 ok:Ok m ps->Ok m r.2
 Pd:jT m r.2 r.1
 lo:ps.length<=r.2.length
 hi:r.2.length<=ps.length+n
 pre:∃ e,r.2=ps ++ e
 nd:ps.Nodup->r.2.Nodup
theorem jT.tn {m t:Int}{ps:List Pr} (h:jT m ps t):jT m ps (tn t):=by
 have h1:=h.1
 have h2:=h.2
 unfold jT MF.tn
 split <;> omega
theorem yS (m:Int) (ps:List Pr) (s t:Int):∃ e,bp m ps s t=ps ++ e:=by
 unfold bp
 split
 ·exact ⟨[],by simp⟩
 ·unfold kp
  split
  ·exact ⟨[],by simp⟩
  ·exact ⟨_,rfl⟩
theorem Au {m s t:Int}{ps:List Pr} (h:ps.Nodup):(bp m ps s t).Nodup:=by
 unfold bp
 split
 ·exact h
 ·unfold kp
  cases e:fN (m+1) ps (lo s t,hi s t) with
  | some i=>exact h
  | none =>
   have:=M4 e
   show (ps ++ [_]).Nodup
   rw [Zs5]
   refine ⟨h,by simp,fun a ha b hb=>?_⟩
   rw [Zr2] at hb
   subst hb
   exact fun z=>this (z ▸ ha)
noncomputable def bo (m s t:Int) (ps:List Pr):RS:=(bt m ps s t,bp m ps s t)
theorem Gy {m s t:Int}{ps:List Pr} (hm:0<=m) (hs:jT m ps s) (ht:jT m ps t):St m ps 1 (bo m s t ps) :=
 ⟨fun h=>h.bp hs.1 ht.1 hs.2 ht.2,ZpE hm hs.1 ht.1 hs.2 ht.2,(S8 m ps s t).1,(S8 m ps s t).2,yS m ps s t,fun h=>Au h⟩
end MF
set_option maxHeartbeats 4000000
namespace L2
open PySem PySem.Spec PyProof.Rows
noncomputable def kr (p:MF.Pr):List Key:=[.inl p.1,.inl p.2]
theorem ZqQ {p q:MF.Pr} (h:kr p=kr q):p=q:=by
 unfold kr at h
 injection h with h1 h2
 injection h2 with h3 _
 exact Prod.ext (Sum.inl.inj h1) (Sum.inl.inj h3)
noncomputable def kx:Int->List MF.Pr->List (List Key × V)
 | _,[]=>[]
 | n,p :: r=>(kr p,.int n) :: kx (n+1) r
theorem Gg:∀ (n:Int) (ps:List MF.Pr) (p:MF.Pr),gO (kx n ps) (kr p)=(MF.fN n ps p).map V.int
 | _,[],_=>rfl
 | n,q :: r,p=>by
  show gO ((kr q,V.int n) :: kx (n+1) r) (kr p)=_
  unfold MF.fN
  by_cases e:q=p
  ·rw [if_pos e,tZ (p:=(kr q,V.int n)) (congrArg kr e)];rfl
  ·rw [if_neg e,vx (p:=(kr q,V.int n)) (fun z=>e (ZqQ z)),Gg (n+1) r p]
theorem PX:∀ (n:Int) (ps:List MF.Pr) (p:MF.Pr),kx n (ps ++ [p])=kx n ps ++ [(kr p,.int (n+ps.length))]
 | n,[],p=>by simp [kx]
 | n,q :: r,p=>by
  show (kr q,V.int n) :: kx (n+1) (r ++ [p])=(kr q,V.int n) :: (kx (n+1) r ++ _)
  rw [PX (n+1) r p]
  congr 5
  simp only [Zsf]
  omega
theorem Nl:∀ (n:Int) (ps:List MF.Pr),(kx n ps).length=ps.length
 | _,[]=>rfl
 | n,q :: r=>by show (kx (n+1) r).length+1=r.length+1;rw [Nl (n+1) r]
theorem UI {n:Int}{ps:List MF.Pr}{p:MF.Pr} (h:MF.fN n ps p=none):gj (kx n ps) (kr p) (.int (n+ps.length))=kx n (ps ++ [p]):=by
 unfold gj
 rw [MA,Gg,h,PX]
 rfl
noncomputable abbrev En:=Addr × MF.Pr
noncomputable abbrev ar (es:List En):List MF.Pr:=es.map (·.2)
structure cS (H:Hp) (pl kl:Addr) (m:Int) (es:List En):Prop where
 lst:H pl=some (.lst (es.map fun e=>V.ref e.1))
 ig:H kl=some (.dT (kx (m+1) (ar es)))
 tup:∀ e∈es,H e.1=some (.tup [.int e.2.1,.int e.2.2])
noncomputable def kj (pl kl:Addr) (H H':Hp):Prop:=∀ b o,b≠pl->b≠kl->H b=some o->H' b=some o
section
variable {H H' H1:Hp}{pl kl p2 k2 f dx C:Addr}{m:Int}{es:List En}{o:HO}
theorem kj.refl:kj pl kl H H:=fun _ _ _ _ e=>e
theorem kj.trans (u:kj pl kl H H') (v:kj pl kl H' H1):kj pl kl H H1:=fun b o n1 n2 e=>v b o n1 n2 (u b o n1 n2 e)
theorem aP.un (s:aP H H'):kj pl kl H H':=fun b o _ _ e=>s b o e
theorem Kz:kj pl kl H (upd H pl o):=fun b u n1 _ e=>by rw [aQ n1];exact e
theorem Il:kj pl kl H (upd H kl o):=fun b u _ n2 e=>by rw [aQ n2];exact e
theorem cS.same (h:cS H pl kl m es) (s:aP H H'):cS H' pl kl m es:=⟨s _ _ h.lst,s _ _ h.ig,fun e he=>s _ _ (h.tup e he)⟩
structure aC (C:Addr) (H:Hp) (f:Addr) (m:Int) (es:List En) (dx pl kl:Addr):Prop where
 ins:H f=some (.ins C dx [("many",.int m),("pairs",.ref pl),("knots",.ref kl)])
 ck:cS H pl kl m es
theorem aC.same (h:aC C H f m es dx pl kl) (s:aP H H'):aC C H' f m es dx pl kl:=⟨s _ _ h.ins,h.ck.same s⟩
theorem cS.Ec (h:cS H pl kl m es):pl≠kl:=cZ h.lst h.ig (fun z=>nomatch z)
theorem cS.put (h:cS H pl kl m es) {tp:Addr}{p:MF.Pr} (ht:H tp=some (.tup [.int p.1,.int p.2])) (hf:MF.fN (m+1) (ar es) p=none) :
  cS (upd (upd H kl (.dT (kx (m+1) (ar es ++ [p])))) pl (.lst ((es.map fun e=>V.ref e.1) ++ [.ref tp]))) pl kl m (es ++ [(tp,p)]):=by
 have nt:∀ {b:Addr}{xs:List V},H b=some (.tup xs)->upd (upd H kl (.dT (kx (m+1) (ar es ++ [p])))) pl (.lst ((es.map fun e=>V.ref e.1) ++ [.ref tp])) b=some (.tup xs):=fun {b xs} e=>by
  rw [aQ (cZ e h.lst (fun z=>nomatch z)),aQ (cZ e h.ig (fun z=>nomatch z))];exact e
 refine ⟨?_,?_,fun e he=>?_⟩
 ·rw [cz,Zr4];rfl
 ·rw [aQ h.Ec.symm,cz,ar,ar,Zr4];rfl
 ·rcases Zr3.mp he with he | he
  ·exact nt (h.tup e he)
  ·rw [Zr2] at he
   subst he
   exact nt ht
end
theorem Kt {t:Int} (h:0<=t):Builtin.bitXor t 1=MF.tn t:=by
 obtain ⟨a,rfl⟩:=ZtM h
 have e:=Hn a 1
 rw [show ((1:Nat):Int)=1 from rfl] at e
 rw [e]
 have h1:(a ^^^ 1) / 2=a / 2:=by rw [Nat.xor_div_two];simp
 have h2:(a ^^^ 1) % 2=(a+1) % 2:=by
  have:=Nat.xor_mod_two_pow (a:=a) (b:=1) (n:=1)
  rw [show 2 ^ 1=2 from rfl] at this
  rw [this]
  rcases ZtI a with q | q
  ·rw [q,show 0 ^^^ 1 % 2=1 from rfl];omega
  ·rw [q,show 1 ^^^ 1 % 2=0 from rfl];omega
 unfold MF.tn
 split <;> omega
theorem ZnV (es:List En) (n:Nat) (h:n<es.length):(es.map fun e=>V.ref e.1).getD n .non=V.ref (es[n]).1:=by simp [Zsw,h]
end L2
set_option maxHeartbeats 4000000
namespace DL
open PySem DZ
section
variable {prog:Program}{w:World}{A:Around}{E:Value->Shared->Prop}{h:Heap}{g:Array GenState}{d:Drawn}{t:Nat}{os:OsState}{z:Addr}{vs:Array Value}{n:Nat}
end
section
variable {prog:Program}{w:World}{A:Around}{E:Value->Shared->Prop}{s:Shared}{κ:Type} [DecidableEq κ] {knd:KeyKind prog w κ}
end
end DL
namespace L2
open PySem PySem.Spec PyProof.Rows
end L2
set_option maxHeartbeats 4000000
namespace EX
open PySem
structure Lv (S:List Addr) (e:Addr) (old:List Addr) (cls:Value) (h h':Heap) (T:Addr):Prop where
 ge:h.objs.size<=T
 exc:∃ oe vs,h'.get? e=some oe/\oe.cls=cls/\oe.data=.fields vs/\vs[1]? = some (.ref T)/\oe.dict=none
 tb:∃ oT ts,h'.get? T=some oT/\oT.data=.fields ts/\ts[3]? = some .none
 keep:∀ b o,b ∉ S->b≠e->b ∉ old->h.get? b=some o->h'.get? b=some o
 slot:∀ b o,b∈S->h.get? b=some o->∃ sl,h'.get? b=some { o with slots:=sl }
theorem TH (f:Array Value->Array Value) (o:Obj):(Obj.mapFields f o).dict=o.dict:=by
 unfold Obj.mapFields
 split <;> rfl
section
variable {M:Model}{A:Around}{E:Value->Shared->Prop}{s:Shared}
theorem Np {base:Heap}{env:Env}{outer:List Env}{L e:Addr}{oe:Obj}{vs:Array Value}{Qg:Value}{nx:Bool}{Q:Unit->Shared->Prop} (kZ:A.frames=some (env :: outer)) (hl:s.heap.FunFrames base (env :: outer)) (hf:env.frame=some L)
  (he:s.heap.get? e=some oe) (pV:oe.dict=none) (hd:oe.data=.fields vs) (hsz:1<vs.size)
  (q:∀ h' T,Lv ((env :: outer).filterMap (·.frame)) e [] oe.cls s.heap h' T->Q () { s with heap:=h' }) :
  wpAny M A (do let a <- frameOf env;let pl <- entryPlaceOf L nx;let b <- EntryCells.newEntry Qg a .none (rawInt L) .none pl;setField (.ref e) 1 b) (fun _ s'=>wpAny M A (setFlight (.ref e) none) Q E s') E s:=by
 have eS:e ∉ (env :: outer).filterMap (·.frame):=fun hm=>by
  obtain ⟨_,o,ho,hnf⟩:=hl.mem hm
  rw [he] at ho
  cases ho
  exact hnf vs hd
 refine wpAny_bind (wpAny_frameOf_fun kZ hl hf fun k1 x1=>wpAny_bind (wpAny_entryPlaceOf fun pl kd=>?_))
 unfold EntryCells.newEntry newFields
 refine wpAny_bind (wpAny_newObj_type ?_ (kd.sizeOk5 _ _ _ _ _))
 have e1:k1.get? e=some oe:=(x1.2.1 e eS).trans he
 generalize hob:({ cls:=.type "traceback",dict:=none,data:=.fields ([Qg,.ref L,.none,rawInt L,.none] ++ (if pl.isEmpty then ZrZ 6 Value.none else pl)).toArray }:Obj)=ob
 have Li:∃ ts,ob.data=.fields ts/\3<ts.size:=⟨_,by rw [<- hob],by simp only [Zr9,Zr0,Zsf,Zst];omega⟩
 obtain ⟨ts,hts,hts3⟩:=Li
 have yR:ob.isFreed=false:=by rw [<- hob];rfl
 have e2:(k1.push ob).get? e=some oe:=Heap.get?_push_of_some _ e1
 refine wpAny_setField e2 hd hsz ?_
 have SE:k1.objs.size≠e:=ZtA (Heap.lt_size e1)
 have d3:=Obj.data_mapFields hd (·.setIfInBounds 1 (Value.ref k1.objs.size))
 have e3:=Heap.get?_update_self (Obj.mapFields (·.setIfInBounds 1 (Value.ref k1.objs.size))) e2 (Obj.isFreed_of_fields d3)
 have t3:=(Heap.get?_update_other (k1.push ob) (Obj.mapFields (·.setIfInBounds 1 (Value.ref k1.objs.size))) (Ne.symm SE)).trans (Heap.get?_push_size k1 yR)
 unfold setFlight
 refine wpAny_bind (wpAny_field e3 d3 (x:=.ref k1.objs.size) (by simp [hsz]) ?_)
 rw [if_pos (show (Value.ref k1.objs.size != Value.none)=true by simp)]
 refine wpAny_setField t3 hts hts3 (q _ k1.objs.size ?_)
 have up:∀ b o,b≠e->k1.get? b=some o->(((k1.push ob).update e (Obj.mapFields (·.setIfInBounds 1 (Value.ref k1.objs.size)))).update k1.objs.size (Obj.mapFields (·.setIfInBounds 3 ((none:Option Addr).elim Value.none fun f=>rawInt f)))).get? b=some o:=fun b o nb hb=>by
  rw [Heap.get?_update_other _ _ (ZtA (Heap.lt_size hb)),Heap.get?_update_other _ _ (Ne.symm nb)]
  exact Heap.get?_push_of_some _ hb
 refine ⟨by rw [x1.1];exact Zts _,⟨_,_,(Heap.get?_update_other _ _ SE).trans e3,Obj.cls_mapFields _ _,d3,by simp [hsz],(TH _ _).trans pV⟩,?_,fun b o hb nb _ hbo=>up b o nb ((x1.2.1 b hb).trans hbo),fun b o hb hbo=>?_⟩
 ·have d4:=Obj.data_mapFields hts (·.setIfInBounds 3 ((none:Option Addr).elim Value.none fun f=>rawInt f))
  exact ⟨_,_,Heap.get?_update_self _ t3 (Obj.isFreed_of_fields d4),d4,by simp [hts3]⟩
 ·obtain ⟨sl,hs⟩:=x1.2.2 b o hbo
  exact ⟨sl,up b _ (fun z=>eS (z ▸ hb)) hs⟩
noncomputable def Ml (h:Heap) (e:Addr) (vs:Array Value) (old:List Addr):Prop :=
 (vs[1]? = some .none/\old=[])\/∃ T0 oT ts,old=[T0]/\vs[1]? = some (.ref T0)/\T0≠e/\h.get? T0=some oT/\oT.data=.fields ts/\ts[3]? = some .none
theorem lands {base:Heap}{env:Env}{outer:List Env}{L e:Addr}{oe:Obj}{vs:Array Value}{old:List Addr}{Q:Unit->Shared->Prop} (kZ:A.frames=some (env :: outer)) (hl:s.heap.FunFrames base (env :: outer)) (hf:env.frame=some L)
  (he:s.heap.get? e=some oe) (pV:oe.dict=none) (hd:oe.data=.fields vs) (tr:Ml s.heap e vs old)
  (q:∀ h' T,Lv ((env :: outer).filterMap (·.frame)) e old oe.cls s.heap h' T->Q () { s with heap:=h' }):wpAny M A (noteFrame (.ref e) env) (fun _ s'=>wpAny M A (setFlight (.ref e) none) Q E s') E s:=by
 unfold noteFrame
 simp only [hf]
 rcases tr with ⟨h1,rfl⟩ | ⟨T0,oT,ts,rfl,h1,nT,hT,hdT,h3⟩
 ·refine wpAny_bind (wpAny_field he hd h1 ?_)
  rw [if_neg (by decide)]
  exact Np kZ hl hf he pV hd (ZtY.mp h1).1 q
 ·refine wpAny_bind (wpAny_field he hd h1 ?_)
  rw [if_pos (show (Value.ref T0 != Value.none)=true by simp)]
  refine wpAny_bind (wpAny_field hT hdT h3 ?_)
  rw [if_neg (show ¬ ((Value.none == rawInt L)=true) by simp [rawInt])]
  refine wpAny_bind (wpAny_setField hT hdT (ZtY.mp h3).1 ?_)
  have ot:∀ b,b≠T0->(s.heap.update T0 (Obj.mapFields (·.setIfInBounds 3 Value.none))).get? b=s.heap.get? b:=fun b hb=>Heap.get?_update_other _ _ (Ne.symm hb)
  have nf:∀ b o,s.heap.get? b=some o->(∀ vs,o.data≠.fields vs)->b≠T0:=fun b o hb hnf z=>by
   rw [z,hT] at hb
   cases hb
   exact hnf ts hdT
  refine Np kZ (hl.of_keeps fun b o hb hnf=>⟨o,(ot b (nf b o hb hnf)).trans hb,rfl⟩) hf ((ot e (Ne.symm nT)).trans he) pV hd (ZtY.mp h1).1 fun h' T x=>q h' T ⟨?_,x.exc,x.tb,fun b o hb nb no hbo=>?_,fun b o hb hbo=>?_⟩
  ·have:=x.ge
   rw [show (s.heap.update T0 (Obj.mapFields (·.setIfInBounds 3 Value.none))).objs.size=s.heap.objs.size from Heap.size_after_update ..] at this
   exact this
  ·exact x.keep b o hb nb (by simp) ((ot b (fun z=>no (by simp [z]))).trans hbo)
  ·obtain ⟨_,o',ki,hnf⟩:=hl.mem hb
   rw [hbo] at ki
   cases ki
   exact x.slot b o hb ((ot b (nf b o hbo hnf)).trans hbo)
theorem yW {base:Heap}{env:Env}{outer:List Env}{L e:Addr}{oe:Obj}{vs:Array Value}{old:List Addr}{Q:Unit->Shared->Prop} (kZ:A.frames=some (env :: outer)) (hl:s.heap.FunFrames base (env :: outer)) (hf:env.frame=some L)
  (he:s.heap.get? e=some oe) (pV:oe.dict=none) (hd:oe.data=.fields vs) (tr:Ml s.heap e vs old)
  (q:∀ h' T,Lv ((env :: outer).filterMap (·.frame)) e old oe.cls s.heap h' T->Q () { s with heap:=h' }):wpAny M A (leaving env (.ref e)) Q E s:=by
 unfold leaving
 exact wpAny_bind (lands kZ hl hf he pV hd tr q)
end
end EX
set_option maxHeartbeats 4000000
namespace L2
open PySem PySem.Spec PyProof.Rows
noncomputable def gZ (P:Program) (w:World):lp:=fun outer H s E er s'=>∃ e T C H',er=.ref e/\s'.os=s.os/\AllBare s'.gens/\Un (jD outer) [] H H' s.heap s'.heap/\e7 P w H' s'.heap/\s.heap.get? e=none/\s.heap.get? T=none/\T≠e/\H' e=none/\H' T=none /\
 (∃ oe vs,s'.heap.get? e=some oe/\oe.cls=.ref C/\oe.data=.fields vs/\vs[1]? = some (.ref T)/\oe.dict=none)/\(∃ oT ts,s'.heap.get? T=some oT/\oT.data=.fields ts/\ts[3]? = some .none)/\E (.ref e) (some C) H'
theorem fz.has {P:Program}{w:World}{H:Hp}{h:Heap}{a:Addr}{o:HO} (x:fz P w H h a o):∃ u,h.get? a=some u:=by
 cases o with
 | lst xs=>obtain ⟨_,_,_,_,e⟩:=x;exact ⟨_,e⟩
 | tup xs=>obtain ⟨_,_,_,_,e,_⟩:=x;exact ⟨_,e⟩
 | dK kvs=>obtain ⟨_,_,_,_,o,_,_,e,_⟩:=x;exact ⟨_,e⟩
 | dT kvs=>obtain ⟨_,_,_,_,o,_,_,e,_⟩:=x;exact ⟨_,e⟩
 | set S n=>obtain ⟨o,_,_,_,e,_⟩:=x;exact ⟨_,e⟩
 | ins C dx fs=>obtain ⟨_,_,_,e,_⟩:=x;exact ⟨_,e⟩
 | own y=>exact x
 | xd fs=>obtain ⟨_,⟨_,_,_,e,_⟩,_⟩:=x;exact ⟨_,e⟩
 | rng lo hi=>obtain ⟨_,_,_,e⟩:=x;exact ⟨_,e⟩
 | frz ob u=>obtain ⟨e,_⟩:=x;exact ⟨_,e⟩
 | tbl ps=>exact ⟨_,(show h.get? a=some _ from x)⟩
 | met f y=>exact ⟨_,(show h.get? a=some _ from x)⟩
 | ext φ=>obtain ⟨_,e,_⟩:=x;exact e
theorem e7.oW {P:Program}{w:World}{H:Hp}{h:Heap}{a:Addr} (x:e7 P w H h) (e:h.get? a=none):H a=none:=by
 cases q:H a with
 | none=>rfl
 | some u =>
  obtain ⟨o,z⟩:=(x a u q).has
  rw [e] at z;cases z
noncomputable def pQ (X:Cx) (pins:List (Addr × Obj)) (H:Hp) (b:Addr):Prop :=
 H b=none/\b≠X.env.locals/\b ∉ X.fs/\(b∈X.ex\/X.s₀.heap.get? b=none)/\(∀ x c,X.env.cells.lookup x=some c->c≠b)/\∀ p∈X.pn ++ pins,p.1≠b
theorem Inv.vX {X:Cx}{pins:List (Addr × Obj)}{σ:St}{H H':Hp}{s:Shared}{b:Addr} (I:Inv X pins σ H s) (hb:s.heap.get? b=none) (hn:H' b=none):pQ X pins H' b:=by
 have no:∀ {o:Obj},s.heap.get? b=some o->False:=fun z=>by rw [hb] at z;cases z
 refine ⟨hn,fun z=>?_,fun z=>?_,?_,fun x c e z=>?_,fun p hp z=>?_⟩
 ·obtain ⟨m,⟨o,es,ep,ho,_⟩,_⟩:=I.loc
  rw [<- z] at ho;exact no ho
 ·obtain ⟨_,o,ho,_⟩:=I.eL.mem z
  exact no ho
 ·by_cases hx:b∈X.ex
  ·exact .inl hx
  ·refine .inr ?_
   cases q:X.s₀.heap.get? b with
   | none=>rfl
   | some o =>
    obtain ⟨o',h'⟩:=I.base.there b o q hx
    exact (no h').elim
 ·obtain ⟨v,q⟩:=I.cell x c e
  rw [z] at q
  obtain ⟨o,ho,_⟩:=q
  exact no ho
 ·have:=(I.pin p hp).1
  rw [z] at this
  exact no this
structure Gn (X:Cx) (pins:List (Addr × Obj)) (H:Hp) (e C:Addr) (s:Shared):Prop where
 fe:pQ X pins H e
 obj:∃ oe vs old,s.heap.get? e=some oe/\oe.cls=.ref C/\oe.data=.fields vs/\EX.Ml s.heap e vs old/\oe.dict=none/\∀ b∈old,pQ X pins H b
noncomputable def B9 (X:Cx) (E:XK):Prop:=∀ (pins:List (Addr × Obj)) (σ:St) (H:Hp) (s:Shared) (e C:Addr),Inv X pins σ H s->Gn X pins H e C s->E (.ref e) (some C) H->X.xe (.ref e) s
theorem uu {X:Cx}{pins:List (Addr × Obj)}{σ:St}{H:Hp}{s s':Shared}{E:XK}{er:Value} (I:Inv X pins σ H s) (h:gZ X.prog X.w X.stack H s E er s'):∃ e C H',er=.ref e/\Inv X pins σ H' s'/\Gn X pins H' e C s'/\E (.ref e) (some C) H':=by
 obtain ⟨e,T,C,H',rfl,os,bare,un,aF,ge,gT,ne,he,hT,⟨oe,vs,h1,h2,h3,h4,h8⟩,⟨oT,ts,h5,h6,h7⟩,q⟩:=h
 obtain ⟨hh,g,d,t,os'⟩:=s'
 obtain rfl:os'=s.os:=os
 refine ⟨e,C,H',rfl,I.call (h':=hh) (g':=g) (d':=d) (t':=t) (ch:=[]) un aF bare (fun b z=>absurd z (by simp)),⟨I.vX ge he,oe,vs,[T],h1,h2,h3,.inr ⟨T,oT,ts,rfl,h4,ne,h5,h6,h7⟩,h8,fun b hb=>?_⟩,q⟩
 rw [Zr2.mp hb]
 exact I.vX gT hT
theorem MD {X:Cx}{E:XK} (h:B9 X E):pM (gZ X.prog X.w) X E:=fun pins σ H s er s' I hcx=>by
 obtain ⟨e,C,H',rfl,I',fl,q⟩:=uu I hcx
 exact h pins σ H' s' e C I' fl q
theorem oY {P:Program}{w:World}{X:Cx}:pM (gZ P w) X E0:=fun _ _ _ _ _ _ _ h=>by
 obtain ⟨_,_,_,_,_,_,_,_,_,_,_,_,_,_,_,_,q⟩:=h
 exact q.elim
section
variable {P:Program}{w:World}{K:Zrk}{mg:Str->Option Value}{base:Heap}
theorem pP {N:List Str}{qual:Str}{scope:Scope}{f:Addr}{bS:Value}{A:Around}{outer:List Env}{s:Shared}{H:Hp}{E:XK}:B9 (kT (gZ P w) P w K mg base N qual scope f bS A outer s H E) E:=by
 intro pins σ H' s' e C I fl q
 obtain ⟨fe,oe,vs,old,h1,h2,h3,tr,pV,fo⟩:=fl
 show wpAny (model P w) (A.deeper (envOfC qual scope s.heap.objs.size f bS)) (leaving (envOfC qual scope s.heap.objs.size f bS) (.ref e)) (fun _ s''=>gZ P w outer H s E (.ref e) s'') (fun e' s''=>gZ P w outer H s E e' s'') s'
 have fr:(A.deeper (envOfC qual scope s.heap.objs.size f bS)).frames=some (envOfC qual scope s.heap.objs.size f bS :: outer):=I.ok.frames
 have ff:s'.heap.FunFrames base (envOfC qual scope s.heap.objs.size f bS :: outer):=I.stack
 have free:∀ b∈(envOfC qual scope s.heap.objs.size f bS :: outer).filterMap (·.frame),H' b=none:=I.iy
 have big:∀ {b},pQ (kT (gZ P w) P w K mg base N qual scope f bS A outer s H E) pins H' b->s.heap.get? b=none:=fun {b} hb=>by
  rcases hb.2.2.2.1 with z | z
  ·exact absurd z (by show b ∉ ([]:List Addr);simp)
  ·exact z
 have nY:∀ {b o},s.heap.get? b=some o->b≠e/\b ∉ old/\b≠s.heap.objs.size:=fun {b o} hb=>by
  have lt:=Heap.lt_size hb
  refine ⟨fun z=>?_,fun z=>?_,Ztu lt⟩
  ·have:=big fe
   rw [<- z,hb] at this;cases this
  ·have:=big (fo b z)
   rw [hb] at this;cases this
 refine EX.yW (base:=base) fr ff rfl h1 pV h3 tr fun h' T lv=>?_
 have inS:∀ {b},b∈(envOfC qual scope s.heap.objs.size f bS :: outer).filterMap (·.frame)->b=s.heap.objs.size\/b∈jD outer:=fun {b} hb=>by
  rw [ZsZ] at hb
  exact Zr7.mp hb
 have toS:∀ {b},b∈jD outer->b∈(envOfC qual scope s.heap.objs.size f bS :: outer).filterMap (·.frame):=fun {b} hb=>by
  rw [ZsZ]
  exact Zso _ hb
 have B:=I.base
 have sge:s.heap.objs.size<=s'.heap.objs.size:=I.sz
 have kp:∀ b u,H' b≠none->s'.heap.get? b=some u->h'.get? b=some u:=fun b u nb hb=>by
  refine lv.keep b u (fun z=>nb (free b z)) (fun z=>nb (by rw [z];exact fe.1)) (fun z=>nb (fo b z).1) hb
 refine ⟨e,T,C,H',rfl,I.os,I.bare,⟨fun b o e1 n hb hx=>?_,fun b o e1 n hb hx=>?_,fun b o e1 n hx=>B.free b o e1 n hx,fun b o e1 hx=>?_,B.hJ,B.gD,B.ie⟩,fun b u e1=>?_,big fe,Heap.get?_none_of_le (Ztv sge lv.ge),?_,fe.1,I.aF.fresh lv.ge,?_,lv.tb,q⟩
 ·obtain ⟨z1,z2,z3⟩:=nY e1
  refine lv.keep b o (fun z=>?_) z1 z2 (B.keep b o e1 n hb hx)
  rcases inS z with z | z
  ·exact z3 z
  ·exact hb z
 ·obtain ⟨sl,e2⟩:=B.slot b o e1 n hb hx
  obtain ⟨sl',e3⟩:=lv.slot b _ (toS hb) e2
  exact ⟨sl',e3⟩
 ·obtain ⟨o',e2⟩:=B.there b o e1 hx
  obtain ⟨z1,z2,z3⟩:=nY e1
  by_cases hS:b∈(envOfC qual scope s.heap.objs.size f bS :: outer).filterMap (·.frame)
  ·obtain ⟨sl,e3⟩:=lv.slot b _ hS e2
   exact ⟨_,e3⟩
  ·exact ⟨o',lv.keep b o' hS z1 z2 e2⟩
 ·refine (I.aF b u e1).jU (fun c v hc hv=>kp c v (fun z=>?_) hv) (fun _ z=>z) fun _ _ z=>z
  rcases hc with y | y
  ·rw [y,e1] at z;cases z
  ·rw [y] at z;cases z
 ·exact ZtA (Ztw (Heap.lt_size h1) lv.ge)
 ·obtain ⟨oe',vs',y1,y2,y3,y4,y5⟩:=lv.exc
  exact ⟨oe',vs',y1,y2.trans h2,y3,y4,y5⟩
theorem kF.okX {x qual:Str}{st:Stmt}{f:Addr}{fd:FuncData}{N ps:List Str}{k:Nat}{sp:Sp} (F:kF K x qual st f fd) (S:aj N ps (bx st)) (len:∀ vs H Q E,sp vs H Q E->vs.length=ps.length)
  (kJ:∀ (bS:Value) (A:Around) (outer:List Env) (s:Shared) (H:Hp) (vs:List V) (Q:VK) (E:XK),bG k (A.deeper (envOfC qual (bx st) s.heap.objs.size f bS))->sp vs H Q E ->
   ∃ t,jl (kT (gZ P w) P w K mg base N qual (bx st) f bS A outer s H E) (kL st) t/\t { nx:=fun _ H'=>Q .non H',rt:=Q } (start N vs) H):aK P w K mg base (gZ P w) (k+1) f fd ps sp:=by
 obtain ⟨oc,od,kV,doc,pm,an,bS,ct,lV,rfl,lk,mh⟩:=F.ex
 exact rT lk mh S len fun A outer s H vs Q E hr pX=>kJ bS A outer s H vs Q E hr pX
end
section
open PySem.W
theorem wb {K:Frag}{h:Heap}{C:Addr}{zK:List Value}{newId:String} (X:K.In h) (q:excIn K C zK newId=true):∃ bm N nm qn bs hdct sn sub ab col dd k0 k1 k2 k3 k5 mN,
  h.get? C=some (excClassObj nm qn C N bs bm hdct sn sub ab col dd k0 k1 k2 k3 k5 newId)/\h.Ns N mN/\mN "__init__" = none/\OwnTail h zK bm:=by
 have hk:=q
 revert hk
 rw [excIn]
 intro hk
 cases hl:K.lookup C with
 | none=>rw [hl] at hk;cases hk
 | some ob =>
  obtain ⟨c,dd,dt,sl⟩:=ob
  rw [hl] at hk
  split at hk
  next dd' cd sl' he =>
   cases he
   split at hk
   next C' bm k0 k1 k2 k3 n k5 hm hs =>
    simp only [Zt6,beq_iff_eq,Bool.not_eq_true'] at hk
    obtain ⟨⟨⟨⟨⟨hc,hn⟩,hdel⟩,ht⟩,aF⟩,zb⟩:=hk
    cases cd
    cases sl
    simp only at hm hdel aF zb hs
    rw [hm,hdel,hs] at hl
    rw [hc,hn] at hl
    exact ⟨_,_,_,_,_,_,_,_,_,_,_,_,_,_,_,_,_,X _ _ hl,.of_isNs (isNs_of_in X aF),nsMap_none_of_in X aF zb,tail_of_in X ht⟩
   next=>cases hk
  next=>cases hk
end
noncomputable def qt (C:Addr) (t:TA) (E:XK):TS:=fun _ σ H=>t σ H fun vs H1=>vs.length<=sizeLine/\∀ e,H1 e=none->E (.ref e) (some C) H1
theorem xT {X:Cx}{E:XK}{C:Addr}{x:Str}{zK:List Value}{B newId wB:String}{e:Expr}{es:List Expr}{t:TA}{np cH pos:Pos} (F:ExcBaseFacts B newId wB zK) (q:Zrs X.K C zK newId=true) (iS:zK.contains (.type "BaseException")=true)
  (hg:Gl X x) (hm:X.mg x=some (.ref C)) (hc:X.calm=true) (hx:B9 X E) (ha:PA X (e :: es) t) (oR:(x == ("__debug__" : Str))=false:=by decide) (he:starEach (e :: es) X.env=(false,eval e X.env) :: starEach es X.env:=by rfl)
  (kd:(backTo cH (starEach (e :: es) X.env)).any (·.1)=false:=by rfl):PS X (.Raise (some (.Call (.Name x np) (e :: es) [] cH)) none pos) (qt C t E):=by
 intro pins s σ H D I h
 obtain ⟨bm,N,nm,qn,bs,hdct,sn,sub,ab,col,dd,k0,k1,k2,k3,k5,mN,hC,hN,zb,T⟩:=wb I.ok.mod.pG q
 refine wpAny_Raise_call_subT (nm:=nm) (q:=qn) (N:=N) (bs:=bs) (hdct:=hdct) (sn:=sn) (sub:=sub) (ab:=ab) (col:=col) (dd:=dd) (k0:=k0) (k1:=k1) (k2:=k2) (k3:=k3) (k5:=k5) F (T.hasType iS) (I.ok.hd hc) kd zb (He I hg hm ⟨rfl,?_⟩ oR)
 have a1:=ha cH pins s σ H _ I h
 rw [he] at a1 ⊢
 refine Calls.evalArgs_plain (aS a1 fun us s1 ⟨vs,H1,I1,r,hz,q1⟩=>⟨rfl,?_,I1.bk _ _ hC,hN.keeps I1.bk,T.keeps I1.bk,fun h' e' hme=>?_⟩)
 ·show us.length<=_
  rw [<- r.length];exact hz
 ·have I2:Inv X pins σ H1 { s1 with heap:=h' }:=I1.kept (t':=s1.toks) hme.keeps
  obtain ⟨tt,t1,t2,t3⟩:=hme.there
  exact hx pins σ H1 _ e' C I2 ⟨I1.vX hme.new (I1.aF.oW hme.new),_,_,[],t1,rfl,rfl,.inl ⟨rfl,rfl⟩,rfl,fun b hb=>absurd hb (by simp)⟩ (q1 e' (I1.aF.oW hme.new))
noncomputable def Cx.plus (X:Cx) (l:List Addr):Cx:={ X with ex:=l ++ X.ex }
section
variable {X:Cx}{pins:List (Addr × Obj)}{σ:St}{H:Hp}{s:Shared}{l:List Addr}
theorem Zkd (I:Inv X pins σ H s) {b:Addr} (hb:X.s₀.heap.get? b=none) (o:Obj):X.base.get? b≠some o:=fun z=>by
 have:=(I.ok.bs b o z).1
 rw [hb] at this;cases this
theorem Inv.plus (I:Inv X pins σ H s) (h:∀ b∈l,pQ X pins H b):Inv (X.plus l) pins σ H s:=by
 have K:=I.ok
 refine ⟨⟨K.mod,K.kind,K.glob,K.blt,K.above,K.inj,K.has,K.rZ,K.hd,K.frames,K.xU,fun b hb=>?_,K.bs,K.lU,fun b o e hb=>?_,fun b hb=>?_,K.eL,K.pk⟩,I.os,I.bare,?_,I.loc,I.cell,I.free,I.dv,I.pin,I.aF,I.len⟩
 ·rcases Zr3.mp hb with z | z
  ·exact ⟨(h b z).2.1,(h b z).2.2.2.2.1⟩
  ·exact K.D9 b z
 ·rcases Zr3.mp hb with z | z
  ·rcases (h b z).2.2.2.1 with y | y
   ·exact K.jP b o e y
   ·exact Zkd I y o e
  ·exact K.jP b o e z
 ·rcases Zr3.mp hb with z | z
  ·exact (h b z).2.2.1
  ·exact K.ku b z
 ·have no:∀ {b:Addr},b ∉ l ++ X.ex->b ∉ X.ex:=fun hb z=>hb (Zsm _ z)
  exact ⟨fun b o e n hb hx=>I.base.keep b o e n hb (no hx),fun b o e n hb hx=>I.base.slot b o e n hb (no hx),fun b o e n hx=>I.base.free b o e n (no hx),fun b o e hx=>I.base.there b o e (no hx),I.base.hJ,I.base.gD,I.base.ie⟩
theorem Inv.minus (I:Inv (X.plus l) pins σ H s) (K:X.Ok) (h:∀ b∈l,b∈X.ex\/X.s₀.heap.get? b=none):Inv X pins σ H s:=by
 have no:∀ {b:Addr}{o:Obj},X.s₀.heap.get? b=some o->b ∉ X.ex->b ∉ l ++ X.ex:=fun {b o} e hb z=>by
  rcases Zr3.mp z with y | y
  ·rcases h b y with u | u
   ·exact hb u
   ·rw [u] at e;cases e
  ·exact hb y
 exact ⟨K,I.os,I.bare,⟨fun b o e n hb hx=>I.base.keep b o e n hb (no e hx),fun b o e n hb hx=>I.base.slot b o e n hb (no e hx),fun b o e n hx=>I.base.free b o e n (no e hx),fun b o e hx=>I.base.there b o e (no e hx),I.base.hJ,I.base.gD,I.base.ie⟩,
  I.loc,I.cell,I.free,I.dv,I.pin,I.aF,I.len⟩
theorem Inv.turn {h':Heap} (I:Inv X pins σ H s) (h:∀ b∈l,pQ X pins H b)
  (keep:∀ b o,b ∉ jD X.stack->b ∉ l->s.heap.get? b=some o->h'.get? b=some o) (slot:∀ b o,b∈jD X.stack->s.heap.get? b=some o->∃ sl,h'.get? b=some { o with slots:=sl }):Inv X pins σ H { s with heap:=h' }:=by
 have I1:=I.plus h
 have st:∀ b,H b≠none->b ∉ jD X.stack/\b ∉ l:=fun b n=>⟨fun z=>n (I.iy b z),fun z=>n (h b z).1⟩
 have u:Un (jD X.stack) l H H s.heap h':=by
  refine ⟨fun b o e n hb hx=>keep b o hb hx e,fun b o e n hb hx=>slot b o hb e,fun b o e n hx=>n,fun b o e hx=>?_,fun _ _ e=>e,fun _ _ _ e=>e,fun b ps e=>⟨#[],by rw [e];simp⟩⟩
  by_cases hb:b∈jD X.stack
  ·obtain ⟨sl,q⟩:=slot b o hb e
   exact ⟨_,q⟩
  ·exact ⟨o,keep b o hb hx e⟩
 have aF:e7 X.prog X.w H h':=fun b u e1=>by
  refine (I.aF b u e1).jU (fun c v hc hv=>?_) (fun _ z=>z) fun _ _ z=>z
  have n:H c≠none:=fun z=>by
   rcases hc with y | y
   ·rw [y,e1] at z;cases z
   ·rw [y] at z;cases z
  exact keep c v (st c n).1 (st c n).2 hv
 exact Inv.minus (l:=l) (I1.call (g':=s.gens) (d':=s.drawn) (t':=s.toks) (ch:=l) u aF I.bare fun b hb=>⟨.inl (Zsp _ hb),(h b hb).2.1,(h b hb).2.2.2.2.1,(h b hb).2.2.2.2.2⟩) I.ok fun b hb=>(h b hb).2.2.2.1
structure C3 (X:Cx) (pins:List (Addr × Obj)) (H:Hp) (e C T:Addr) (s:Shared):Prop where
 fe:pQ X pins H e
 fT:pQ X pins H T
 ne:T≠e
 exc:∃ oe vs,s.heap.get? e=some oe/\oe.cls=.ref C/\oe.data=.fields vs/\vs[1]? = some (.ref T)/\oe.dict=none
 tb:∃ oT ts,s.heap.get? T=some oT/\oT.data=.fields ts/\ts[3]? = some .none
theorem again {e C T:Addr}{Q:Unit->Shared->Prop}{A:Around} (I:Inv X pins σ H s) (hd:C3 X pins H e C T s)
  (q:∀ h',Inv X pins σ H { s with heap:=h' }->C3 X pins H e C T { s with heap:=h' }->Q () { s with heap:=h' }) {E:Value->Shared->Prop} :
  wpAny (model X.prog X.w) A (setFlight (.ref e) none) Q E s:=by
 obtain ⟨fe,fT,ne,⟨oe,vs,h1,h2,h3,h4,h5⟩,⟨oT,ts,t1,t2,t3⟩⟩:=hd
 unfold setFlight
 refine wpAny_bind (wpAny_field h1 h3 h4 ?_)
 rw [if_pos (show (Value.ref T != Value.none)=true by simp)]
 refine wpAny_setField t1 t2 (ZtY.mp t3).1 ?_
 have d4:=Obj.data_mapFields t2 (·.setIfInBounds 3 ((none:Option Addr).elim Value.none fun f=>rawInt f))
 have ot:∀ b,b≠T->(s.heap.update T (Obj.mapFields (·.setIfInBounds 3 ((none:Option Addr).elim Value.none fun f=>rawInt f)))).get? b=s.heap.get? b:=fun b hb=>Heap.get?_update_other _ _ (Ne.symm hb)
 have Jx:∀ b,b∈jD X.stack->b≠T:=fun b hb z=>by
  obtain ⟨_,o,ho,nf⟩:=I.stack.mem hb
  rw [z,t1] at ho;cases ho
  exact nf ts t2
 refine q _ (I.turn (l:=[T]) (fun b hb=>?_) (fun b o hb hl ho=>?_) fun b o hb ho=>?_) ⟨fe,fT,ne,⟨oe,vs,(ot e (Ne.symm ne)).trans h1,h2,h3,h4,h5⟩,⟨_,_,Heap.get?_update_self _ t1 (Obj.isFreed_of_fields d4),d4,?_⟩⟩
 ·rw [Zr2.mp hb];exact fT
 ·exact (ot b (fun z=>hl (by simp [z]))).trans ho
 ·exact ⟨o.slots,(ot b (Jx b hb)).trans ho⟩
 ·simp [(ZtY.mp t3).1]
end
noncomputable def mroIn (K:Zrk) (C:Addr):List Value:=match K.lookup C with
 | some ⟨_,_,.cls cd,_⟩=>cd.mro
 | _=>[]
section
open PySem.W
end
noncomputable def Cx.tr (X:Cx) (pins:List (Addr × Obj)) (Ex:St->XK):Cx :=
 { X with pn:=X.pn ++ pins,xe:=fun er s=>∃ σ e C H,er=.ref e/\Inv X pins σ H s/\Gn X pins H e C s/\Ex σ (.ref e) (some C) H }
section
variable {X:Cx}{pins:List (Addr × Obj)}{σ:St}{H:Hp}{s:Shared}{e C T:Addr}{D:Ends}{f:Flow}{Ex:St->XK}
theorem Inv.tr (I:Inv X pins σ H s) (Ex:St->XK):Inv (X.tr pins Ex) [] σ H s :=
 ⟨⟨I.ok.mod,I.ok.kind,I.ok.glob,I.ok.blt,I.ok.above,I.ok.inj,I.ok.has,I.ok.rZ,I.ok.hd,I.ok.frames,I.ok.xU,I.ok.D9,I.ok.bs,I.ok.lU,I.ok.jP,I.ok.ku,I.ok.eL,I.ok.pk⟩,I.os,I.bare,I.base,I.loc,I.cell,I.free,I.dv,fun p hp=>I.pin p (by rw [Zsz] at hp;exact hp),I.aF,I.len⟩
noncomputable def L1 (X:Cx) (Ex:St->XK):Prop:=∀ (pins:List (Addr × Obj)) (σ:St) (H:Hp) (s:Shared) (e C:Addr),Inv X pins σ H s->Gn X pins H e C s->Ex σ (.ref e) (some C) H->X.xe (.ref e) s
theorem B9.toS {E:XK} (h:B9 X E):L1 X fun _=>E:=fun pins σ H s e C I fl q=>h pins σ H s e C I fl q
end
section
variable {X:Cx}{x:Str}{np pos:Pos}{Dc:Addr}{b₀:Stmt}{body:List Stmt}{rest:List ExceptHandler}{hd:Addr->Addr->TS}{ts:TS}
end
section
variable {X:Cx}{k:Nat}{f C:Addr}{fd:FuncData}{ps:List Str}{sp:Sp}{ij:List V}{ds:List Value}{Ex:St->XK}{x m:Str}{p pos apos:Pos}{e o:Expr}{es:List Expr}{ta:TE}{t:TA}
end
noncomputable def excAt (a C:Addr):Heap->Prop:=fun h=>∃ o vs,h.get? a=some o/\o.cls=.ref C/\o.data=.fields vs/\o.dict=none
noncomputable def xo (a C:Addr):HO:=.ext (excAt a C)
section
variable {X:Cx}{pins:List (Addr × Obj)}{σ:St}{H:Hp}{s:Shared}{e C T:Addr}
theorem Inv.seen {oe:Obj} (I:Inv X pins σ H s) (fe:pQ X pins H e) (ho:s.heap.get? e=some oe) (hc:oe.cls=.ref C) {vs:Array Value} (hf:oe.data=.fields vs) (pV:oe.dict=none):Inv X pins σ (upd H e (xo e C)) s:=by
 have ne:∀ {b u},H b=some u->b≠e:=fun {b u} h z=>by rw [z,fe.1] at h;cases h
 have up:∀ {b u},H b=some u->upd H e (xo e C) b=some u:=fun {b u} h=>(aQ (ne h)).trans h
 refine ⟨I.ok,I.os,I.bare,⟨I.base.keep,I.base.slot,fun b o e1 n hx=>?_,I.base.there,fun b xs h=>up (I.base.hJ b xs h),fun b o u h=>up (I.base.gD b o u h),fun b ps h=>?_⟩,I.loc,I.cell,(aQ (Ne.symm fe.2.1)).trans I.free,fun x c h=>(aQ (fe.2.2.2.2.1 x c h)).trans (I.dv x c h),fun p hp=>?_,fun b u h=>?_,I.len⟩
 ·refine (aQ fun z=>?_).trans (I.base.free b o e1 n hx)
  rcases fe.2.2.2.1 with y | y
  ·exact hx (z ▸ y)
  ·rw [z,y] at e1;cases e1
 ·obtain ⟨more,q⟩:=I.base.ie b ps h
  exact ⟨more,up q⟩
 ·obtain ⟨a1,a2,a3⟩:=I.pin p hp
  exact ⟨a1,(aQ (fe.2.2.2.2.2 p hp)).trans a2,a3⟩
 ·by_cases hb:b=e
  ·rw [hb,cz] at h
   cases h
   rw [hb]
   exact ⟨⟨oe,vs,ho,hc,hf,pV⟩,⟨oe,ho⟩,fun h1 h2 ⟨o,vs,p1,p2⟩ k=>⟨o,vs,k o p1,p2⟩⟩
  ·rw [aQ hb] at h
   exact (I.aF b u h).jU (fun c v _ q=>q) (fun c q=>up q) fun c xs q=>up q
end
noncomputable def rA (K:Zrk) (C:Addr):Bool :=
 (PySem.W.clsIn K C).isSome && Zrl K (.ref C) "__getattribute__" == some (some (.builtin "BaseException.__getattribute__")) && Zrl K (.ref C) "__getattr__" == some none
 && Zrl K (.ref C) "__class__" == some (some (.builtin "object.__class__")) && ZrH K (.builtin "object.__class__") "__get__" == some (some (.builtin "getset_descriptor.__get__"))
 && PySem.W.takesIn K (.builtin "object.__class__") == some true && ZrI K C (.type "object") == some true && ZrI K C (.type "BaseException") == some true
section
open PySem.W PySem.Calls
variable {prog:Program}{w:World}{A:Around}{E:Value->Shared->Prop}{s:Shared}{K:Frag}{a C:Addr}
end
structure rP (k:Nat) (A:Around):Prop where
 dp:A.depth+3 * k+5<recursionLimit
 un:A.units+16 * k+200<cLine
theorem bG.m {k:Nat}{A:Around} (r:bG k A):rP k A:=⟨r.dp,r.un⟩
structure Pk (P:Program) (w:World) (K:Zrk) (mg:Str->Option Value) (base:Heap) (CX:lp) (k:Nat) (f:Addr) (fd:FuncData) (ps:List Str) (sp:Sp):Prop where
 len:∀ vs H Q E,sp vs H Q E->vs.length=ps.length
 run:∀ (A:Around) (outer:List Env) (s:Shared) (H:Hp) (args:Args) (us:List Value) (vs:List V) (Q:VK) (E:XK),rP k A->ja P w K mg base A outer s H->BindsTo s fd args (ps.zip us)->Vals vs us->sp vs H Q E ->
  codeAny (model P w) A (.call (.ref f) args) (CR CX outer P w H s Q E) s
section
variable {X:Cx}{CX:lp}{k:Nat}{f C:Addr}{fd:FuncData}{ps:List Str}{sp:Sp}{ij:List V}{ds:List Value}{E:XK}{x m:Str}{p pos apos:Pos}{e o:Expr}{es:List Expr}{ta:TE}{t:TA}
end
theorem DR {P:Program}{w:World}{K:Zrk}{mg:Str->Option Value}{base:Heap}{N:List Str}{qual:Str}{scope:Scope}{f:Addr}{bS:Value}{A:Around}{outer:List Env}{s:Shared}{H:Hp}{E:XK} :
  PassesOwn (model (kT (gZ P w) P w K mg base N qual scope f bS A outer s H E).prog (kT (gZ P w) P w K mg base N qual scope f bS A outer s H E).w) (kT (gZ P w) P w K mg base N qual scope f bS A outer s H E).A (kT (gZ P w) P w K mg base N qual scope f bS A outer s H E).env (kT (gZ P w) P w K mg base N qual scope f bS A outer s H E).xe:=fun _ _ h=>wpAny_leaving_again (SameStack.refl _) h
section
variable {X:Cx}{k:Nat}{f C:Addr}{fd:FuncData}{ps:List Str}{sp:Sp}{ij:List V}{ds:List Value}{Ex:St->XK}{x:Str}{p pos:Pos}{e:Expr}{es:List Expr}{t:TA}
end
structure FT (K:Zrk) (mg:Str->Option Value) (x:Str) (st:Stmt) (ps:List Str) (f:Addr) (d:FuncData):Prop where
 m:mg x=some (.ref f)
 n:kF K x x st f d
 b:oi K d ps []
structure FM (K:Zrk) (c:Addr) (x q:Str) (st:Stmt) (ps:List Str) (f:Addr) (d:FuncData):Prop where
 n:kF K x q st f d
 b:oi K d ps []
 e:Meth K c x f
noncomputable def FP (K:Zrk) (x:Str) (st:Stmt) (f:Addr):Prop:=∃ d,Zrm K mainGlobals x=some (some (.ref f))/\kF K x x st f d
noncomputable def FQ (K:Zrk) (c:Addr) (x q:Str) (st:Stmt) (f:Addr):Prop:=∃ d,kF K x q st f d/\Meth K c x f
structure CP (K:Zrk) (x:Str) (c:Addr):Prop where
 a:Zrm K mainGlobals x=some (some (.ref c))
 pg:Zrx K c Str.empty=true
 hd:ZrA K c=true
 po:ZrE K c=true
 sa:Zrl K (.ref c) "__setattr__" = some (some (.builtin "object.__setattr__"))
 mk':ZrG K c=true
 kc:Zrv K (.ref c)=true
section
variable {P:Program}{w:World}{K:Zrk}{mg:Str->Option Value}{base h:Heap}{x q:Str}{st:Stmt}{ps N:List Str}{f c:Addr}{d:FuncData}{k:Nat}{sp:Sp}
theorem CP.cl (p:CP K x c):mR K c:=⟨p.pg,p.hd,p.po,p.sa⟩
theorem FP.mk' {oc:Value}{od an:Option Addr}{lV:Array (Option Value)}{kV doc pm bS ct:Value} (a:Zrm K mainGlobals x=some (some (.ref f)))
  (l:K.lookup f=some ⟨oc,od,.func (Zro x x (nV st) (kL st) (bx st) .none kV doc pm an bS ct),lV⟩)
  (c:Zry K bS x=true) (k:Zrv K (.ref f)=true):FP K x st f:=⟨_,a,Od l c k⟩
theorem FQ.mk' {oc:Value}{od an:Option Addr}{lV:Array (Option Value)}{kV doc pm bS ct:Value} (a:Zrl K (.ref c) x=some (some (.ref f))) (i:ZrB K (.ref f)=true)
  (l:K.lookup f=some ⟨oc,od,.func (Zro x q (nV st) (kL st) (bx st) .none kV doc pm an bS ct),lV⟩)
  (e:Zry K bS q=true) (k:Zrv K (.ref f)=true):FQ K c x q st f:=⟨_,Od l e k,⟨a,i,k⟩⟩
theorem FP.ft (p:FP K x st f) (X:K.In h) (G:h.Ns mainGlobals mg)
  (B:∀ (kV doc pm:Value) (an:Option Addr) (bS ct:Value) (us:List Value),us.length=ps.length->bindArgs (Zro x x (nV st) (kL st) (bx st) .none kV doc pm an bS ct) ⟨us,[]⟩=pure (ps.zip us)):FT K mg x st ps f p.choose :=
 ⟨Zrn X G p.choose_spec.1,p.choose_spec.2,p.choose_spec.2.binds B⟩
theorem FQ.fm (p:FQ K c x q st f)
  (B:∀ (kV doc pm:Value) (an:Option Addr) (bS ct:Value) (us:List Value),us.length=ps.length->bindArgs (Zro x q (nV st) (kL st) (bx st) .none kV doc pm an bS ct) ⟨us,[]⟩=pure (ps.zip us)):FM K c x q st ps f p.choose :=
 ⟨p.choose_spec.1,p.choose_spec.1.binds B,p.choose_spec.2⟩
theorem CP.SI (p:CP K x c) {y:Str} (r:FQ K c "__init__" y st f):Mk K c f:=⟨p.mk',r.choose_spec.2.at_,r.choose_spec.2.fn,p.kc⟩
theorem kF.uD {p:Str} (F:kF K x q st f d) (B:∀ (kV doc pm:Value) (an:Option Addr) (bS ct u:Value),bindArgs (Zro x q (nV st) (kL st) (bx st) .none kV doc pm an bS ct) ⟨[u],[]⟩=pure [(p,u)]) (s:Shared) (v:Value):BindsTo s d ⟨[v],[]⟩ [(p,v)]:=by
 obtain ⟨oc,od,kV,doc,pm,an,bS,ct,lV,rfl,lk,mh⟩:=F.ex
 exact .of_eq (B kV doc pm an bS ct v)
end
noncomputable abbrev TM (P:Program) (w:World) (K:Zrk) (mg:Str->Option Value) (base:Heap) (k:Nat) (q:Str) (st:Stmt) (N:List Str) (f:Addr) (R:TS):Prop :=
 ∀ {bS:Value}{A:Around}{outer:List Env}{s:Shared}{H:Hp}{E:XK},bG k (A.deeper (envOfC q (bx st) s.heap.objs.size f bS))->jl (kT dQ P w K mg base N q (bx st) f bS A outer s H E).qh (kL st) R
noncomputable abbrev TX (P:Program) (w:World) (K:Zrk) (mg:Str->Option Value) (base:Heap) (k:Nat) (q:Str) (st:Stmt) (N:List Str) (f:Addr) (R:XK->TS):Prop :=
 ∀ {bS:Value}{A:Around}{outer:List Env}{s:Shared}{H:Hp}{E:XK},bG k (A.deeper (envOfC q (bx st) s.heap.objs.size f bS))->jl (kT (gZ P w) P w K mg base N q (bx st) f bS A outer s H E) (kL st) (R E)
section
variable {P:Program}{w:World}{K:Zrk}{mg:Str->Option Value}{base h:Heap}{x q:Str}{st:Stmt}{ps N:List Str}{f c:Addr}{d:FuncData}{k:Nat}{sp:Sp}
theorem kF.fg {R:TS} (F:kF K x q st f d) (S:aj N ps (bx st)) (tm:TM P w K mg base k q st N f R) (len:∀ vs H Q E,sp vs H Q E->vs.length=ps.length)
  (hb:∀ H vs Q E,sp vs H Q E->R { nx:=fun _ H'=>Q .non H',rt:=Q } (start N vs) H):aK P w K mg base dQ (k+1) f d ps sp :=
 F.ok S len fun _ _ _ _ H vs Q E hr h=>⟨R,tm hr,hb H vs Q E h⟩
theorem kF.jg {R:XK->TS} (F:kF K x q st f d) (S:aj N ps (bx st)) (tm:TX P w K mg base k q st N f R) (len:∀ vs H Q E,sp vs H Q E->vs.length=ps.length)
  (hb:∀ H vs Q E,sp vs H Q E->R E { nx:=fun _ H'=>Q .non H',rt:=Q } (start N vs) H):aK P w K mg base (gZ P w) (k+1) f d ps sp :=
 F.okX S len fun _ _ _ _ H vs Q E hr h=>⟨R E,tm hr,hb H vs Q E h⟩
end
section
variable {X:Cx}{CX:lp}{k:Nat}{f C:Addr}{fd:FuncData}{ps:List Str}{sp:Sp}{x:Str}{st:Stmt}{E:XK}{e o:Expr}{es:List Expr}{t:TA}{p pos apos:Pos}{ta:TE}
theorem hm {j k:Nat}{A:Around} (hr:bG k A) (h:j<=k:=by decide):bG j A:=hr.mono h
theorem dg (T:FT X.K X.mg x st ps f fd) (F:aK X.prog X.w X.K X.mg X.base CX k f fd ps sp) (hr:bG k X.A) (hx:pM CX X E)
  (ha:PA X (e :: es) t) (hg:Gl X x:=by rfl) (oR:(x == ("__debug__" : Str))=false:=by decide) (he:starEach (e :: es) X.env=(false,eval e X.env) :: starEach es X.env:=by rfl) (kd:(backTo pos (starEach es X.env)).any (·.1)=false:=by rfl) :
  PE X (.Call (.Name x p) (e :: es) [] pos) (cP sp [] E t):=MX F hr hg T.m T.n.kp T.b .nil hx ha oR he kd
end
end L2
set_option maxHeartbeats 4000000
namespace DT
open PySem
section
variable {prog:Program}{w:World}{A:Around}{E:Value->Shared->Prop}{s:Shared}{d it:Addr}{od:Obj}{es:Array DictEntry}{ep i:Nat}
end
end DT
namespace L2
open PySem PySem.Spec PyProof.Rows
section
variable {X:Cx}{pins:List (Addr × Obj)}{σ:St}{H:Hp}{s:Shared}{d:Addr}{kvs:List (List Key × V)}{o:Obj}
theorem Inv.dT (I:Inv X pins σ H s) (e:Rd H d (.dT kvs)):kvs.length<=sizeLine/\(d == sysModules)=false/\∃ (xs:List (List Key × Addr × Value)) (od:Obj) (es:Array DictEntry) (ep:Nat),KT H kvs xs/\s.heap.get? d=some od/\od.ExactDict/\od.data=.dict es ep/\es.size=kvs.length /\
  ∀ (i:Nat) p,kvs[i]? = some p->∃ (b:Addr) (h:Int) (v:Value),es[i]? = some ⟨h,.ref b,v⟩/\H b=some (.tup (p.1.map kV)):=by
 obtain ⟨z,y,xs,r,od,es,ep,h1,h2,h3,h4,h5⟩:=(show fz X.prog X.w H s.heap d (.dT kvs) from MM I.aF e)
 have hl:kvs.length=xs.length:=Paired.length r
 have hs:es.size=kvs.length:=by rw [hl,<- ZtU,h4,ZrX]
 refine ⟨z,y,xs,od,es,ep,r,h1,h2,h3,hs,fun i p hp=>?_⟩
 have at_:∀ {l:List (List Key × V)}{m:List (List Key × Addr × Value)}{j:Nat}{q:List Key × V},KT H l m->l[j]? = some q->∃ x,m[j]? = some x/\H x.2.1=some (.tup (q.1.map kV)):=by
  intro l m j q t
  induction t generalizing j with
  | nil=>intro z;simp at z
  | @cons a b as bs hq _ ih =>
   intro z
   cases j with
   | zero =>
    have:a=q:=by simpa using z
    subst this
    exact ⟨b,rfl,hq.2.1⟩
   | succ j=>exact ih (by simpa using z)
 obtain ⟨x,hx,hH⟩:=at_ r hp
 have:es[i]? = some (entryOfKey (tupleKind (iP X.prog X.w)) x):=by rw [<- ZtT,h4,Zsa,hx];rfl
 exact ⟨x.2.1,_,_,this,hH⟩
end
section
variable {X:Cx}{pins:List (Addr × Obj)}{σ:St}{H:Hp}{s:Shared}
theorem nE.fl {b:Addr} (h:nE X pins H b):pQ X pins H b:=⟨h.1,h.2.1,h.2.2.1,h.2.2.2.1.imp id fun z=>by
 cases e:X.s₀.heap.get? b with
 | none=>rfl
 | some o=>exact absurd (Heap.lt_size e) (Nat.not_lt.mpr z),h.2.2.2.2.1,h.2.2.2.2.2⟩
end
noncomputable def qp (hi:Int) (n:Nat):It:=⟨fun i _=>i<n,fun i H x H'=>H'=H/\x=.int (hi - i),fun i _=>n<=i⟩
theorem ZmJ {P:Program}{w:World}{K:Zrk}{tg:Expr} (it:Addr) (hi:Int) (n:Nat):Turn P w K tg (qp hi n) [it] it (fun i h=>IsRangeIter h it (hi+(i:Nat) * (-1)) ((n:Int) - (i:Nat)) (-1)) where
 mem:=by simp
 obj:=fun i h st b hb=>by
  have e:b=it:=by simpa using hb
  subst e
  exact ⟨_,st,fun v z=>by
   have z':Data.fields _=Data.cell v:=z
   cases z'⟩
 keep:=fun i h h' st k=>k it (by simp) _ st
 item:=by
  intro X hP hw hK hc i pins s σ H E I hf st hg
  subst hP hw hK
  obtain ⟨f0,f1,f2,f3,f4,f5⟩:=hf it (by simp)
  have W:=Walks.range (prog:=X.prog) (w:=X.w) (I.ok.hd hc) it hi (-1) n
  refine W.item i s _ _ hg st fun v h' tk hv ao kk=>?_
  obtain ⟨t,rfl⟩:=hv
  have I1:Inv X pins σ H { s with heap:=h',toks:=tk }:=I.turned (fun b o hb e=>kk b o (by simpa using hb) e) f0 f1 f3 f4 f5
  refine ⟨_,rfl,Gu (s:={ s with heap:=h',toks:=tk }) (n:="range_iterator") ao rfl rfl (by decide) ⟨.int (hi - i),H,I1,⟨t,?_⟩,⟨rfl,rfl⟩,ao,fun b hb=>(hf b hb).1⟩⟩
  congr 1
  omega
 done:=by
  intro X hP hw hK hc i pins s σ H E I hf st hg
  subst hP hw hK
  obtain ⟨f0,f1,f2,f3,f4,f5⟩:=hf it (by simp)
  exact wpAny_pyNext_range_end (I.ok.hd hc) st (by have:n<=i:=hg;omega) fun h' eb=>⟨rfl,I.turned (t':=s.toks) (fun b o hb e=>eb b o hb e) f0 f1 f3 f4 f5⟩
 self:=fun _ _ _ _ _ st h=>wpAny_pyIter_rangeiter st h
theorem CQ {a:Int} (h1 : -(2 ^ 63)<=a) (h2:a<2 ^ 63):Builtin.Range.rangeFitsLong a=true:=by
 unfold Builtin.Range.rangeFitsLong
 simp
 omega
theorem Zf {a b:Int} (h1 : -(2 ^ 62)<=a) (h2:a<2 ^ 62) (h3 : -(2 ^ 62)<=b) (h4:b<2 ^ 62):Builtin.Range.small a b (-1)=true:=by
 unfold Builtin.Range.small
 rw [ZrO,CQ (by omega) (by omega),CQ (by omega) (by omega),CQ (by decide) (by decide),CQ (a:=((a - b).toNat:Int)) (by omega) (by omega),if_neg (by decide),CQ (a:=b+(-1+1)) (by omega) (by omega)]
 simp
section
variable {X:Cx}{tg:Expr}
noncomputable def GD (ta:TA):TI:=fun σ H R=>ta σ H fun vs H1=>∃ i j:Int,vs=[.int i,.int j,.int (-1)]/\(-(2 ^ 62)<=i/\i<2 ^ 62 /\ -(2 ^ 62)<=j/\j<2 ^ 62)/\R (qp i (i - j).toNat) H1
theorem R9 {a b c:Expr}{ta:TA}{p pos:Pos} (hg:Gl X "range") (hm:X.mg "range" = none) (ha:PA X [a,b,c] ta) (hs:starEach [a,b,c] X.env=[(false,eval a X.env),(false,eval b X.env),(false,eval c X.env)]:=by rfl) (sC:starEach [b,c] X.env=[(false,eval b X.env),(false,eval c X.env)]:=by rfl) :
  PI X tg (.Call (.Name "range" p) [a,b,c] [] pos) (GD ta):=by
 intro pins s σ H R I h
 refine Call_ (vQ I hg hm boot_range (PyProof.Rows.callWith_type1 (aS (ha pos pins s σ H _ I h) fun us s1 ⟨vs,H1,I1,r1,q1⟩=>?_) (by rw [hs,sC]) (by rw [sC];rfl)))
 obtain ⟨lo,hi,e,⟨q1,q2,q3,q4⟩,q⟩:=q1
 subst e
 cases r1 with
 | cons r rr =>
 cases rr with
 | cons r' rr =>
 cases rr with
 | cons r'' rr =>
 cases rr
 obtain ⟨t,rfl⟩:=r
 obtain ⟨u,rfl⟩:=r'
 obtain ⟨v,rfl⟩:=r''
 refine call_range_3 (by decide) ?_ (.inl (by unfold Builtin.divisionGoesByPylong;simp;intro z;exact absurd z (by decide)))
 refine wpAny_pyIter_range (IsRange.new ..) (Zf q1 q2 q3 q4) ?_
 have I2:Inv X pins σ H1 { s1 with heap:=s1.heap.push { cls:=.type "range",data:=.fields #[.int lo t,.int hi u,.int (-1) v] },toks:=s1.toks }:=I1.kept fun b o e=>Heap.get?_push_of_some _ e
 refine ⟨(s1.heap.push { cls:=.type "range",data:=.fields #[.int lo t,.int hi u,.int (-1) v] }).objs.size,[(s1.heap.push { cls:=.type "range",data:=.fields #[.int lo t,.int hi u,.int (-1) v] }).objs.size],_,_,H1,rfl,
  I2.kept (t':=s1.toks) fun b o e=>Heap.get?_push_of_some _ e,ZmJ _ lo (lo - hi).toNat,?_,fun b hb=>?_,q⟩
 ·show IsRangeIter _ _ (lo+((0:Nat):Int) * (-1)) ((((lo - hi).toNat:Nat):Int) - ((0:Nat):Int)) (-1)
  rw [ZrO,show lo+((0:Nat):Int) * (-1)=lo by omega,show ((((lo - hi).toNat:Nat):Int) - ((0:Nat):Int))=((lo - hi).toNat:Int) by omega]
  exact Heap.get?_push_size _ rfl
 ·have e:b=(s1.heap.push { cls:=.type "range",data:=.fields #[.int lo t,.int hi u,.int (-1) v] }).objs.size:=by simpa using hb
  subst e
  exact I2.qO (Zts _) (I2.aF.fresh (Zts _))
end
end L2
set_option maxHeartbeats 4000000
namespace RR
open PySem
section
variable {prog:Program}{w:World}{A:Around}{E:Value->Shared->Prop}{s:Shared}
end
end RR
namespace L2
open PySem PySem.Spec PyProof.Rows
section
variable {X:Cx}{tg:Expr}
end
section
variable {K:Zrk}{ta:TA}{g:TG}{tb:TS}{D:Ends}{σ:St}{H:Hp}
theorem ZF:eD (GD ta) g tb D σ H=ta σ H (fun vs H1=>∃ i j:Int,vs=[.int i,.int j,.int (-1)]/\(-(2 ^ 62)<=i/\i<2 ^ 62 /\ -(2 ^ 62)<=j/\j<2 ^ 62)/\pF (qp i (i - j).toNat) g tb D σ H1):=rfl
theorem Qn {hi:Int}{n:Nat} (Pv:Nat->St->Hp->Prop) (h0:Pv 0 σ H) (hs:∀ (i:Nat) σ H,i<n->Pv i σ H->g (.int (hi - i)) σ H fun σ2 H2=>tb { D with nx:=Pv (i+1),ct:=Pv (i+1),bk:=D.nx } σ2 H2) (hd:∀ σ H,Pv n σ H->D.nx σ H):pF (qp hi n) g tb D σ H:=by
 refine ⟨fun i m σ H=>i+m=n/\Pv i σ H,⟨n,by omega,h0⟩,fun i m σ H ⟨hm,hp⟩=>?_⟩
 by_cases hi':i<n
 ·refine .inr ⟨hi',Pv (i+1),fun σ' H' h=>⟨m - 1,by omega,by omega,h⟩,fun x H' ⟨e1,e2⟩=>?_⟩
  subst e1 e2
  exact hs i σ _ hi' hp
 ·have:i=n:=by omega
  subst this
  exact .inl ⟨Zts _,hd σ H hp⟩
end
noncomputable def G9:R2:=fun x y H Q=>match x,y with
 | .ref l,.int k=>∃ xs,H l=some (.lst xs) /\ -(2 ^ 63)<=k/\k<2 ^ 63/\xs.length * k.toNat<=sizeLine/\∀ p H',gk H p (.lst (ZrZ k.toNat xs).flatten) H'->Q (.ref p) H'
 | _,_=>False
theorem SY {X:Cx}:cy X (binaryOp .Mult) G9:=yG.imp fun x y H Q h=>by
  cases x <;> cases y <;> first
    | exact False.elim h
    | (obtain ⟨xs,h1,h2,h3,h4,q⟩:=h
       exact ⟨_,_,xs,rfl,rfl,h1,h2,h3,h4,fun p hp=>q p _ ⟨hp,rfl⟩⟩)
theorem O8 (v:V) (n:Nat):(ZrZ n [v]).flatten=ZrZ n v:=by
 induction n with
 | zero=>rfl
 | succ n ih=>rw [ZsC,Zs0,ih,ZsC];rfl
end L2
set_option maxHeartbeats 4000000
namespace RV
open PySem
section
variable {prog:Program}{w:World}{A:Around}{E:Value->Shared->Prop}{s:Shared}
end
end RV
namespace L2
open PySem PySem.Spec PyProof.Rows
end L2
set_option maxHeartbeats 4000000
namespace L2
open PySem PySem.Spec PyProof.Rows PySem.W
end L2
set_option maxRecDepth 20000
namespace L2
open PySem PySem.Spec PyProof.Rows
variable {X:Cx}
theorem Z4 {pins:List (Addr × Obj)}{σ:St}{H:Hp}{s:Shared}{A:Around}{p q:Addr}{x y:MF.Pr} (I:Inv X pins σ H s) (hu:A.units+2<cLine)
  (h1:H p=some (.tup [.int x.1,.int x.2])) (h2:H q=some (.tup [.int y.1,.int y.2])):SeqAt.EqAt A s (.ref p) (.ref q) (decide (x=y)):=by
 obtain ⟨x1,x2⟩:=x
 obtain ⟨y1,y2⟩:=y
 by_cases e:p=q
 ·subst e
  rw [h1] at h2
  have:(x1,x2)=(y1,y2):=by
   have:=Option.some.inj h2
   simp only [HO.tup.injEq,List.cons.injEq,V.int.injEq,and_true] at this
   rw [this.1,this.2]
  rw [decide_eq_true this]
  exact SeqAt.EqAt.same _
 ·obtain ⟨its,r1,p1,_⟩:=I.tuple (show dR X.K H p [.int x1,.int x2] from .of h1)
  obtain ⟨its2,r2,p2,_⟩:=I.tuple (show dR X.K H q [.int y1,.int y2] from .of h2)
  have l1:its.toArray.size=2:=by rw [Zr9];exact r1.length.symm
  have l2:its2.toArray.size=2:=by rw [Zr9];exact r2.length.symm
  have z:decide ((x1,x2)=(y1,y2))=((Zr6 (min its.toArray.size its2.toArray.size)).all (fun i=>jh (([.int x1,.int x2]:List V).getD i .non) (([.int y1,.int y2]:List V).getD i .non)) && its.toArray.size == its2.toArray.size):=by
   rw [l1,l2]
   by_cases a:x1=y1 <;> by_cases b:x2=y2 <;> simp [a,b,jh,Zr6,Zr6.loop]
  rw [z]
  exact SeqAt.EqAt.of_refs e (SeqAt.RcAt.tuples p1 p2 (by omega) (tY r1 r2 rfl rfl _ _))
noncomputable def nU (H:Hp) (q:MF.Pr) (v:Value):Bool:=match v with
 | .ref a=>match H a with
  | some (.tup [.int i,.int j])=>decide ((i,j)=q)
  | _=>false
 | _=>false
theorem MB {H:Hp}{q:MF.Pr}{e:En} (h:H e.1=some (.tup [.int e.2.1,.int e.2.2])):nU H q (.ref e.1)=decide (e.2=q):=by
 unfold nU
 simp only [h]
structure PL (H:Hp) (p:Addr) (es:List En):Prop where
 lst:H p=some (.lst (es.map fun e=>V.ref e.1))
 tup:∀ e∈es,H e.1=some (.tup [.int e.2.1,.int e.2.2])
theorem PL.same {H H':Hp}{p:Addr}{es:List En} (h:PL H p es) (s:aP H H'):PL H' p es:=⟨s _ _ h.lst,fun e he=>s _ _ (h.tup e he)⟩
theorem PL.put {H:Hp}{p tp:Addr}{es:List En}{q:MF.Pr} (h:PL H p es) (ht:H tp=some (.tup [.int q.1,.int q.2])):PL (upd H p (.lst ((es.map fun e=>V.ref e.1) ++ [.ref tp]))) p (es ++ [(tp,q)]):=by
 have nt:∀ {b:Addr}{ys:List V},H b=some (.tup ys)->b≠p:=fun e=>cZ e h.lst (fun z=>nomatch z)
 refine ⟨by rw [cz,Zr4];rfl,fun e he=>?_⟩
 rcases Zr3.mp he with he | he
 ·rw [aQ (nt (h.tup e he))];exact h.tup e he
 ·rw [Zr2] at he
  subst he
  rw [aQ (nt ht)];exact ht
theorem Sq:∀ {es:List En}{its:List Value},Vals (es.map fun e=>V.ref e.1) its->its=es.map fun e=>Value.ref e.1
 | [],_,.nil=>rfl
 | e :: r,_,.cons h t=>by
  cases h
  rw [Sq t]
  rfl
theorem SH {H:Hp}{q:MF.Pr}:∀ {es:List En},(∀ e∈es,H e.1=some (.tup [.int e.2.1,.int e.2.2]))->((es.map fun e=>Value.ref e.1).any (nU H q))=decide (q∈ar es)
 | [],_=>by simp
 | e :: r,h=>by
  rw [Zsg,ZsN,SH fun e' he=>h e' (Zso _ he),MB (h e (Zsl ..))]
  by_cases a:e.2=q
  ·rw [decide_eq_true a,Bool.true_or,decide_eq_true]
   exact a ▸ Zsl ..
  ·rw [decide_eq_false a,Zt9,decide_eq_decide]
   show _ ↔ q∈e.2 :: ar r
   rw [Zr7]
   exact ⟨.inr,fun z=>z.resolve_left fun w=>a w.symm⟩
end L2
set_option maxRecDepth 20000
namespace L2
open PySem PySem.Spec PyProof.Rows
variable {X:Cx}
structure PN (H:Hp) (p:Addr) (n:Nat) (es:List En):Prop where
 lst:H p=some (.lst (ZrZ n V.non ++ es.map fun e=>V.ref e.1))
 tup:∀ e∈es,H e.1=some (.tup [.int e.2.1,.int e.2.2])
theorem PN.same {H H':Hp}{p:Addr}{n:Nat}{es:List En} (h:PN H p n es) (s:aP H H'):PN H' p n es:=⟨s _ _ h.lst,fun e he=>s _ _ (h.tup e he)⟩
theorem PN.un {H H':Hp}{p pl kl:Addr}{n:Nat}{es:List En}{xs:List V}{kv:List (List Key × V)} (h:PN H p n es) (hp:H pl=some (.lst xs)) (hk:H kl=some (.dT kv)) (ne:p≠pl) (u:kj pl kl H H'):PN H' p n es :=
 ⟨u _ _ ne (cZ h.lst hk (fun z=>nomatch z)) h.lst,fun e he=>u _ _ (cZ (h.tup e he) hp (fun z=>nomatch z)) (cZ (h.tup e he) hk (fun z=>nomatch z)) (h.tup e he)⟩
theorem PN.put {H:Hp}{p tp:Addr}{n:Nat}{es:List En}{q:MF.Pr} (h:PN H p n es) (ht:H tp=some (.tup [.int q.1,.int q.2])):PN (upd H p (.lst ((ZrZ n V.non ++ es.map fun e=>V.ref e.1) ++ [.ref tp]))) p n (es ++ [(tp,q)]):=by
 have nt:∀ {b:Addr}{ys:List V},H b=some (.tup ys)->b≠p:=fun e=>cZ e h.lst (fun z=>nomatch z)
 refine ⟨by rw [cz,Zr4,Zsh];rfl,fun e he=>?_⟩
 rcases Zr3.mp he with he | he
 ·rw [aQ (nt (h.tup e he))];exact h.tup e he
 ·rw [Zr2] at he
  subst he
  rw [aQ (nt ht)];exact ht
theorem JO:∀ {n:Nat}{es:List En}{its:List Value},Vals (ZrZ n V.non ++ es.map fun e=>V.ref e.1) its->its=ZrZ n Value.none ++ es.map fun e=>Value.ref e.1
 | 0,_,_,h=>Sq h
 | n+1,es,_,.cons h t=>by
  cases h
  rw [JO t]
  rfl
theorem Jk {H:Hp}{q:MF.Pr}:nU H q .none=false:=rfl
theorem UW {H:Hp}{q:MF.Pr}{n:Nat}{es:List En} (h:∀ e∈es,H e.1=some (.tup [.int e.2.1,.int e.2.2])):((ZrZ n Value.none ++ es.map fun e=>Value.ref e.1).any (nU H q))=decide (q∈ar es):=by
 rw [List.any_append,SH h]
 have:(ZrZ n Value.none).any (nU H q)=false:=by
  rw [List.any_eq_false]
  intro x hx
  rw [(List.mem_replicate.mp hx).2,Jk]
  simp
 rw [this,Zt9]
theorem Nn {pins:List (Addr × Obj)}{σ:St}{H:Hp}{s:Shared}{A:Around}{t:Addr}{q:MF.Pr}{n:Nat}{es:List En} (I:Inv X pins σ H s) (hu:A.units+2<cLine) (ht:H t=some (.tup [.int q.1,.int q.2]))
  (h:∀ e∈es,H e.1=some (.tup [.int e.2.1,.int e.2.2])):∀ y,y∈(ZrZ n Value.none ++ es.map fun e=>Value.ref e.1).toArray->SeqAt.EqAt A s y (.ref t) (nU H q y):=by
 intro y hy
 have hy':y∈ZrZ n Value.none ++ es.map fun e=>Value.ref e.1:=by simpa using hy
 rcases Zr3.mp hy' with hy' | hy'
 ·rw [(List.mem_replicate.mp hy').2,Jk]
  obtain ⟨its,r1,p1,_⟩:=I.tuple (show dR X.K H t _ from .of ht)
  exact SeqAt.EqAt.none_tuple p1 (by omega)
 ·obtain ⟨e,he,rfl⟩:=Zr8.mp hy'
  rw [MB (h e he)]
  exact Z4 I hu (h e he) ht
noncomputable def tN (_:Zrk) (neg:Bool):R2:=fun x y H Q=>match x,y with
 | .ref t,.ref p=>∃ (n:Nat) (es:List En) (q:MF.Pr),H t=some (.tup [.int q.1,.int q.2])/\PN H p n es/\Q (.bl (if neg then !decide (q∈ar es) else decide (q∈ar es))) H
 | _,_=>False
theorem Wx (hu:X.A.units+8<cLine):cy X (compareOp .NotIn) (tN X.K true):=by
 intro pins s σ H x y v u Q I rx ry h
 have hu':X.A.in1.units+2<cLine:=by have e:X.A.in1.units=X.A.units+1:=rfl;omega
 match x,y,h with
 | .ref t,.ref p,⟨n,es,q,h1,h2,k⟩ =>
  cases rx;cases ry
  obtain ⟨its,r,pl,hz⟩:=I.list (show bY X.K H p _ from .of h2.lst)
  have e:=JO r
  subst e
  refine SeqAt.notIn_listAt (nU H q) pl.isList (Nn I hu' h1 h2.tup) ⟨.bl _,H,I,rfl,?_⟩
  rw [show (ZrZ n Value.none ++ es.map fun e=>Value.ref e.1).toArray.any (nU H q)=(ZrZ n Value.none ++ es.map fun e=>Value.ref e.1).any (nU H q) from List.any_toArray ..,UW h2.tup]
  exact k
noncomputable def IG:V->List V->Hp->VK->Prop:=fun x vs H Q=>match x,vs with
 | .ref l,[.ref t]=>∃ (n:Nat) (es:List En) (q:MF.Pr) (j:Nat),PN H l n es/\H t=some (.tup [.int q.1,.int q.2])/\(ar es)[j]? = some q/\(∀ i,i<j->(ar es)[i]? ≠ some q)/\Q (.int (n+j:Nat)) H
 | _,_=>False
theorem ZM (hu:X.A.units+8<cLine):yZ X "list.index" IG:=by
 intro pins s σ H x vs v us Q I rx rv h
 have hu':X.A.in1.units+2<cLine:=by have e:X.A.in1.units=X.A.units+1:=rfl;omega
 match x,vs,h with
 | .ref l,[.ref t],⟨m,es,q,j,h1,h2,h3,h4,k⟩ =>
  cases rx
  obtain ⟨u,rfl,ru⟩:=pY rv
  cases ru
  obtain ⟨z,its,n,r,hl,e⟩:=I.mV h1.lst
  have e':=JO r
  subst e'
  have hj:j<es.length:=by
   rcases Ztt j es.length with w | w
   ·exact w
   ·rw [Zsu (by rw [ZrX];exact w)] at h3;cases h3
  have sz:(ZrZ m Value.none ++ es.map fun e=>Value.ref e.1).toArray.size=m+es.length:=by simp
  have at_:∀ i (hm:i<(ZrZ m Value.none ++ es.map fun e=>Value.ref e.1).toArray.size),nU H q (ZrZ m Value.none ++ es.map fun e=>Value.ref e.1).toArray[i]=decide (m<=i/\(ar es)[i - m]? = some q):=by
   intro i hm
   have hm':i<m+es.length:=by rw [sz] at hm;exact hm
   by_cases hi:i<m
   ·have e1:(ZrZ m Value.none ++ es.map fun e=>Value.ref e.1).toArray[i]=.none:=by
     rw [List.getElem_toArray,List.getElem_append_left (by rw [Zsb];exact hi),List.getElem_replicate]
    rw [e1,Jk,decide_eq_false (by omega)]
   ·have hi':i - m<es.length:=by omega
    have e1:(ZrZ m Value.none ++ es.map fun e=>Value.ref e.1).toArray[i]=.ref (es[i - m]).1:=by
     rw [List.getElem_toArray,List.getElem_append_right (by rw [Zsb];omega)]
     simp
    rw [e1,MB (h1.tup _ (ZsD hi')),decide_eq_decide,Zsa,ZrY hi']
    simp
    exact fun _=>by omega
  refine call_meets ZrV ⟨_,e,rfl⟩ PySem.F.entry_list_index (PySem.F.args_list_index_2 _ _)
   (SeqAt.list_indexAt l _ n none #[] (.ref t) (nU H q) (m+j) (by rw [sz];omega) ?_ ?_ ?_) ⟨e,Nn I hu' h2 h1.tup,⟨.int (m+j:Nat),H,I.tok _,⟨_,rfl⟩,k⟩⟩
  ·rw [Zr0,Zsb,ZrX] at z
   have:sizeLine<2 ^ 62:=by decide
   omega
  ·rw [at_];exact decide_eq_true ⟨by omega,by rw [show m+j - m=j by omega];exact h3⟩
  ·intro i hi aX
   rw [at_];exact decide_eq_false fun ⟨a,b⟩=>h4 (i - m) (by omega) b
end L2
set_option maxHeartbeats 4000000
namespace DT
open PySem
end DT
namespace L2
open PySem PySem.Spec PyProof.Rows
theorem HF {α β:Type}{F:α->β->Prop}:∀ {l:List α}{m:List β},Paired F l m->∀ {i:Nat}{q:β},m[i]? = some q->∃ p,l[i]? = some p/\F p q
 | _,_,.nil,i,q,h=>by simp at h
 | _,_,.cons h t,0,q,e=>by
  rw [Zs4] at e
  cases e
  exact ⟨_,rfl,h⟩
 | _,_,.cons h t,i+1,q,e=>by
  rw [ZsJ] at e
  obtain ⟨p,a,b⟩:=HF t e
  exact ⟨p,by rw [ZsJ];exact a,b⟩
noncomputable def yU (H:Hp) (kvs:List (List Key × V)) (bs:List Addr):Prop:=bs.length=kvs.length/\∀ (i:Nat) (p:List Key × V),kvs[i]? = some p->∃ b,bs[i]? = some b/\H b=some (.tup (p.1.map kV))
noncomputable def JN (_:Zrk):List V->Hp->VK->Prop:=fun vs H Q=>match vs with
 | [.ref p]=>∃ kvs,Rd H p (.dT kvs)/\∀ bs l H',yU H kvs bs->gk H l (.lst (bs.map V.ref)) H'->Q (.ref l) H'
 | _=>False
noncomputable def ID (_:Zrk):List V->Hp->VK->Prop:=fun vs H Q=>match vs with
 | [.ref p]=>∃ kvs,Rd H p (.dK kvs)/\∀ l H',gk H l (.lst (kvs.map fun kv=>kV kv.1)) H'->Q (.ref l) H'
 | _=>False
theorem Lz {P:Program}{w:World}{k:Key}{u:Value} (r:(iP P w).is k u=true):bu (kV k) u:=by
 rcases pZ r with ⟨i,t,rfl,rfl⟩ | ⟨x,t,rfl,rfl⟩
 ·exact ⟨t,rfl⟩
 ·exact ⟨t,rfl⟩
theorem Zq4 {X:Cx} (hc:X.calm=true):jO X (.type "list") (ID X.K):=by
 intro pins s σ H xs us Q I r h
 match xs,h with
 | [.ref p],h =>
  obtain ⟨kvs,e,q⟩:=h
  obtain ⟨u1,rfl,e1⟩:=pY r
  cases e1
  obtain ⟨z,y,vs,rel,dd⟩:=qI I.aF e
  obtain ⟨ep,jV⟩:=dd.dictAt
  have hlen:=rel.length
  refine PySem.W.kdl_call (PySem.W.kdl_dict (knd:=iP X.prog X.w) (kvs:=vs) (ep:=ep) y) (I.ok.hd hc) jV (by omega) fun h' tk acc c kp hl ⟨ha,hb⟩=>?_
  have key:∀ n,n<=kvs.length->Vals ((kvs.take n).map fun kv=>kV kv.1) (acc.toList.take n):=by
   intro n
   induction n with
   | zero=>intro _;rw [ZsK,ZsK];exact .nil
   | succ n ih =>
    intro hn
    have p7:n<acc.size:=by omega
    obtain ⟨k,x,hk,hv⟩:=hb n acc[n] (ZtZ p7)
    obtain ⟨p',g1,g2⟩:=HF rel hk
    rw [Zsj,Zsj,show acc.toList[n]? = some acc[n] by simp [p7],g1,Zr4]
    exact Paired.snoc (ih (by omega)) (show bu (kV p'.1) acc[n] by rw [g2.1];exact Lz hv)
  have b3:=key kvs.length (Zts _)
  rw [Zsx,ZsR (by rw [ZtU];omega)] at b3
  have hl':h'.get? s.heap.objs.size=some { cls:=.type "list",dict:=none,data:=.seq acc.toList.toArray c,slots:=#[] }:=by rw [Zt1];exact hl
  exact ⟨.ref s.heap.objs.size,_,I.laid (t':=tk) kp (Zts _) (show fz X.prog X.w _ h' _ (.lst (kvs.map fun kv=>kV kv.1)) from ⟨by rw [ZrX];omega,acc.toList,c,b3,hl'⟩),rfl,q _ _ ⟨I.aF.fresh (Zts _),rfl⟩⟩
theorem Xv {σ:St}{sel:List Nat}{rest:St}{H:Hp}{tt:TT}{te:TE}{Q:VK}{lo:Int}{n:Nat} (q:Nat->Bool) (f:Nat->V) (hr:sel.map (fun j=>(σ[j]?).join)=rest) (hz:n<=sizeLine)
  (ht:∀ (i:Nat) H' (Q':Bool->Hp->Prop),i<n->aP H H'->Q' (q i) H'->tt (some (.int (lo+i)) :: rest) H' Q')
  (he:∀ (i:Nat) H' (Q':VK),i<n->q i=true->aP H H'->Q' (f i) H'->te (some (.int (lo+i)) :: rest) H' Q') (hQ:∀ p H',gk H p (.lst (((Zr6 n).filter q).map f)) H'->Q (.ref p) H'):wC (kU lo n) σ 1 sel (aE 0) tt te Q H:=by
 intro p hp
 refine Hx (n:=n) (item:=fun i=>.int (lo+i)) (fun i H2=>H2=upd H p (.lst (((Zr6 i).filter q).map f))) hr (by simp) Tt ?_ ?_ ?_
 ·rintro H2 rfl
  exact Zts _
 ·rintro i H2 R hi rfl hR
  refine ht i _ _ hi (kz hp) ?_
  cases hq:q i with
  | true =>
   rw [if_pos rfl]
   refine he i _ _ hi hq (kz hp) ⟨_,cz,?_,hR _ ?_⟩
   ·rw [ZrX]
    have:=Zs1 q (Zr6 i)
    rw [ZsG] at this
    omega
   ·rw [G6,Zs3,ZsQ,Zr4,ZsF,if_pos hq]
    rfl
  | false =>
   rw [if_neg (by simp)]
   refine hR _ ?_
   rw [Zs3,ZsQ,Zr4,ZsF,if_neg (by rw [hq];simp),Ztf,ZsB,Zsz]
 ·rintro H2 rfl
  exact hQ p _ ⟨hp,rfl⟩
end L2
namespace MF
section sw
variable (m:Nat) (nd:Nat->Bool)
noncomputable def cnt:Nat->Nat
 | 0=>0
 | i+1=>cnt i+(if nd (m+1+i) then 1 else 0)
noncomputable def YA (k:Nat):Nat:=if k<=m then k else 1+m+cnt m nd (k - m - 1)
noncomputable def mt (t:Int):Int:=2 * (YA m nd (t / 2).toNat:Nat)+t % 2
noncomputable def mp (p:Pr):Pr:=(mt m nd p.1,mt m nd p.2)
variable {m nd}
end sw
noncomputable def lI (L:List Bool) (t:Int):List Bool:=L.set (t / 2).toNat true
noncomputable def jz (L:List Bool) (ts:List Int):List Bool:=ts.foldl lI L
noncomputable def look (m:Nat) (P:List Pr) (L:List Bool) (j:Nat):List Bool :=
 if L.getD (m+1+j) false then lI (lI L (P.getD j (0,0)).1) (P.getD j (0,0)).2 else L
noncomputable def down (m:Nat) (P:List Pr) (L:List Bool):Nat->List Bool
 | 0=>L
 | i+1=>look m P (down m P L i) (P.length - 1 - i)
theorem Ax (L:List Bool) (t:Int):(lI L t).length=L.length:=List.length_set ..
theorem D5:∀ (ts:List Int) (L:List Bool),(jz L ts).length=L.length
 | [],L=>rfl
 | t :: r,L=>(D5 r (lI L t)).trans (Ax L t)
theorem J6 (L:List Bool) (t:Int) (k:Nat):(lI L t).getD k false=true ↔ L.getD k false=true\/(k=(t / 2).toNat/\k<L.length):=by
 unfold lI
 rw [Zsc,Zsc,List.getElem?_set]
 by_cases e:(t / 2).toNat=k
 ·rw [if_pos e]
  subst e
  by_cases l:(t / 2).toNat<L.length
  ·rw [if_pos l];simp [l]
  ·rw [if_neg l];simp [l]
 ·rw [if_neg e]
  constructor
  ·exact .inl
  ·rintro (h | ⟨h,_⟩)
   ·exact h
   ·exact absurd h.symm e
theorem LV:∀ (ts:List Int) (L:List Bool) (k:Nat),(jz L ts).getD k false=true ↔ L.getD k false=true\/((∃ t∈ts,k=(t / 2).toNat)/\k<L.length)
 | [],L,k=>by simp [jz]
 | t :: r,L,k=>by
  show (jz (lI L t) r).getD k false=true ↔ _
  rw [LV r (lI L t) k,J6,Ax]
  simp only [Zr7,exists_eq_or_imp]
  constructor
  ·rintro ((h | ⟨h,l⟩) | ⟨h,l⟩)
   ·exact .inl h
   ·exact .inr ⟨.inl h,l⟩
   ·exact .inr ⟨.inr h,l⟩
  ·rintro (h | ⟨h | h,l⟩)
   ·exact .inl (.inl h)
   ·exact .inl (.inr ⟨h,l⟩)
   ·exact .inr ⟨h,l⟩
noncomputable def Tis (m:Nat) (P:List Pr) (ts:List Int):Prop:=∀ t∈ts,0<=t/\t<2 * ((m:Int)+1+P.length)
end MF
namespace MF
section rs
variable (st:Nat->Bool)
noncomputable def tX (m:Nat) (P:List Pr) (L:List Bool) (j:Nat):List Bool :=
 if L.getD (m+1+j) false && !(st (m+1+j)) then lI (lI L (P.getD j (0,0)).1) (P.getD j (0,0)).2 else L
noncomputable def kX (m:Nat) (P:List Pr) (L:List Bool):Nat->List Bool
 | 0=>L
 | i+1=>tX st m P (kX m P L i) (P.length - 1 - i)
noncomputable def Ni (m:Nat) (P:List Pr) (ts:List Int):List Bool:=kX st m P (jz (ZrZ (1+m+P.length) false) ts) P.length
noncomputable def il (m:Nat) (P:List Pr) (ts:List Int) (k:Nat):Bool:=(Ni st m P ts).getD k false
noncomputable def dS (m:Nat) (P:List Pr) (ts:List Int):List Nat:=(Zr6 (1+m+P.length)).filter (il st m P ts)
variable {st}
theorem Vk (m:Nat) (P:List Pr) (L:List Bool) (j:Nat):(tX st m P L j).length=L.length:=by
 unfold tX;split
 ·rw [Ax,Ax]
 ·rfl
theorem Hk (m:Nat) (P:List Pr) (L:List Bool):∀ i,(kX st m P L i).length=L.length
 | 0=>rfl
 | i+1=>by unfold kX;rw [Vk,Hk m P L i]
theorem TF (m:Nat) (P:List Pr) (ts:List Int):(Ni st m P ts).length=1+m+P.length:=by
 unfold Ni;rw [Hk,D5,Zsb]
theorem GN (m:Nat) (P:List Pr) (L:List Bool) (j k:Nat):(tX st m P L j).getD k false=true ↔
  L.getD k false=true\/((L.getD (m+1+j) false=true/\st (m+1+j)=false)/\(k=((P.getD j (0,0)).1 / 2).toNat\/k=((P.getD j (0,0)).2 / 2).toNat)/\k<L.length):=by
 unfold tX
 split
 ·rename_i h
  have h':L.getD (m+1+j) false=true/\st (m+1+j)=false:=by simpa using h
  rw [J6,J6,Ax]
  constructor
  ·rintro ((a | ⟨a,b⟩) | ⟨a,b⟩)
   ·exact .inl a
   ·exact .inr ⟨h',.inl a,b⟩
   ·exact .inr ⟨h',.inr a,b⟩
  ·rintro (a | ⟨_,a | a,b⟩)
   ·exact .inl (.inl a)
   ·exact .inl (.inr ⟨a,b⟩)
   ·exact .inr ⟨a,b⟩
 ·rename_i h
  constructor
  ·exact .inl
  ·rintro (a | ⟨a,_⟩)
   ·exact a
   ·exact absurd (by simpa using a) h
theorem MH (m:Nat) (P:List Pr) (L:List Bool) (k:Nat) {i:Nat}:∀ {i'},i<=i'->(kX st m P L i).getD k false=true->(kX st m P L i').getD k false=true
  | 0, h, a => by have : i = 0 := by omega
                  subst this;exact a
  | j+1,h,a=>by
    rcases Ztt i (j+1) with l | l
    · exact (GN ..).mpr (.inl (MH m P L k (i':=j) (by omega) a))
    · have:i=j+1:=by omega
      subst this;exact a
theorem RY {m:Nat}{P:List Pr} (ho:Ok m P) (L:List Bool) {j:Nat} (hj:j<P.length):∀ {i},P.length - j<=i->i<=P.length->(kX st m P L i).getD (m+1+j) false=true->(kX st m P L (P.length - 1 - j)).getD (m+1+j) false=true
 | 0,h,_,a=>by omega
 | i+1,h,hi,a=>by
  have hp:P[P.length - 1 - i]? = some P[P.length - 1 - i]:=ZrY (by omega)
  have o:=ho _ _ hp
  have e:P.getD (P.length - 1 - i) (0,0)=P[P.length - 1 - i]:=by rw [Zsc,hp];rfl
  rcases (GN ..).mp a with a | ⟨a,b,_⟩
  ·rcases Ztt i (P.length - j) with l | l
   ·have:i=P.length - 1 - j:=by omega
    subst this;exact a
   ·exact RY ho L hj l (by omega) a
  ·rw [e] at b
   omega
theorem WW {m:Nat}{P:List Pr}{ts:List Int}{t:Int} (ht:t∈ts) (h:0<=t/\t<2 * ((m:Int)+1+P.length)):il st m P ts (t / 2).toNat=true :=
 MH m P _ _ (i:=0) (Ztx _) ((LV ..).mpr (.inr ⟨⟨t,ht,rfl⟩,by rw [Zsb];omega⟩))
theorem LH {α:Type}{P:List α}{j:Nat}{p:α} (hp:P[j]? = some p):j<P.length:=by
 rcases Ztt j P.length with z | z
 ·exact z
 ·rw [Zsu z] at hp;cases hp
theorem Zm7 {m:Nat}{P:List Pr} (ho:Ok m P) (ts:List Int) {j:Nat}{p:Pr} (hp:P[j]? = some p) (hn:il st m P ts (m+1+j)=true) (hs:st (m+1+j)=false):il st m P ts (p.1 / 2).toNat=true/\il st m P ts (p.2 / 2).toNat=true:=by
 have aX:=LH hp
 have a:=RY ho _ aX (i:=P.length) (by omega) (Zts _) hn
 have o:=ho _ _ hp
 have e:P.getD (P.length - 1 - (P.length - 1 - j)) (0,0)=p:=by rw [show P.length - 1 - (P.length - 1 - j)=j by omega,Zsc,hp];rfl
 have key:∀ k,(k=(p.1 / 2).toNat\/k=(p.2 / 2).toNat)->il st m P ts k=true:=by
  intro k hk
  refine MH m P _ _ (i:=P.length - 1 - j+1) (by omega) ((GN ..).mpr (.inr ⟨?_,?_,?_⟩))
  ·rw [show P.length - 1 - (P.length - 1 - j)=j by omega];exact ⟨a,hs⟩
  ·rw [e];exact hk
  ·rw [Hk,D5,Zsb];omega
 exact ⟨key _ (.inl rfl),key _ (.inr rfl)⟩
theorem M7 {m:Nat}{P:List Pr}{ts:List Int} (S:Nat->Prop) (h1:∀ t∈ts,S (t / 2).toNat) (h2:∀ j p,P[j]? = some p->S (m+1+j)->st (m+1+j)=false->S (p.1 / 2).toNat/\S (p.2 / 2).toNat) {k:Nat} (h:il st m P ts k=true):S k:=by
 have key:∀ i,i<=P.length->∀ k,(kX st m P (jz (ZrZ (1+m+P.length) false) ts) i).getD k false=true->S k:=by
  intro i
  induction i with
  | zero =>
   intro _ k a
   rcases (LV ..).mp a with a | ⟨⟨t,ht,rfl⟩,_⟩
   ·rw [Zsc,ZsM] at a
    split at a <;> cases a
   ·exact h1 t ht
  | succ i ih =>
   intro hi k a
   have hp:P[P.length - 1 - i]? = some P[P.length - 1 - i]:=ZrY (by omega)
   have e:P.getD (P.length - 1 - i) (0,0)=P[P.length - 1 - i]:=by rw [Zsc,hp];rfl
   rcases (GN ..).mp a with a | ⟨⟨a,a'⟩,b,_⟩
   ·exact ih (by omega) k a
   ·rw [e] at b
    have:=h2 _ _ hp (ih (by omega) _ a) a'
    rcases b with rfl | rfl
    ·exact this.1
    ·exact this.2
 exact key P.length (Zts _) k h
theorem Yb {m:Nat}{P:List Pr}{ts:List Int}{k:Nat} (h:1+m+P.length<=k):il st m P ts k=false:=by
 unfold il
 rw [Zsc,Zsu (by rw [TF];exact h)]
 rfl
end rs
theorem tJ (k:Nat):(2 * (k:Int) / 2).toNat=k:=by omega
theorem ZoJ {st:Nat->Bool}{m:Nat}{P:List Pr} (ho:Ok m P) {n k:Nat} (h:il st m P [2 * (n:Int)] k=true):k<=n:=by
 refine M7 (S:=fun k=>k<=n) ?_ ?_ h
 ·intro t ht
  rw [Zr2] at ht
  subst ht
  omega
 ·intro j p hp hj _
  have:=ho j p hp
  constructor <;> omega
noncomputable def o5 (m:Nat) (P:List Pr) (n:Nat):List Nat:=dS (fun _=>false) m P [2 * (n:Int)]
theorem YL {m:Nat}{P:List Pr} (ho:Ok m P) {n:Nat} (hn:n<1+m+P.length):o5 m P n=(Zr6 (n+1)).filter (il (fun _=>false) m P [2 * (n:Int)]):=by
 unfold o5 dS
 have key:∀ d,(Zr6 (n+1+d)).filter (il (fun _=>false) m P [2 * (n:Int)])=(Zr6 (n+1)).filter (il (fun _=>false) m P [2 * (n:Int)]):=by
  intro d
  induction d with
  | zero=>rfl
  | succ d ih =>
   rw [show n+1+(d+1)=n+1+d+1 by omega,Zs3,ZsQ,ih]
   have:il (fun _=>false) m P [2 * (n:Int)] (n+1+d)=false:=by
    cases h:il (fun _=>false) m P [2 * (n:Int)] (n+1+d) with
    | false=>rfl
    | true=>have:=ZoJ ho h;omega
   rw [ZsF,if_neg (by rw [this];simp),Ztf,Zsz]
 have:=key (1+m+P.length - (n+1))
 rw [show n+1+(1+m+P.length - (n+1))=1+m+P.length by omega] at this
 exact this
theorem Ln {st:Nat->Bool}{m:Nat}{P:List Pr}{n:Nat} (h:n<1+m+P.length):il st m P [2 * (n:Int)] n=true:=by
 have:=WW (st:=st) (m:=m) (P:=P) (ts:=[2 * (n:Int)]) (Zr2.mpr rfl) (by omega)
 rwa [tJ] at this
structure iM (st:Nat->Bool) (m:Nat) (P:List Pr) (n i:Nat) (S:Nat->Prop):Prop where
 self:S n
 low:∀ k,S k->il st m P [2 * (n:Int)] k=true
 Lq:∀ j p,P[j]? = some p->m+1+j<=n->n - (m+1+j)<i->S (m+1+j)->st (m+1+j)=false->S (p.1 / 2).toNat/\S (p.2 / 2).toNat
theorem iM.new {st:Nat->Bool}{m:Nat}{P:List Pr}{n:Nat}{S:Nat->Prop} (h:∀ k,S k ↔ k=n) (hn:n<1+m+P.length):iM st m P n 0 S :=
 ⟨(h n).mpr rfl,fun k hk=>by rw [(h k).mp hk];exact Ln hn,fun j p _ _ hi=>absurd hi (ZtJ _)⟩
theorem iM.skip {st:Nat->Bool}{m:Nat}{P:List Pr}{n i:Nat}{S:Nat->Prop} (h:iM st m P n i S) (hn:¬ S (n - i)):iM st m P n (i+1) S:=by
 refine ⟨h.self,h.low,fun j p hp hl hi hs ht=>?_⟩
 rcases Ztt (n - (m+1+j)) i with l | l
 ·exact h.Lq j p hp hl l hs ht
 ·have:m+1+j=n - i:=by omega
  rw [this] at hs
  exact absurd hs hn
end MF
namespace MF
noncomputable def rising (xs:List Int):Bool:=((Zr6 (xs.length - 1)).map fun j=>decide (xs.getD j 0<xs.getD (j+1) 0)).all id
noncomputable def CH (xs:List Int) (k:Nat):Bool:=decide ((k:Int)∈xs)
theorem HQ {st:Nat->Bool}{m:Nat}{P:List Pr}{ts:List Int}{j:Nat}:j∈dS st m P ts ↔ il st m P ts j=true:=by
 unfold dS
 rw [Zsy,ZsY]
 constructor
 ·exact fun h=>h.2
 ·intro h
  refine ⟨?_,h⟩
  rcases Ztt j (1+m+P.length) with l | l
  ·exact l
  ·rw [Yb l] at h;cases h
noncomputable def Jv (m:Nat) (P:List Pr) (k:Int) (xs:List Int):Prop:=∀ j,il (CH xs) m P [2 * k] j=true->m<j\/(j:Int)∈xs
structure Zub (m:Nat) (P:List Pr) (n:Nat) (xs:List Int):Prop where
 kf:xs.Pairwise (· < ·)
 pos:∀ x∈xs,0<x/\x<n
 TL:∀ x∈xs,il (fun _=>false) m P [2 * (n:Int)] x.toNat=true
 stop:Jv m P n xs
noncomputable def DO (m:Nat) (P:List Pr) (k:Int) (xs:List Int):Bool:=((dS (CH xs) m P [2 * k]).map fun j=>decide (m<j) || decide ((j:Int)∈xs)).all id
theorem Rq (m:Nat) (P:List Pr) (k:Int) (xs:List Int):DO m P k xs=true ↔ Jv m P k xs:=by
 unfold DO Jv
 rw [List.all_map,Zs2]
 constructor
 ·intro h j hj
  have:=h j (HQ.mpr hj)
  simpa using this
 ·intro h j hj
  have:=h j (HQ.mp hj)
  simpa using this
structure lO (m:Nat) (P:List Pr) (n:Nat) (xs:List Int) (ws:List Nat) (c:Nat):Prop where
 nd:ws.Nodup
 self:n∈ws
 Yw:∀ w∈ws,il (CH xs) m P [2 * (n:Int)] w=true
 out:∀ w∈ws,(w:Int) ∉ xs
 le:∀ w∈ws,w<=n
 high:∀ (i:Nat) w,i<c->ws[i]? = some w->m<w
 Lq:∀ (i:Nat) j p,i<c->ws[i]? = some (m+1+j)->P[j]? = some p->(p.1 / 2∈xs\/(p.1 / 2).toNat∈ws)/\(p.2 / 2∈xs\/(p.2 / 2).toNat∈ws)
theorem lO.bad {m:Nat}{P:List Pr}{n:Nat}{xs:List Int}{ws:List Nat}{c w:Nat} (h:lO m P n xs ws c) (hw:w∈ws) (hm:w<=m):DO m P n xs=false:=by
 cases e:DO m P n xs with
 | false=>rfl
 | true =>
  rcases (Rq ..).mp e w (h.Yw w hw) with z | z
  ·omega
  ·exact absurd z (h.out w hw)
theorem lO.good {m:Nat}{P:List Pr} (ho:Ok m P) {n:Nat}{xs:List Int}{ws:List Nat} (h:lO m P n xs ws ws.length):DO m P n xs=true:=by
 rw [Rq]
 intro k hk
 have:=M7 (st:=CH xs) (S:=fun k=>k∈ws\/(k:Int)∈xs) ?_ ?_ hk
 ·rcases this with z | z
  ·obtain ⟨i,hi⟩:=Zsr.mp z
   exact .inl (h.high i k (LH hi) hi)
  ·exact .inr z
 ·intro t ht
  rw [Zr2] at ht
  subst ht
  rw [tJ]
  exact .inl h.self
 ·intro j p hp hS hst
  have zb:((m+1+j:Nat):Int) ∉ xs:=by unfold CH at hst;simpa using hst
  have hw:=hS.resolve_right zb
  obtain ⟨i,hi⟩:=Zsr.mp hw
  have o:=ho j p hp
  have:=h.Lq i j p (LH hi) hi hp
  refine ⟨this.1.elim (fun z=>.inr ?_) .inl,this.2.elim (fun z=>.inr ?_) .inl⟩
  ·rw [show (((p.1 / 2).toNat:Nat):Int)=p.1 / 2 by omega];exact z
  ·rw [show (((p.2 / 2).toNat:Nat):Int)=p.2 / 2 by omega];exact z
end MF
set_option maxHeartbeats 4000000
namespace L2
open PySem PySem.Spec PyProof.Rows
theorem Vo (x:Int) (xs:List Int):vM (.int x) (xs.map V.int)=decide (x∈xs):=by
 unfold vM
 rw [Ztg,Zt8,Zth,decide_eq_true_eq]
 constructor
 ·rintro ⟨y,hy,e⟩
  have:y=x:=by
   first
   | (simp only [Function.comp,jh,decide_eq_true_eq] at e;exact e)
   | (simp only [Function.comp,jh,decide_eq_true_eq] at e;exact e.symm)
   | (simp [Function.comp,jh] at e;omega)
  exact this ▸ hy
 ·intro h
  exact ⟨x,h,by simp [Function.comp,jh]⟩
theorem PS.qh {X:Cx}{st:Stmt}{t:TS} (h:PS X.qh st t):PS X st t:=fun pins s σ H D I hw =>
 wpAny_mono (h pins s σ H D (I.iI _) hw) (fun _ _ q=>q.unwish) fun _ _ z=>False.elim z
end L2
set_option maxHeartbeats 400000
namespace SS
open PySem PySem.Spec PyProof.Rows
section
variable {prog:Program}{w:World}{A:Around}{E:Value->Shared->Prop}{s:Shared}
theorem V2 {h:Heap}{a:Addr}{vs:List Value}{out:Array Value}{n:Nat} (ho:h.get? a=some (seqObj "list" vs.toArray n)):(∃ e,(sortedHeap h a vs out).get? a=some (seqObj "list" out e))/\∀ b o,b≠a->h.get? b=some o->(sortedHeap h a vs out).get? b=some o:=by
 unfold sortedHeap
 have g1:=get?_update_seq ho (fun _=>#[])
 have g2:=Heap.get?_push_of_some (seqObj "list" #[] 0) (Heap.get?_push_of_some (seqObj "tuple" vs.toArray 0) g1)
 exact ⟨⟨_,get?_update_seq g2 (fun _=>out)⟩,fun b o hb e=>(Heap.get?_update_other _ _ (Ne.symm hb)).trans (Heap.get?_push_of_some _ (Heap.get?_push_of_some _ ((Heap.get?_update_other _ _ (Ne.symm hb)).trans e)))⟩
end
end SS
set_option maxHeartbeats 4000000
namespace L2
open PySem PySem.Spec PyProof.Rows
end L2
namespace SR
open PySem PyProof.Rows
structure SX (a₀:Array Keyed) (p:Array (Nat × Nat × Nat)) (st:SortSt):Prop where
 perm:(arrOf st).Perm a₀
 kind:kindOf st=oneType'
 failed:failedOf st=none
 pend:pendingOf st=p
noncomputable def Fr (lo:Nat) (xs ys:Array Keyed):Prop:=∀ i,i<lo->xs[i]? = ys[i]?
noncomputable def So (xs:Array Keyed) (lo hi:Nat):Prop:=∀ i j,lo<=i->i<=j->j<hi->K xs i<=K xs j
theorem Fr.refl (lo:Nat) (xs:Array Keyed):Fr lo xs xs:=fun _ _=>rfl
theorem Fr.trans {lo:Nat}{xs ys zs:Array Keyed} (h:Fr lo xs ys) (g:Fr lo ys zs):Fr lo xs zs:=fun i hi=>(h i hi).trans (g i hi)
theorem Fr.key {lo:Nat}{xs ys:Array Keyed} (h:Fr lo xs ys) {i:Nat} (hi:i<lo):K xs i=K ys i:=K_congr (h i hi)
variable {a₀:Array Keyed}{p:Array (Nat × Nat × Nat)}{st:SortSt}
theorem SX.size (h:SX a₀ p st):(arrOf st).size=a₀.size:=h.perm.size_eq
theorem SX.set (h:SX a₀ p st) {xs:Array Keyed} (hp:xs.Perm (arrOf st)):SX a₀ p (setArr st xs):=⟨hp.trans h.perm,h.kind,h.failed,h.pend⟩
theorem Gd {xs:Array Keyed} (h0:IntKeys xs) {i:Nat} (hi:i<xs.size):∃ t q,xs[i]? = some (.int (K xs i) t,q):=by
 have e:xs[i]? = some xs[i]:=getElem?_pos _ i hi
 obtain ⟨n,t,hn⟩:=h0 xs[i] (by simp)
 refine ⟨t,xs[i].2,?_⟩
 have e2:xs[i]=(.int n t,xs[i].2):=Prod.ext hn rfl
 unfold K
 rw [e,e2]
 rfl
theorem SX.ints (h:SX a₀ p st) (h0:IntKeys a₀):IntKeys (arrOf st):=fun q hq=>h0 q ((Zt3.mp h.perm).mem_iff.mp hq)
section
variable {prog:Program}{w:World}{A:Around}{E:Value->Shared->Prop}{s:Shared}
theorem Fq {i j:Nat}{Q:Option Bool->SortSt->Prop} (hB:SX a₀ p st) (h0:IntKeys a₀) (hi:i<a₀.size) (hj:j<a₀.size)
  (h:Q (some (decide (K (arrOf st) i<K (arrOf st) j))) st):wpS (model prog w) A E s (ltAt' i j) Q st:=by
 obtain ⟨t,p,e1⟩:=Gd (hB.ints h0) (show i<(arrOf st).size by rw [hB.size];exact hi)
 obtain ⟨u,q,e2⟩:=Gd (hB.ints h0) (show j<(arrOf st).size by rw [hB.size];exact hj)
 exact wpS_ltAt hB.kind e1 e2 h;skip
theorem HN {lo n ok:Nat}{Q:Bool->SortSt->Prop} (h0:IntKeys a₀) (hn:lo+n<=a₀.size) (aF:ok<=n) (hB:SX a₀ p st) (hs:So (arrOf st) lo (lo+ok))
  (h:∀ ao,SX a₀ p ao->Fr lo (arrOf ao) (arrOf st)->So (arrOf ao) lo (lo+n)->Q true ao):wpS (model prog w) A E s (binarySort' lo n ok) Q st:=by
 rw [binarySort'_eq]
 refine wpS_bind (wpS_mono (wpS_forRange (I:=fun k c ao=>c=(none,())/\SX a₀ p ao/\Fr lo (arrOf ao) (arrOf st)/\So (arrOf ao) lo (lo+min k n))
  (Q:=fun c ao=>c=(none,())/\SX a₀ p ao/\Fr lo (arrOf ao) (arrOf st)/\So (arrOf ao) lo (lo+n)) ?hst ?hfi ?hin) ?hpo)
 case hpo =>
  rintro c ao ⟨rfl,hB',hf,dD⟩
  exact wpS_pure (h ao hB' hf dD)
 case hin =>
  refine ⟨rfl,hB,Fr.refl _ _,fun i j hl ez hj=>?_⟩
  by_cases h1:ok=0
  ·have:i=j:=by omega
   rw [this];exact ZtN _
  ·exact hs i j hl ez (by omega)
 case hfi =>
  rintro c ao ⟨hc,hB',hf,dD⟩
  rw [show min (max (max ok 1) n) n=n by omega] at dD
  exact ⟨hc,hB',hf,dD⟩
 case hst =>
  rintro k c ao hak hkn ⟨rfl,hB',hf,dD⟩
  rw [show min k n=k by omega] at dD
  have hk:lo+k<a₀.size:=by omega
  refine wpS_bind (wpS_mono (wpS_forRange (I:=fun x c st2=>st2=ao/\∃ l r,c=(none,l,r)/\l<=r/\r<=k/\r - l<=k - x /\
    (∀ i,i<l->K (arrOf ao) (lo+i)<=K (arrOf ao) (lo+k))/\(∀ i,r<=i->i<k->K (arrOf ao) (lo+k)<K (arrOf ao) (lo+i)))
   (Q:=fun c st2=>st2=ao/\∃ l r,c=(none,l,r)/\l<=k /\
    (∀ i,i<l->K (arrOf ao) (lo+i)<=K (arrOf ao) (lo+k))/\(∀ i,l<=i->i<k->K (arrOf ao) (lo+k)<K (arrOf ao) (lo+i))) ?h1 ?h2 ?h3) ?h4)
  case h3=>exact ⟨rfl,0,k,rfl,by omega,by omega,by omega,fun i hi=>by omega,fun i h1 h2=>by omega⟩
  case h2 =>
   rintro c st2 ⟨rfl,l,r,rfl,hlr,hrk,hm,fj,rG⟩
   have:l=r:=by omega
   subst this
   exact ⟨rfl,l,l,rfl,hrk,fj,rG⟩
  case h1 =>
   rintro x c st2 _ Kc ⟨rfl,l,r,rfl,hlr,hrk,hm,fj,rG⟩
   dsimp only
   by_cases hge:l ≥ r
   ·rw [if_pos hge]
    have:l=r:=by omega
    subst this
    exact wpS_pure ⟨rfl,l,l,rfl,hrk,fj,rG⟩
   ·rw [if_neg hge]
    refine wpS_bind (Fq hB' h0 hk (by omega) ?_)
    by_cases hless:K (arrOf st2) (lo+k)<K (arrOf st2) (lo+(l+r) / 2)
    ·simp only [hless,decide_true,if_true]
     exact wpS_pure ⟨rfl,l,(l+r) / 2,rfl,by omega,by omega,by omega,fj,fun i h1 h2=>Int.lt_of_lt_of_le hless (dD _ _ (by omega) (by omega) (by omega))⟩
    ·simp only [hless,decide_false,Zt7,if_false]
     exact wpS_pure ⟨rfl,(l+r) / 2+1,r,rfl,by omega,by omega,by omega,fun i h1=>ZtR (dD (lo+i) (lo+(l+r) / 2) (by omega) (by omega) (by omega)) (Int.not_lt.mp hless),rG⟩
  case h4 =>
   rintro c st2 ⟨rfl,l,r,rfl,mK,fj,rG⟩
   show wpS _ _ _ _ (do moveDown' (lo+k) (lo+l);pure (ForInStep.yield (none,()))) _ _
   rw [moveDown'_eq]
   have NG:lo+k<(arrOf st2).size:=by rw [hB'.size];exact hk
   have ed:lo+k - (lo+l)=k - l:=by omega
   rw [ed]
   have O0:∀ i,K (bubble (arrOf st2) (lo+k) (k - l)) i=if i=lo+l then K (arrOf st2) (lo+k) else if lo+l<i/\i<=lo+k then K (arrOf st2) (i - 1) else K (arrOf st2) i:=fun i=>by
    rw [K_bubble NG (by omega),show lo+k - (k - l)=lo+l by omega]
   refine wpS_bind (wpS_modify (wpS_pure ⟨rfl,hB'.set (bubble_perm _ _ _),fun i hi=>?_,?_⟩))
   ·rw [<- hf i hi]
    show (bubble (arrOf st2) (lo+k) (k - l))[i]? = _
    rw [getElem?_bubble NG _ (by omega),if_neg (by omega),if_neg (by omega)]
   ·rw [show lo+min (k+1) n=lo+k+1 by omega]
    intro i j hl ez hj
    show K (bubble (arrOf st2) (lo+k) (k - l)) i<=K (bubble (arrOf st2) (lo+k) (k - l)) j
    have hlo':∀ i,lo<=i->i<lo+l->K (arrOf st2) i<=K (arrOf st2) (lo+k):=fun i h1 h2=>by
     have:=fj (i - lo) (by omega)
     rwa [show lo+(i - lo)=i by omega] at this
    have hhi':∀ i,lo+l<=i->i<lo+k->K (arrOf st2) (lo+k)<K (arrOf st2) i:=fun i h1 h2=>by
     have:=rG (i - lo) (by omega) (by omega)
     rwa [show lo+(i - lo)=i by omega] at this
    rw [O0,O0]
    repeat' split
    all_goals first
     | (exfalso;omega)
     | exact ZtN _
     | exact hlo' _ (by omega) (by omega)
     | exact ZtS (hhi' _ (by omega) (by omega))
     | exact dD _ _ (by omega) (by omega) (by omega)
end
end SR
namespace SR
open PySem PyProof.Rows
noncomputable def uO (lo a aR:Nat):StateT SortSt Sem (Option (Option Nat) × Nat) :=
 forIn [a:aR] ((none,a):Option (Option Nat) × Nat) fun _ c=>do
  let y <- ltAt' (lo+c.snd) (lo+c.snd - 1)
  match y with
  | some b=>if b=true then pure (ForInStep.done (none,c.snd)) else pure (ForInStep.yield (none,c.snd+1))
  | _=>pure (ForInStep.done (some none,c.snd))
noncomputable def qw (lo n aR:Nat):StateT SortSt Sem (Option Nat):=do
 reverseSlice' lo (lo+n)
 let c <- uO lo n aR
 match c.fst with
 | some r=>pure r
 | none=>pure (some c.snd)
noncomputable def qS (lo n aR:Nat):StateT SortSt Sem (Option (Option Nat) × Nat × Nat) :=
 forIn [n:aR] ((none,n,0):Option (Option Nat) × Nat × Nat) fun _ c=>do
  let y <- ltAt' (lo+c.snd.fst) (lo+c.snd.fst - 1)
  match y with
  | some b =>
   if b=true then
    if c.snd.snd > 0 then do
     reverseSlice' (lo+c.snd.fst - (c.snd.snd+1)) (lo+c.snd.fst)
     pure (ForInStep.yield (none,c.snd.fst+1,0))
    else pure (ForInStep.yield (none,c.snd.fst+1,0))
   else do
    let y <- ltAt' (lo+c.snd.fst - 1) (lo+c.snd.fst)
    match y with
    | some b =>
     if b=true then pure (ForInStep.done (none,c.snd.fst,c.snd.snd))
     else pure (ForInStep.yield (none,c.snd.fst+1,c.snd.snd+1))
    | _=>pure (ForInStep.done (some none,c.snd.fst,c.snd.snd))
  | _=>pure (ForInStep.done (some none,c.snd.fst,c.snd.snd))
noncomputable def pB (lo n aR:Nat):StateT SortSt Sem (Option Nat):=do
 liftM (rule "list.sort.descending-run");let c <- qS lo (n+1) aR
 match c.fst with
 | some r=>pure r
 | none =>
  if c.snd.snd > 0 then do
   reverseSlice' (lo+c.snd.fst - (c.snd.snd+1)) (lo+c.snd.fst)
   qw lo c.snd.fst aR
  else qw lo c.snd.fst aR
theorem Wv (lo aR:Nat):countRun' lo aR=(do
  let c <- uO lo 1 aR
  match c.fst with
  | some r=>pure r
  | none =>
   if (c.snd == aR)=true then pure (some c.snd)
   else if c.snd > 1 then do
    let y <- ltAt' lo (lo+c.snd - 1)
    match y with
    | some b=>if b=true then pure (some c.snd) else do
      reverseSlice' lo (lo+c.snd)
      pB lo c.snd aR
    | _=>pure none
   else pB lo c.snd aR):=by
 rw [countRun'_eq]
 have key:∀ n:Nat,(do
   liftM (rule "list.sort.descending-run");let c <- qS lo (n+1) aR
   match c.fst with
   | some r=>pure r
   | none =>
    if c.snd.snd > 0 then do
     reverseSlice' (lo+c.snd.fst - (c.snd.snd+1)) (lo+c.snd.fst)
     reverseSlice' lo (lo+c.snd.fst)
     let d <- uO lo c.snd.fst aR
     match d.fst with | some r=>pure r | none=>pure (some d.snd)
    else do
     reverseSlice' lo (lo+c.snd.fst)
     let d <- uO lo c.snd.fst aR
     match d.fst with | some r=>pure r | none=>pure (some d.snd):StateT SortSt Sem (Option Nat))=pB lo n aR:=fun n=>rfl
 refine congrArg (bind (uO lo 1 aR)) (funext fun c=>?_)
 obtain ⟨r,n⟩:=c
 cases r with
 | some r=>rfl
 | none =>
  dsimp only
  split
  ·rfl
  ·split
   ·congr 1
    funext y
    cases y with
    | none=>rfl
    | some b =>
     dsimp only
     split
     ·rfl
     ·congr 1
      funext _
      rw [<- key]
      congr 1;funext _;congr 1;funext c;obtain ⟨r,n,q⟩:=c
      cases r with
      | some r=>rfl
      | none =>
       dsimp only
       split
       ·congr 1;funext _;congr 1;funext _;congr 1;funext d;obtain ⟨r,n⟩:=d;cases r <;> rfl
       ·congr 1;funext _;congr 1;funext d;obtain ⟨r,n⟩:=d;cases r <;> rfl
   ·rw [<- key]
    congr 1;funext _;congr 1;funext c;obtain ⟨r,n,q⟩:=c
    cases r with
    | some r=>rfl
    | none =>
     dsimp only
     split
     ·congr 1;funext _;congr 1;funext _;congr 1;funext d;obtain ⟨r,n⟩:=d;cases r <;> rfl
     ·congr 1;funext _;congr 1;funext d;obtain ⟨r,n⟩:=d;cases r <;> rfl
section
variable {prog:Program}{w:World}{A:Around}{E:Value->Shared->Prop}{s:Shared}{a₀:Array Keyed}{p:Array (Nat × Nat × Nat)}{st:SortSt}
noncomputable def De (xs:Array Keyed) (lo hi:Nat):Prop:=∀ i j,lo<=i->i<=j->j<hi->K xs j<=K xs i
theorem GB {xs:Array Keyed}{lo i j:Nat} (hj:j<=xs.size) (hi:lo<=i):Fr lo (mirror xs i j ((j - i) / 2)) xs:=fun k hk=>by
 rw [getElem?_mirror_all hj,if_neg (by omega)]
theorem DY {xs:Array Keyed}{i j:Nat} (hj:j<=xs.size) (he:∀ k,i<=k->k<j->K xs k=K xs (j - 1)) (k:Nat):K (mirror xs i j ((j - i) / 2)) k=K xs k:=K_mirror_equal hj he k
theorem qe {i j:Nat}{Q:Unit->SortSt->Prop} (h:Q () (setArr st (mirror (arrOf st) i j ((j - i) / 2)))):wpS (model prog w) A E s (reverseSlice' i j) Q st:=wpS_reverse h
theorem FK {lo a aR:Nat}{Q:Option (Option Nat) × Nat->SortSt->Prop} (h0:IntKeys a₀) (hn:lo+aR<=a₀.size) (ha:1<=a) (p7:a<=aR) (hB:SX a₀ p st) (hs:So (arrOf st) lo (lo+a))
  (h:∀ n,a<=n->n<=aR->So (arrOf st) lo (lo+n)->(n=aR\/K (arrOf st) (lo+n)<K (arrOf st) (lo+n - 1))->Q (none,n) st):wpS (model prog w) A E s (uO lo a aR) Q st:=by
 unfold uO
 refine wpS_forRange (I:=fun x c ao=>ao=st/\c=(none,x)/\So (arrOf st) lo (lo+x)) ?h1 ?h2 ⟨rfl,rfl,hs⟩
 case h2 =>
  rintro c ao ⟨rfl,rfl,dD⟩
  rw [show max a aR=aR by omega] at dD ⊢
  exact h aR p7 (Zts _) dD (.inl rfl);skip
 case h1 =>
  rintro x c ao hax hxn ⟨rfl,rfl,dD⟩
  dsimp only
  refine wpS_bind (Fq hB h0 (by omega) (by omega) ?_)
  by_cases hl:K (arrOf ao) (lo+x)<K (arrOf ao) (lo+x - 1)
  ·simp only [hl,decide_true,if_true]
   exact wpS_pure (h x hax (by omega) dD (.inr hl))
  ·simp only [hl,decide_false,Zt7,if_false]
   refine wpS_pure ⟨rfl,rfl,fun i j hli ez hj=>?_⟩
   by_cases hjx:j<lo+x
   ·exact dD i j hli ez hjx
   ·by_cases hi':i=j
    ·rw [hi'];exact ZtN _
    ·have hj':j=lo+x:=by omega
     subst hj'
     exact ZtR (dD i (lo+x - 1) hli (by omega) (by omega)) (Int.not_lt.mp hl)
theorem FZ {lo n aR:Nat}{Q:Option Nat->SortSt->Prop} (h0:IntKeys a₀) (hn:lo+aR<=a₀.size) (h1:1<=n) (pL:n<=aR) (hB:SX a₀ p st) (hs:De (arrOf st) lo (lo+n))
  (h:∀ m ao,SX a₀ p ao->Fr lo (arrOf ao) (arrOf st)->1<=m->m<=aR->So (arrOf ao) lo (lo+m)->Q (some m) ao):wpS (model prog w) A E s (qw lo n aR) Q st:=by
 unfold qw
 have hsz:lo+n<=(arrOf st).size:=by rw [hB.size];omega
 refine wpS_bind (qe ?_)
 have hB':=hB.set (mirror_perm (arrOf st) lo (lo+n) ((lo+n - lo) / 2))
 refine wpS_bind (FK h0 hn h1 pL hB' ?_ fun m Bv vN Hy _=>wpS_pure (h m _ hB' (GB hsz (Zts _)) (by omega) vN Hy))
 intro i j hl ez hj
 show K (mirror (arrOf st) lo (lo+n) ((lo+n - lo) / 2)) i<=K (mirror (arrOf st) lo (lo+n) ((lo+n - lo) / 2)) j
 rw [K_mirror hsz,K_mirror hsz,if_pos (by omega),if_pos (by omega)]
 exact hs _ _ (by omega) (by omega) (by omega)
theorem JY {lo n aR:Nat}{Q:Option (Option Nat) × Nat × Nat->SortSt->Prop} (h0:IntKeys a₀) (hn:lo+aR<=a₀.size) (h1:1<=n) (pL:n<=aR) (hB:SX a₀ p st) (hs:De (arrOf st) lo (lo+n))
  (h:∀ m q ao,SX a₀ p ao->Fr lo (arrOf ao) (arrOf st)->n<=m->m<=aR->De (arrOf ao) lo (lo+m)->q+1<=m->(∀ i,lo+m - (q+1)<=i->i<lo+m->K (arrOf ao) i=K (arrOf ao) (lo+m - 1))->Q (none,m,q) ao) :
  wpS (model prog w) A E s (qS lo n aR) Q st:=by
 unfold qS
 refine wpS_forRange (I:=fun x c ao=>∃ q,c=(none,x,q)/\SX a₀ p ao/\Fr lo (arrOf ao) (arrOf st)/\De (arrOf ao) lo (lo+x)/\q+1<=x /\
   (∀ i,lo+x - (q+1)<=i->i<lo+x->K (arrOf ao) i=K (arrOf ao) (lo+x - 1))) ?h1 ?h2 ⟨0,rfl,hB,Fr.refl _ _,hs,by omega,fun i h1 h2=>by congr 1;omega⟩
 case h2 =>
  rintro c ao ⟨q,rfl,hB',hf,dD,hq,he⟩
  rw [show max n aR=aR by omega] at dD hq he ⊢
  exact h aR q ao hB' hf pL (Zts _) dD hq he
 case h1 =>
  rintro x c ao hax hxn ⟨q,rfl,hB',hf,dD,hq,he⟩
  dsimp only
  have hsz:lo+x<=(arrOf ao).size:=by rw [hB'.size];omega
  refine wpS_bind (Fq hB' h0 (by omega) (by omega) ?_)
  by_cases hl:K (arrOf ao) (lo+x)<K (arrOf ao) (lo+x - 1)
  ·simp only [hl,decide_true,if_true]
   have yf:∀ xs:Array Keyed,(∀ k,K xs k=K (arrOf ao) k)->De xs lo (lo+(x+1)):=by
    intro xs hk i j hli ez hj
    rw [hk,hk]
    by_cases hjx:j<lo+x
    ·exact dD i j hli ez hjx
    ·by_cases hi':i=j
     ·rw [hi'];exact ZtN _
     ·have hj':j=lo+x:=by omega
      subst hj'
      exact ZtR (ZtS hl) (dD i (lo+x - 1) hli (by omega) (by omega))
   by_cases hneq:q > 0
   ·rw [if_pos hneq]
    exact wpS_bind (qe (wpS_pure ⟨0,rfl,hB'.set (mirror_perm _ _ _ _),(GB hsz (by omega)).trans hf,yf _ (DY hsz he),by omega,fun i h1 h2=>by congr 1;omega⟩))
   ·rw [if_neg hneq]
    exact wpS_pure ⟨0,rfl,hB',hf,yf _ (fun _=>rfl),by omega,fun i h1 h2=>by congr 1;omega⟩
  ·simp only [hl,decide_false,Zt7,if_false]
   refine wpS_bind (Fq hB' h0 (by omega) (by omega) ?_)
   by_cases hg:K (arrOf ao) (lo+x - 1)<K (arrOf ao) (lo+x)
   ·simp only [hg,decide_true,if_true]
    exact wpS_pure (h x q ao hB' hf hax (by omega) dD hq he)
   ·simp only [hg,decide_false,Zt7,if_false]
    have ex:K (arrOf ao) (lo+x)=K (arrOf ao) (lo+x - 1):=by omega
    refine wpS_pure ⟨q+1,rfl,hB',hf,fun i j hli ez hj=>?_,by omega,fun i h1 h2=>?_⟩
    ·by_cases hjx:j<lo+x
     ·exact dD i j hli ez hjx
     ·by_cases hi':i=j
      ·rw [hi'];exact ZtN _
      ·have hj':j=lo+x:=by omega
       subst hj'
       rw [ex];exact dD i (lo+x - 1) hli (by omega) (by omega)
    ·rw [show lo+(x+1) - 1=lo+x by omega]
     by_cases hix:i=lo+x
     ·rw [hix]
     ·rw [ex];exact he i (by omega) (by omega)
theorem rN {lo n aR:Nat}{Q:Option Nat->SortSt->Prop} (h0:IntKeys a₀) (hn:lo+aR<=a₀.size) (pL:n+1<=aR) (hB:SX a₀ p st) (hs:De (arrOf st) lo (lo+(n+1)))
  (h:∀ m ao,SX a₀ p ao->Fr lo (arrOf ao) (arrOf st)->1<=m->m<=aR->So (arrOf ao) lo (lo+m)->Q (some m) ao):wpS (model prog w) A E s (pB lo n aR) Q st:=by
 unfold pB
 refine wpS_bind (wpS_lift (wpAny_rule ⟨rfl,?_⟩))
 refine wpS_bind (JY h0 hn (by omega) pL hB hs fun m q ao hB' hf Bv vN dD hq he=>?_)
 dsimp only
 have hsz:lo+m<=(arrOf ao).size:=by rw [hB'.size];omega
 by_cases hneq:q > 0
 ·rw [if_pos hneq]
  refine wpS_bind (qe (FZ h0 hn (by omega) vN (hB'.set (mirror_perm _ _ _ _)) ?_ fun m2 st2 b f=>h m2 st2 b (f.trans ((GB hsz (by omega)).trans hf))))
  intro i j hli ez hj
  show K (mirror (arrOf ao) _ _ _) j<=K (mirror (arrOf ao) _ _ _) i
  rw [DY hsz he,DY hsz he]
  exact dD i j hli ez hj
 ·rw [if_neg hneq]
  exact FZ h0 hn (by omega) vN hB' dD fun m2 st2 b f=>h m2 st2 b (f.trans hf)
theorem Jo {lo aR:Nat}{Q:Option Nat->SortSt->Prop} (h0:IntKeys a₀) (hn:lo+aR<=a₀.size) (h1:1<=aR) (hB:SX a₀ p st)
  (h:∀ m ao,SX a₀ p ao->Fr lo (arrOf ao) (arrOf st)->1<=m->m<=aR->So (arrOf ao) lo (lo+m)->Q (some m) ao):wpS (model prog w) A E s (countRun' lo aR) Q st:=by
 rw [Wv]
 refine wpS_bind (FK h0 hn (Zts 1) h1 hB (fun i j hl ez hj=>by rw [show i=j by omega];exact ZtN _) fun n zf ph hsn hor=>?_)
 dsimp only
 by_cases pL:n=aR
 ·rw [if_pos (by simpa using pL)]
  exact wpS_pure (h n st hB (Fr.refl _ _) zf ph hsn)
 ·rw [if_neg (by simpa using pL)]
  have aX:K (arrOf st) (lo+n)<K (arrOf st) (lo+n - 1):=hor.resolve_left pL
  by_cases hgt:n > 1
  ·rw [if_pos hgt]
   refine wpS_bind (Fq hB h0 (by omega) (by omega) ?_)
   by_cases hr:K (arrOf st) lo<K (arrOf st) (lo+n - 1)
   ·simp only [hr,decide_true,if_true]
    exact wpS_pure (h n st hB (Fr.refl _ _) zf ph hsn)
   ·simp only [hr,decide_false,Zt7,if_false]
    have hsz:lo+n<=(arrOf st).size:=by rw [hB.size];omega
    have iJ:∀ k,lo<=k->k<lo+n->K (arrOf st) k=K (arrOf st) (lo+n - 1):=by
     intro k qB hk
     have a1:=hsn lo k (Zts _) qB hk
     have a2:=hsn k (lo+n - 1) qB (by omega) (by omega)
     omega
    refine wpS_bind (qe (rN h0 hn (by omega) (hB.set (mirror_perm _ _ _ _)) ?_ fun m2 st2 b f=>h m2 st2 b (f.trans (GB hsz (Zts _)))))
    intro i j hli ez hj
    show K (mirror (arrOf st) _ _ _) j<=K (mirror (arrOf st) _ _ _) i
    rw [DY hsz iJ,DY hsz iJ]
    by_cases hjn:j<lo+n
    ·rw [iJ i hli (by omega),iJ j (by omega) hjn];exact ZtN _
    ·by_cases hi':i=j
     ·rw [hi'];exact ZtN _
     ·have hj':j=lo+n:=by omega
      subst hj'
      rw [iJ i hli (by omega)];exact ZtS aX
  ·rw [if_neg hgt]
   have hn1':n=1:=by omega
   subst hn1'
   refine rN h0 hn (by omega) hB ?_ h
   intro i j hli ez hj
   by_cases hi':i=j
   ·rw [hi'];exact ZtN _
   ·have zc:j=lo+1:=by omega
    have J0:i=lo+1 - 1:=by omega
    subst zc
    rw [J0]
    exact ZtS aX
end
end SR
namespace SR
open PySem PyProof.Rows
noncomputable def sL:Bool->Keyed->Array Keyed->Nat->Nat->Nat->StateT SortSt Sem (Option Nat):=sortPriv% PySem.Builtin.gallop
noncomputable def Ag (left:Bool) (key:Keyed) (arr:Array Keyed) (base i:Nat):StateT SortSt Sem (Option Bool):=do
 let x <- elem' arr (base+i)
 if left then lt' x key else return (<- lt' key x).map (!·)
theorem wc (left:Bool) (key:Keyed) (arr:Array Keyed) (base n hint:Nat):sL left key arr base n hint=(do
 let mut last:=0
 let mut ofs:=1
 let mut lo:=0
 let mut hi:=0
 let some right <- Ag left key arr base hint | return none
 if right then
  let most:=n - hint
  for _ in [0:n] do
   if ofs ≥ most then break
   let some more <- Ag left key arr base (hint+ofs) | return none
   if !more then break
   last:=ofs
   ofs:=2 * ofs+1
  lo:=hint+last+1
  hi:=hint+min ofs most
 else
  let most:=hint+1
  for _ in [0:n] do
   if ofs ≥ most then break
   let some found <- Ag left key arr base (hint - ofs) | return none
   if found then break
   last:=ofs
   ofs:=2 * ofs+1
  lo:=hint+1 - min ofs most
  hi:=hint - last
 for _ in [0:n] do
  if lo ≥ hi then break
  let m:=lo+(hi - lo) / 2
  let some more <- Ag left key arr base m | return none
  if more then lo:=m+1 else hi:=m
 return some hi):=rfl
section
variable {prog:Program}{w:World}{A:Around}{E:Value->Shared->Prop}{s:Shared}{st:SortSt}
theorem GS {a b:Int}{t u:Tok}{q r:Value}{Q:Option Bool->SortSt->Prop} (hk:kindOf st=oneType') (h:Q (some (decide (a<b))) st):wpS (model prog w) A E s (lt' (.int a t,q) (.int b u,r)) Q st:=by
 rw [lt'_eq]
 refine wpS_bind (wpS_get ?_)
 rw [hk,keyLt'_oneType]
 exact wpS_bind (wpS_lift (wpAny_attempt (oneLt_int ⟨rfl,wpS_pure h⟩)))
theorem jr {arr:Array Keyed}{i:Nat}{x:Keyed}{Q:Keyed->SortSt->Prop} (e:arr[i]? = some x) (h:Q x st):wpS (model prog w) A E s (elem' arr i) Q st:=by
 rw [elem'_eq,e]
 exact wpS_pure h
noncomputable def By (left:Bool) (k:Int) (arr:Array Keyed) (base i:Nat):Prop:=if left then K arr (base+i)<k else K arr (base+i)<=k
instance (left:Bool) (k:Int) (arr:Array Keyed) (base i:Nat):Decidable (By left k arr base i):=by unfold By;infer_instance
theorem oX {left:Bool}{k:Int}{t:Tok}{q:Value}{arr:Array Keyed}{base i:Nat}{Q:Option Bool->SortSt->Prop} (hk:kindOf st=oneType') (h0:IntKeys arr) (hi:base+i<arr.size) (h:Q (some (decide (By left k arr base i))) st) :
  wpS (model prog w) A E s (Ag left (.int k t,q) arr base i) Q st:=by
 obtain ⟨u,r,e⟩:=Gd h0 hi
 unfold Ag
 refine wpS_bind (jr e ?_)
 unfold By at h
 cases left with
 | true=>exact GS hk h
 | false =>
  refine wpS_bind (GS hk (wpS_pure ?_))
  have e2:(some (decide (k<K arr (base+i)))).map (!·)=some (decide (K arr (base+i)<=k)):=by
   show some (!decide (k<K arr (base+i)))=some (decide (K arr (base+i)<=k))
   rw [<- decide_not]
   congr 1
   rw [decide_eq_decide]
   omega
  rw [e2]
  exact h
theorem By.mono {left:Bool}{k:Int}{arr:Array Keyed}{base n i j:Nat} (hs:So arr base (base+n)) (ez:i<=j) (hj:j<n) (h:By left k arr base j):By left k arr base i:=by
 have:=hs (base+i) (base+j) (by omega) (by omega) (by omega)
 unfold By at h ⊢
 cases left <;> simp only [if_true,if_false,Zt7] at h ⊢ <;> omega
theorem mG {left:Bool}{k:Int}{t:Tok}{q:Value}{arr:Array Keyed}{base n hint:Nat}{Q:Option Nat->SortSt->Prop} (hk:kindOf st=oneType') (h0:IntKeys arr) (hn:base+n<=arr.size) (hh:hint<n) (hs:So arr base (base+n))
  (h:∀ m,m<=n->(∀ i,i<m->By left k arr base i)->(∀ i,m<=i->i<n->¬ By left k arr base i)->Q (some m) st):wpS (model prog w) A E s (sL left (.int k t,q) arr base n hint) Q st:=by
 rw [wc]
 refine wpS_bind (oX hk h0 (by omega) ?_)
 dsimp only
 by_cases hB:By left k arr base hint
 ·rw [if_pos (decide_eq_true hB)]
  refine wpS_bind (wpS_mono (wpS_forRange (I:=fun x c ao=>ao=st/\∃ l o,c=(none,l,o)/\x<o/\l<o/\hint+l<n/\By left k arr base (hint+l))
   (Q:=fun c ao=>ao=st/\∃ l o,c=(none,l,o)/\l<o/\hint+l<n/\By left k arr base (hint+l)/\(o ≥ n - hint\/(hint+o<n/\¬ By left k arr base (hint+o)))) ?g1 ?g2 ⟨rfl,0,1,rfl,by omega,by omega,hh,hB⟩) ?g3)
  case g2 =>
   rintro c ao ⟨rfl,l,o,rfl,h1,h2,h3,h4⟩
   exact ⟨rfl,l,o,rfl,h2,h3,h4,.inl (by omega)⟩
  case g1 =>
   rintro x c ao _ hx ⟨rfl,l,o,rfl,h1,h2,h3,h4⟩
   dsimp only
   by_cases hge:o ≥ n - hint
   ·rw [if_pos hge]
    exact wpS_pure ⟨rfl,l,o,rfl,h2,h3,h4,.inl hge⟩
   ·rw [if_neg hge]
    refine wpS_bind (oX hk h0 (by omega) ?_)
    dsimp only
    by_cases hb:By left k arr base (hint+o)
    ·rw [if_neg (by simpa using hb)]
     exact wpS_pure ⟨rfl,o,2 * o+1,rfl,by omega,by omega,by omega,hb⟩
    ·rw [if_pos (by simpa using hb)]
     exact wpS_pure ⟨rfl,l,o,rfl,h2,h3,h4,.inr ⟨by omega,hb⟩⟩
  case g3 =>
   rintro c ao ⟨rfl,l,o,rfl,h2,h3,h4,h5⟩
   dsimp only
   have hA:∀ i,i<hint+l+1->By left k arr base i:=fun i hi=>h4.mono hs (by omega) h3
   have hZ:∀ i,hint+min o (n - hint)<=i->i<n->¬ By left k arr base i:=fun i h6 h7 hc=>by
    rcases h5 with z | ⟨z,nb⟩
    ·omega
    ·exact nb (hc.mono hs (by omega) h7)
   have rE:hint+l+1<=hint+min o (n - hint):=by omega
   have lF:hint+min o (n - hint)<=n:=by omega
   generalize hint+l+1=lo0 at *
   generalize hint+min o (n - hint)=J0 at *
   refine wpS_bind (wpS_mono (wpS_forRange (I:=fun x c st2=>st2=ao/\∃ lo hi,c=(none,lo,hi)/\lo<=hi/\hi<=n/\hi - lo<=n - x/\(∀ i,i<lo->By left k arr base i)/\(∀ i,hi<=i->i<n->¬ By left k arr base i))
    (Q:=fun c st2=>st2=ao/\∃ lo hi,c=(none,lo,hi)/\hi<=n/\(∀ i,i<hi->By left k arr base i)/\(∀ i,hi<=i->i<n->¬ By left k arr base i)) ?b1 ?b2 ⟨rfl,_,_,rfl,by omega,by omega,by omega,hA,hZ⟩) ?b3)
   case b2 =>
    rintro c st2 ⟨rfl,lo,hi,rfl,rE,lF,hd,hA,hZ⟩
    have:lo=hi:=by omega
    subst this
    exact ⟨rfl,lo,lo,rfl,lF,hA,hZ⟩
   case b3 =>
    rintro c st2 ⟨rfl,lo,hi,rfl,lF,hA,hZ⟩
    exact wpS_pure (h hi lF hA hZ)
   case b1 =>
    rintro x c st2 _ hx ⟨rfl,lo,hi,rfl,rE,lF,hd,hA,hZ⟩
    dsimp only
    by_cases hge:lo ≥ hi
    ·rw [if_pos hge]
     have:lo=hi:=by omega
     subst this
     exact wpS_pure ⟨rfl,lo,lo,rfl,lF,hA,hZ⟩
    ·rw [if_neg hge]
     refine wpS_bind (oX hk h0 (by omega) ?_)
     dsimp only
     by_cases hb:By left k arr base (lo+(hi - lo) / 2)
     ·rw [if_pos (decide_eq_true hb)]
      exact wpS_pure ⟨rfl,lo+(hi - lo) / 2+1,hi,rfl,by omega,lF,by omega,fun i hi'=>hb.mono hs (by omega) (by omega),hZ⟩
     ·rw [if_neg (by simpa using hb)]
      exact wpS_pure ⟨rfl,lo,lo+(hi - lo) / 2,rfl,by omega,by omega,by omega,hA,fun i h1 h2 hc=>hb (hc.mono hs h1 h2)⟩
 ·rw [if_neg (by simpa using hB)]
  refine wpS_bind (wpS_mono (wpS_forRange (I:=fun x c ao=>ao=st/\∃ l o,c=(none,l,o)/\x<o/\l<o/\l<=hint/\¬ By left k arr base (hint - l))
   (Q:=fun c ao=>ao=st/\∃ l o,c=(none,l,o)/\l<o/\l<=hint/\¬ By left k arr base (hint - l)/\(o ≥ hint+1\/(o<=hint/\By left k arr base (hint - o)))) ?k1 ?k2 ⟨rfl,0,1,rfl,by omega,by omega,by omega,hB⟩) ?k3)
  case k2 =>
   rintro c ao ⟨rfl,l,o,rfl,h1,h2,h3,h4⟩
   exact ⟨rfl,l,o,rfl,h2,h3,h4,.inl (by omega)⟩
  case k1 =>
   rintro x c ao _ hx ⟨rfl,l,o,rfl,h1,h2,h3,h4⟩
   dsimp only
   by_cases hge:o ≥ hint+1
   ·rw [if_pos hge]
    exact wpS_pure ⟨rfl,l,o,rfl,h2,h3,h4,.inl hge⟩
   ·rw [if_neg hge]
    refine wpS_bind (oX hk h0 (by omega) ?_)
    dsimp only
    by_cases hb:By left k arr base (hint - o)
    ·rw [if_pos (decide_eq_true hb)]
     exact wpS_pure ⟨rfl,l,o,rfl,h2,h3,h4,.inr ⟨by omega,hb⟩⟩
    ·rw [if_neg (by simpa using hb)]
     exact wpS_pure ⟨rfl,o,2 * o+1,rfl,by omega,by omega,by omega,hb⟩
  case k3 =>
   rintro c ao ⟨rfl,l,o,rfl,h2,h3,h4,h5⟩
   dsimp only
   have hA:∀ i,i<hint+1 - min o (hint+1)->By left k arr base i:=fun i hi=>by
    rcases h5 with z | ⟨z,nb⟩
    ·omega
    ·exact nb.mono hs (by omega) (by omega)
   have hZ:∀ i,hint - l<=i->i<n->¬ By left k arr base i:=fun i h6 h7 hc=>h4 (hc.mono hs h6 h7)
   have rE:hint+1 - min o (hint+1)<=hint - l:=by omega
   have lF:hint - l<=n:=by omega
   generalize hint+1 - min o (hint+1)=lo0 at *
   generalize hint - l=J0 at *
   refine wpS_bind (wpS_mono (wpS_forRange (I:=fun x c st2=>st2=ao/\∃ lo hi,c=(none,lo,hi)/\lo<=hi/\hi<=n/\hi - lo<=n - x/\(∀ i,i<lo->By left k arr base i)/\(∀ i,hi<=i->i<n->¬ By left k arr base i))
    (Q:=fun c st2=>st2=ao/\∃ lo hi,c=(none,lo,hi)/\hi<=n/\(∀ i,i<hi->By left k arr base i)/\(∀ i,hi<=i->i<n->¬ By left k arr base i)) ?b1 ?b2 ⟨rfl,_,_,rfl,by omega,by omega,by omega,hA,hZ⟩) ?b3)
   case b2 =>
    rintro c st2 ⟨rfl,lo,hi,rfl,rE,lF,hd,hA,hZ⟩
    have:lo=hi:=by omega
    subst this
    exact ⟨rfl,lo,lo,rfl,lF,hA,hZ⟩
   case b3 =>
    rintro c st2 ⟨rfl,lo,hi,rfl,lF,hA,hZ⟩
    exact wpS_pure (h hi lF hA hZ)
   case b1 =>
    rintro x c st2 _ hx ⟨rfl,lo,hi,rfl,rE,lF,hd,hA,hZ⟩
    dsimp only
    by_cases hge:lo ≥ hi
    ·rw [if_pos hge]
     have:lo=hi:=by omega
     subst this
     exact wpS_pure ⟨rfl,lo,lo,rfl,lF,hA,hZ⟩
    ·rw [if_neg hge]
     refine wpS_bind (oX hk h0 (by omega) ?_)
     dsimp only
     by_cases hb:By left k arr base (lo+(hi - lo) / 2)
     ·rw [if_pos (decide_eq_true hb)]
      exact wpS_pure ⟨rfl,lo+(hi - lo) / 2+1,hi,rfl,by omega,lF,by omega,fun i hi'=>hb.mono hs (by omega) (by omega),hZ⟩
     ·rw [if_neg (by simpa using hb)]
      exact wpS_pure ⟨rfl,lo,lo+(hi - lo) / 2,rfl,by omega,by omega,by omega,hA,fun i h1 h2 hc=>hb (hc.mono hs h1 h2)⟩
end
end SR
namespace SR
open PySem PyProof.Rows
noncomputable def ky (p:Keyed):Int:=numOf p.1
noncomputable def di (xs:List Keyed):Prop:=xs.Pairwise fun x y=>ky x<=ky y
structure Mg (A B out:List Keyed) (ia ib:Nat):Prop where
 perm:out.Perm (A.take ia ++ B.take ib)
 rQ:di out
 low:∀ x∈out,∀ y,y∈A.drop ia\/y∈B.drop ib->ky x<=ky y
theorem di.append {xs ys:List Keyed} (hx:di xs) (hy:di ys) (h:∀ x∈xs,∀ y∈ys,ky x<=ky y):di (xs ++ ys):=List.pairwise_append.mpr ⟨hx,hy,h⟩
theorem di.drop {xs:List Keyed} (h:di xs) (n:Nat):di (xs.drop n):=h.sublist (List.drop_sublist _ _)
theorem di.take {xs:List Keyed} (h:di xs) (n:Nat):di (xs.take n):=h.sublist (List.take_sublist _ _)
theorem di.cut {xs:List Keyed} (h:di xs) (n:Nat):∀ x∈xs.take n,∀ y∈xs.drop n,ky x<=ky y:=by
 have:=h
 rw [<- ZsA n xs] at this
 exact (List.pairwise_append.mp this).2.2
theorem Mg.swap {A B out:List Keyed}{ia ib:Nat} (h:Mg A B out ia ib):Mg B A out ib ia:=⟨h.perm.trans ZsE,h.rQ,fun x hx y hy=>h.low x hx y hy.symm⟩
theorem Mg.lG {A B out:List Keyed}{ia ib k:Nat} (h:Mg A B out ia ib) (hA:di A) (hk:∀ x∈(A.drop ia).take k,∀ y∈B.drop ib,ky x<=ky y):Mg A B (out ++ (A.drop ia).take k) (ia+k) ib:=by
 refine ⟨?_,h.rQ.append ((hA.drop ia).take k) fun x hx y hy=>h.low x hx y (.inl (ZsS hy)),fun x hx y hy=>?_⟩
 ·rw [Zti]
  refine (h.perm.append_right _).trans ?_
  rw [Zsh,Zsh]
  exact Zsn.append_left _ ZsE
 ·rw [<- Ztj] at hy
  rcases Zr3.mp hx with z | z
  ·exact h.low x z y (hy.imp (fun g=>Zta g) id)
  ·rcases hy with g | g
   ·exact (hA.drop ia).cut k x z y g
   ·exact hk x z y g
theorem Mg.yk {A B out:List Keyed}{ia ib k:Nat} (h:Mg A B out ia ib) (hB:di B) (hk:∀ x∈(B.drop ib).take k,∀ y∈A.drop ia,ky x<=ky y):Mg A B (out ++ (B.drop ib).take k) ia (ib+k):=(h.swap.lG hB hk).swap
theorem Mg.mD {A B out:List Keyed}{ia ib:Nat}{x:Keyed} (h:Mg A B out ia ib) (hA:di A) (hx:A[ia]? = some x) (hk:∀ y∈B.drop ib,ky x<=ky y):Mg A B (out ++ [x]) (ia+1) ib:=by
 have e:(A.drop ia).take 1=[x]:=by
  obtain ⟨hi,he⟩:=Zr1.mp hx
  rw [Zs6 hi,he]
  rfl
 rw [<- e]
 exact h.lG hA fun z hz=>by
  rw [e,Zr2] at hz
  rw [hz]
  exact hk
theorem Mg.qG {A B out:List Keyed}{ia ib:Nat}{x:Keyed} (h:Mg A B out ia ib) (hB:di B) (hx:B[ib]? = some x) (hk:∀ y∈A.drop ia,ky x<=ky y):Mg A B (out ++ [x]) ia (ib+1):=(h.swap.mD hB hx hk).swap
theorem Mg.done {A B out:List Keyed}{ia ib:Nat} (h:Mg A B out ia ib) (hA:di A) (hB:di B) (he:A.length<=ia\/B.length<=ib):di (out ++ A.drop ia ++ B.drop ib)/\(out ++ A.drop ia ++ B.drop ib).Perm (A ++ B):=by
 constructor
 ·refine ((h.rQ.append (hA.drop ia) fun x hx y hy=>h.low x hx y (.inl hy)).append (hB.drop ib) fun x hx y hy=>?_)
  rcases Zr3.mp hx with z | z
  ·exact h.low x z y (.inr hy)
  ·rcases he with g | g
   ·rw [ZsT g] at z;simp at z
   ·rw [ZsT g] at hy;simp at hy
 ·have e:(A ++ B).Perm ((A.take ia ++ B.take ib) ++ (A.drop ia ++ B.drop ib)):=by
   conv=>lhs;rw [<- ZsA ia A,<- ZsA ib B]
   simp only [Zsh]
   refine Zsn.append_left _ ?_
   rw [<- Zsh,<- Zsh]
   exact Zsn.append_right _ ZsE;skip
  rw [Zsh]
  exact (h.perm.append_right _).trans e.symm
theorem Mg.last {A B out:List Keyed}{ia ib:Nat} (h:Mg A B out ia ib) (hA:di A) (hB:di B) (hl:∀ x∈B.drop ib,∀ y∈A.drop ia,ky x<=ky y):di (out ++ B.drop ib ++ A.drop ia)/\(out ++ B.drop ib ++ A.drop ia).Perm (A ++ B):=by
 constructor
 ·refine ((h.rQ.append (hB.drop ib) fun x hx y hy=>h.low x hx y (.inr hy)).append (hA.drop ia) fun x hx y hy=>?_)
  rcases Zr3.mp hx with z | z
  ·exact h.low x z y (.inl hy)
  ·exact hl x z y hy
 ·have e:(A ++ B).Perm ((A.take ia ++ B.take ib) ++ (A.drop ia ++ B.drop ib)):=by
   conv=>lhs;rw [<- ZsA ia A,<- ZsA ib B]
   simp only [Zsh]
   refine Zsn.append_left _ ?_
   rw [<- Zsh,<- Zsh]
   exact Zsn.append_right _ ZsE;skip
  rw [Zsh]
  exact ((h.perm.append_right _).trans (Zsn.append_left _ ZsE)).trans e.symm
noncomputable def L6:Array Keyed->Array Keyed->StateT SortSt Sem (Array Keyed):=sortPriv% PySem.Builtin.mergeLo
noncomputable def zQ:Nat->StateT SortSt Sem Unit:=sortPriv% PySem.Builtin.setMinGallop
theorem U3 (g:Nat):zQ g=modify fun s=>SortSt.mk' (kindOf s) (arrOf s) (pendingOf s) g (failedOf s):=rfl
theorem u0 (a b:Array Keyed):L6 a b=(do
 rule "list.sort.merge-lo"
 let t:=a.size+b.size
 let dn (o:Array Keyed) (i j:Nat):=o ++ a.extract i a.size ++ b.extract j b.size
 let la (o:Array Keyed) (i j:Nat):=o ++ b.extract j b.size ++ a.extract i a.size
 let mut o:Array Keyed:=#[<- elem' b 0]
 let mut i:=0
 let mut j:=1
 if j == b.size then return dn o i j
 if i+1 == a.size then return la o i j
 let mut g:=gallopOf (<- get)
 for _ in [0:t] do
  let mut ca:=0
  let mut cb:=0
  for _ in [0:t] do
   let some bw <- lt' (<- elem' b j) (<- elem' a i) | return dn o i j
   if bw then
    o:=o.push (<- elem' b j);j:=j+1;cb:=cb+1;ca:=0
    if j == b.size then return dn o i j
    if cb ≥ g then break
   else
    o:=o.push (<- elem' a i);i:=i+1;ca:=ca+1;cb:=0
    if i+1 == a.size then return la o i j
    if ca ≥ g then break
  rule "list.sort.gallop"
  g:=g+1
  for _ in [0:t] do
   if g > 1 then g:=g - 1
   zQ g
   let some k <- sL false (<- elem' b j) a i (a.size - i) 0 | return dn o i j
   ca:=k
   if k > 0 then
    o:=o ++ a.extract i (i+k);i:=i+k
    if i+1 == a.size then return la o i j
    if i == a.size then return dn o i j
   o:=o.push (<- elem' b j);j:=j+1
   if j == b.size then return dn o i j
   let some k <- sL true (<- elem' a i) b j (b.size - j) 0 | return dn o i j
   cb:=k
   if k > 0 then
    o:=o ++ b.extract j (j+k);j:=j+k
    if j == b.size then return dn o i j
   o:=o.push (<- elem' a i);i:=i+1
   if i+1 == a.size then return la o i j
   if ca<7 && cb<7 then break
  g:=g+1
  zQ g
 unsupported "internal:list.sort.merge-bound"):=rfl
section
variable {prog:Program}{w:World}{A:Around}{E:Value->Shared->Prop}{s:Shared}{st:SortSt}
structure SG (st ao:SortSt):Prop where
 kind:kindOf ao=kindOf st
 arr:arrOf ao=arrOf st
 pend:pendingOf ao=pendingOf st
 fail:failedOf ao=failedOf st
theorem SG.refl (st:SortSt):SG st st:=⟨rfl,rfl,rfl,rfl⟩
theorem SG.trans {a b c:SortSt} (h:SG a b) (g:SG b c):SG a c:=⟨g.kind.trans h.kind,g.arr.trans h.arr,g.pend.trans h.pend,g.fail.trans h.fail⟩
theorem GH {g:Nat}{Q:Unit->SortSt->Prop} (h:∀ ao,SG st ao->Q () ao):wpS (model prog w) A E s (zQ g) Q st:=by
 rw [U3]
 exact wpS_modify (h _ ⟨rfl,rfl,rfl,rfl⟩)
theorem kP {xs:Array Keyed}{i:Nat}{x:Keyed} (h:xs[i]? = some x):K xs i=ky x:=by
 unfold K ky
 rw [h]
theorem nP {xs:Array Keyed} (h0:IntKeys xs) {i:Nat} (hi:i<xs.size):∃ k t q,xs[i]? = some (.int k t,q)/\K xs i=k:=by
 obtain ⟨t,q,e⟩:=Gd h0 hi
 exact ⟨_,t,q,e,rfl⟩
theorem Gm {xs:Array Keyed} (h:di xs.toList) {lo hi:Nat} (hh:hi<=xs.size):So xs lo hi:=fun i j _ ez hj=>by
 have hi':i<xs.toList.length:=by rw [ZtU];omega
 have hj':j<xs.toList.length:=by rw [ZtU];omega
 rw [kP (x:=xs.toList[i]) (by rw [<- ZtT];exact ZrY hi'),kP (x:=xs.toList[j]) (by rw [<- ZtT];exact ZrY hj')]
 rcases Nat.eq_or_lt_of_le ez with e | e
 ·subst e;exact ZtN _
 ·exact ZsU.mp h i j hi' hj' e
theorem HJ {xs:List Keyed}{n:Nat}{y:Keyed} (h:y∈xs.drop n):∃ m,n<=m/\xs[m]? = some y:=by
 obtain ⟨k,hk⟩:=Zsr.mp h
 rw [Zs7] at hk
 exact ⟨n+k,by omega,hk⟩
theorem FO {xs:List Keyed}{n k:Nat}{y:Keyed} (h:y∈(xs.drop n).take k):∃ m,m<k/\xs[n+m]? = some y:=by
 obtain ⟨m,hm⟩:=Zsr.mp h
 rw [ZsV] at hm
 split at hm
 ·rw [Zs7] at hm
  exact ⟨m,by assumption,hm⟩
 ·cases hm
theorem loX {a b:Array Keyed}{Q:Array Keyed->SortSt->Prop} (hk:kindOf st=oneType') (rK:IntKeys a) (rM:IntKeys b) (sA:di a.toList) (sB:di b.toList) (na:0<a.size) (nb:0<b.size)
  (hf:∀ x∈b.toList.take 1,∀ y∈a.toList,ky x<=ky y) (hl:∀ x∈b.toList,∀ y∈a.toList.drop (a.size - 1),ky x<=ky y)
  (h:∀ o ao,SG st ao->di o.toList->o.toList.Perm (a.toList ++ b.toList)->Q o ao):wpS (model prog w) A E s (L6 a b) Q st:=by
 rw [u0]
 refine wpS_bind (wpS_lift (wpAny_rule ⟨rfl,?_⟩))
 obtain ⟨k0,t0,q0,e0,_⟩:=nP rM nb
 refine wpS_bind (jr e0 ?_)
 have eB:b.toList[0]? = some (.int k0 t0,q0):=by rw [<- e0];simp
 have eT:b.toList.take 1=[(.int k0 t0,q0)]:=by
  obtain ⟨hi,he⟩:=Zr1.mp eB
  rw [List.take_one,List.head?_eq_getElem?,eB]
  rfl
 have m0:Mg a.toList b.toList [(.int k0 t0,q0)] 0 1:=by
  refine ⟨by rw [eT];exact Zsn.refl _,Ztp _ _,fun x hx y hy=>?_⟩
  rw [<- eT] at hx
  rcases hy with z | z
  ·exact hf x hx y z
  ·exact sB.cut 1 x hx y z
 have la:∀ {x:Array Keyed}{i:Nat},(x.extract i).toList=x.toList.drop i:=fun {x i}=>by
  rw [ZtX,ZsW]
  exact ZsR (by rw [Ztd,ZtU];exact Zts _)
 have lb:∀ {x:Array Keyed}{i k:Nat},(x.extract i (i+k)).toList=(x.toList.drop i).take k:=fun {x i k}=>by
  rw [ZtX,ZsW,show i+k - i=k by omega]
 have i7:∀ {o:Array Keyed}{i j:Nat}{ao:SortSt},SG st ao->Mg a.toList b.toList o.toList i j->(a.size<=i\/b.size<=j)->Q (o ++ a.extract i ++ b.extract j) ao:=fun {o i j ao} g m e=>by
  have:=m.done sA sB (by simpa using e)
  rw [<- la,<- la,<- ZtV,<- ZtV] at this
  exact h _ ao g this.1 this.2
 have jS:∀ {o:Array Keyed}{i j:Nat}{ao:SortSt},SG st ao->Mg a.toList b.toList o.toList i j->i+1=a.size->Q (o ++ b.extract j ++ a.extract i) ao:=fun {o i j ao} g m e=>by
  have:=m.last sA sB (fun x hx y hy=>hl x (Zta hx) y (by rw [<- e];exact hy))
  rw [<- la,<- la,<- ZtV,<- ZtV] at this
  exact h _ ao g this.1 this.2
 extract_lets o0 i0 j0
 by_cases c1:1=b.size
 ·rw [if_pos (by simpa using c1)]
  exact wpS_pure (i7 (SG.refl _) m0 (.inr (by omega)))
 rw [if_neg (by simpa using c1)]
 by_cases c2:0+1=a.size
 ·rw [if_pos (by simpa using c2)]
  exact wpS_pure (jS (SG.refl _) m0 c2)
 rw [if_neg (by simpa using c2)]
 refine wpS_bind (wpS_get ?_)
 have X4:a.toList.length=a.size:=ZtU
 have UC:b.toList.length=b.size:=ZtU
 refine wpS_bind (wpS_mono (wpS_forRange (I:=fun x c ao=>SG st ao/\∃ o i j g,c=(none,o,i,j,g)/\Mg a.toList b.toList o.toList i j/\i+1<a.size/\j<b.size/\x<i+j)
  (Q:=fun c ao=>∃ r c',c=(some r,c')/\Q r ao) ?o1 ?o2 ⟨SG.refl _,_,_,_,_,rfl,m0,by omega,by omega,by omega⟩) ?o3)
 case o2 =>
  rintro c ao ⟨g,o,i,j,gg,rfl,m,h1,h2,h3⟩
  omega
 case o3 =>
  rintro c ao ⟨r,c',rfl,hq⟩
  exact wpS_pure hq
 case o1 =>
  rintro x c ao _ hx ⟨g1,o,i,j,gg,rfl,m,h1,h2,h3⟩
  have zD:∀ {n:Nat}{y:Keyed},a[n]? = some y->a.toList[n]? = some y:=fun {n y} e=>by rw [ZtT];exact e
  have Ak:∀ {n:Nat}{y:Keyed},b[n]? = some y->b.toList[n]? = some y:=fun {n y} e=>by rw [ZtT];exact e
  have FV:∀ {xs:List Keyed}{n:Nat}{y:Keyed},di xs->xs[n]? = some y->∀ z∈xs.drop n,ky y<=ky z:=fun {xs n y} hs e z hz=>by
   obtain ⟨hn,he⟩:=Zr1.mp e
   rw [Zs6 hn,he] at hz
   have:=hs.drop n
   rw [Zs6 hn,he] at this
   rcases Zr7.mp hz with rfl | hz;skip
   ·exact ZtN _
   ·exact (List.pairwise_cons.mp this).1 z hz
  have kA:∀ {n:Nat}{k:Int}{t:Tok}{q:Value},a[n]? = some (.int k t,q)->∀ z∈a.toList.drop n,k<=ky z:=fun {n k t q} e=>FV sA (zD e)
  have kB:∀ {n:Nat}{k:Int}{t:Tok}{q:Value},b[n]? = some (.int k t,q)->∀ z∈b.toList.drop n,k<=ky z:=fun {n k t q} e=>FV sB (Ak e)
  extract_lets
  refine wpS_bind (wpS_mono (wpS_forRange (I:=fun x c st2=>SG st st2/\∃ o2 i2 j2 ca cb,c=(none,o2,i2,j2,ca,cb)/\Mg a.toList b.toList o2.toList i2 j2/\i2+1<a.size/\j2<b.size/\i+j+x<=i2+j2)
   (Q:=fun c st2=>SG st st2/\((∃ r c',c=(some r,c')/\Q r st2)\/∃ o2 i2 j2 ca cb,c=(none,o2,i2,j2,ca,cb)/\Mg a.toList b.toList o2.toList i2 j2/\i2+1<a.size/\j2<b.size/\i+j+1<=i2+j2)) ?i1 ?i2 ⟨g1,o,i,j,0,0,rfl,m,h1,h2,by omega⟩) ?i3)
  case i2 =>
   rintro c st2 ⟨g2,o2,i2,j2,ca,cb,rfl,m2,p1,p2,p3⟩
   omega
  case i1 =>
   rintro x2 c st2 _ uF ⟨g2,o2,i2,j2,ca,cb,rfl,m2,p1,p2,p3⟩
   dsimp only
   obtain ⟨kb,tb,qb,eb,_⟩:=nP rM p2
   obtain ⟨ka,ta,qa,ea,_⟩:=nP rK (show i2<a.size by omega)
   refine wpS_bind (jr eb (wpS_bind (jr ea (wpS_bind (GS (g2.kind.trans hk) ?_)))))
   dsimp only
   by_cases aX:kb<ka
   ·rw [if_pos (decide_eq_true aX)]
    refine wpS_bind (jr eb ?_)
    have m3:Mg a.toList b.toList (o2.push (.int kb tb,qb)).toList i2 (j2+1):=by
     rw [ZtW]
     exact m2.qG sB (Ak eb) fun y hy=>by
      have:=kA ea y hy
      show kb<=ky y
      omega
    by_cases c3:j2+1=b.size
    ·rw [if_pos (by simpa using c3)]
     exact wpS_pure ⟨g2,.inl ⟨_,_,rfl,i7 g2 m3 (.inr (by omega))⟩⟩
    ·rw [if_neg (by simpa using c3)]
     split
     ·exact wpS_pure ⟨g2,.inr ⟨_,_,_,_,_,rfl,m3,p1,by omega,by omega⟩⟩
     ·exact wpS_pure ⟨g2,_,_,_,_,_,rfl,m3,p1,by omega,by omega⟩
   ·rw [if_neg (by simpa using aX)]
    refine wpS_bind (jr ea ?_)
    have m3:Mg a.toList b.toList (o2.push (.int ka ta,qa)).toList (i2+1) j2:=by
     rw [ZtW]
     exact m2.mD sA (zD ea) fun y hy=>by
      have:=kB eb y hy
      show ka<=ky y
      omega
    by_cases c3:i2+1+1=a.size
    ·rw [if_pos (by simpa using c3)]
     exact wpS_pure ⟨g2,.inl ⟨_,_,rfl,jS g2 m3 c3⟩⟩
    ·rw [if_neg (by simpa using c3)]
     split
     ·exact wpS_pure ⟨g2,.inr ⟨_,_,_,_,_,rfl,m3,by omega,by omega,by omega⟩⟩
     ·exact wpS_pure ⟨g2,_,_,_,_,_,rfl,m3,by omega,by omega,by omega⟩
  case i3 =>
   rintro c st2 ⟨g2,⟨r,c',rfl,hq⟩ | ⟨o2,i2,j2,ca,cb,rfl,m2,p1,p2,p3⟩⟩
   ·exact wpS_pure ⟨r,_,rfl,hq⟩
   ·extract_lets
    refine wpS_bind (wpS_lift (wpAny_rule ⟨rfl,?_⟩))
    extract_lets gz
    refine wpS_bind (wpS_mono (wpS_forRange (I:=fun x c bR=>SG st bR/\∃ o3 i3 j3 g3 ca cb,c=(none,o3,i3,j3,g3,ca,cb)/\Mg a.toList b.toList o3.toList i3 j3/\i3+1<a.size/\j3<b.size/\i2+j2+x<=i3+j3)
     (Q:=fun c bR=>SG st bR/\((∃ r c',c=(some r,c')/\Q r bR)\/∃ o3 i3 j3 g3 ca cb,c=(none,o3,i3,j3,g3,ca,cb)/\Mg a.toList b.toList o3.toList i3 j3/\i3+1<a.size/\j3<b.size/\i2+j2<=i3+j3)) ?j1 ?j2 ⟨g2,o2,i2,j2,_,ca,cb,rfl,m2,p1,p2,by omega⟩) ?j3)
    case j2 =>
     rintro c bR ⟨g3,o3,i3,j3,gg3,ca,cb,rfl,m3,p4,p5,p6⟩
     omega
    case j3 =>
     rintro c bR ⟨g3,⟨r,c',rfl,hq⟩ | ⟨o3,i3,j3,gg3,ca,cb,rfl,m3,p4,p5,p6⟩⟩
     ·exact wpS_pure ⟨r,_,rfl,hq⟩
     ·extract_lets
      exact wpS_bind (GH fun dm g4=>wpS_pure ⟨g3.trans g4,o3,i3,j3,_,rfl,m3,p4,p5,by omega⟩)
    case j1 =>
     rintro x3 c bR _ hx3 ⟨g3,o3,i3,j3,gg3,ca,cb,rfl,m3,p4,p5,p6⟩
     refine wpS_mono (Q:=fun r dm=>SG st dm/\((∃ rr c',r=.done (some rr,c')/\Q rr dm)\/∃ o4 i4 j4 g4 ca4 cb4,(r=.done (none,o4,i4,j4,g4,ca4,cb4)\/r=.yield (none,o4,i4,j4,g4,ca4,cb4))/\Mg a.toList b.toList o4.toList i4 j4/\i4+1<a.size/\j4<b.size/\i2+j2+(x3+1)<=i4+j4)) ?_ ?_
     rotate_left
     ·rintro _ dm ⟨g4,⟨rr,c',rfl,hq⟩ | ⟨o4,i4,j4,gg4,ca4,cb4,rfl | rfl,m4,q1,q2,q3⟩⟩
      ·exact ⟨g4,.inl ⟨rr,c',rfl,hq⟩⟩
      ·exact ⟨g4,.inr ⟨o4,i4,j4,gg4,ca4,cb4,rfl,m4,q1,q2,by omega⟩⟩
      ·exact ⟨g4,o4,i4,j4,gg4,ca4,cb4,rfl,m4,q1,q2,by omega⟩
     extract_lets z1 z2 z3 z4 z5 z6 z7 z8 z9 z10 z11 z12 jp z13
     have sj:∀ u g,wpS (model prog w) A E s (jp u g) (fun r dm=>SG st dm/\((∃ rr c',r=.done (some rr,c')/\Q rr dm)\/∃ o4 i4 j4 g4 ca4 cb4,(r=.done (none,o4,i4,j4,g4,ca4,cb4)\/r=.yield (none,o4,i4,j4,g4,ca4,cb4))/\Mg a.toList b.toList o4.toList i4 j4/\i4+1<a.size/\j4<b.size/\i2+j2+(x3+1)<=i4+j4)) bR:=by
      intro u g
      obtain ⟨kb,tb,qb,eb,_⟩:=nP rM p5
      refine wpS_bind (GH fun dm g4=>?_)
      refine wpS_bind (jr eb ?_)
      have uc:kindOf dm=oneType':=g4.kind.trans (g3.kind.trans hk)
      have hU:=g3.trans g4
      refine wpS_bind (mG uc rK (by show i3+(a.size - i3)<=_;omega) (by show 0<a.size - i3;omega) ?_ fun k qB ni nD=>?_)
      ·exact Gm sA (by show i3+(a.size - i3)<=_;omega)
      have qB:k<=a.size - i3:=qB
      have ni:∀ n,n<k->K a (i3+n)<=kb:=ni
      have nD:∀ n,k<=n->n<a.size - i3->¬ K a (i3+n)<=kb:=nD
      have up:∀ y∈a.toList.drop (i3+k),kb<=ky y:=fun y hy=>by
       obtain ⟨n,hn,e⟩:=HJ hy
       have h8:n<a.size:=by have:=(Zr1.mp e).1;omega
       have:=nD (n - i3) (by omega) (by omega)
       rw [show i3+(n - i3)=n by omega,kP (by rw [<- ZtT];exact e)] at this
       omega
      have dn:∀ x∈(a.toList.drop i3).take k,∀ y∈b.toList.drop j3,ky x<=ky y:=fun x hx y hy=>by
       obtain ⟨n,hn,e⟩:=FO hx
       have h8:=ni n hn
       rw [kP (by rw [<- ZtT];exact e)] at h8
       have:=kB eb y hy
       omega
      dsimp -zeta only
      extract_lets y1 jp2 y3 y4
      have km:∀ u o i,i3<=i->Mg a.toList b.toList o.toList i j3->i+1<a.size->(∀ y∈a.toList.drop i,kb<=ky y)->wpS (model prog w) A E s (jp2 u o i) (fun r dm=>SG st dm/\((∃ rr c',r=.done (some rr,c')/\Q rr dm)\/∃ o4 i4 j4 g4 ca4 cb4,(r=.done (none,o4,i4,j4,g4,ca4,cb4)\/r=.yield (none,o4,i4,j4,g4,ca4,cb4))/\Mg a.toList b.toList o4.toList i4 j4/\i4+1<a.size/\j4<b.size/\i2+j2+(x3+1)<=i4+j4)) dm:=by
       intro u o i hii m4 hi1 hup
       refine wpS_bind (jr eb ?_)
       have m5:Mg a.toList b.toList (o.push (.int kb tb,qb)).toList i (j3+1):=by
        rw [ZtW]
        exact m4.qG sB (Ak eb) hup
       by_cases c3:j3+1=b.size
       ·rw [if_pos (by show (j3+1 == b.size)=true;simpa using c3)]
        exact wpS_pure ⟨hU,.inl ⟨_,_,rfl,i7 (j:=j3+1) hU m5 (.inr (ZtB c3.symm))⟩⟩
       rw [if_neg (by show ¬ (j3+1 == b.size)=true;simpa using c3)]
       obtain ⟨ka,ta,qa,ea,_⟩:=nP rK (show i<a.size by omega)
       refine wpS_bind (jr ea ?_)
       refine wpS_bind (mG uc rM (by show j3+1+(b.size - (j3+1))<=_;omega) (by show 0<b.size - (j3+1);omega) (Gm sB (by show j3+1+(b.size - (j3+1))<=_;omega)) fun k' za pA nS=>?_)
       have za:k'<=b.size - (j3+1):=za
       have pA:∀ n,n<k'->K b (j3+1+n)<ka:=pA
       have nS:∀ n,k'<=n->n<b.size - (j3+1)->¬ K b (j3+1+n)<ka:=nS
       have C2:∀ y∈b.toList.drop (j3+1+k'),ka<=ky y:=fun y hy=>by
        obtain ⟨n,hn,e⟩:=HJ hy
        have h8:n<b.size:=by have:=(Zr1.mp e).1;omega
        have:=nS (n - (j3+1)) (by omega) (by omega)
        rw [show j3+1+(n - (j3+1))=n by omega,kP (by rw [<- ZtT];exact e)] at this
        omega
       have WK:∀ x∈(b.toList.drop (j3+1)).take k',∀ y∈a.toList.drop i,ky x<=ky y:=fun x hx y hy=>by
        obtain ⟨n,hn,e⟩:=FO hx
        have h8:=pA n hn
        rw [kP (by rw [<- ZtT];exact e)] at h8
        have:=kA ea y hy
        omega
       dsimp -zeta only
       extract_lets w1 w2 jp3 w4 w5
       have oI:∀ u o j,j3+1<=j->Mg a.toList b.toList o.toList i j->j<b.size->(∀ y∈b.toList.drop j,ka<=ky y)->wpS (model prog w) A E s (jp3 u o j) (fun r dm=>SG st dm/\((∃ rr c',r=.done (some rr,c')/\Q rr dm)\/∃ o4 i4 j4 g4 ca4 cb4,(r=.done (none,o4,i4,j4,g4,ca4,cb4)\/r=.yield (none,o4,i4,j4,g4,ca4,cb4))/\Mg a.toList b.toList o4.toList i4 j4/\i4+1<a.size/\j4<b.size/\i2+j2+(x3+1)<=i4+j4)) dm:=by
        intro u o j hjj m6 zc hup2
        refine wpS_bind (jr ea ?_)
        have m7:Mg a.toList b.toList (o.push (.int ka ta,qa)).toList (i+1) j:=by
         rw [ZtW]
         exact m6.mD sA (zD ea) hup2
        by_cases c4:i+1+1=a.size
        ·rw [if_pos (by show (i+1+1 == a.size)=true;simpa using c4)]
         exact wpS_pure ⟨hU,.inl ⟨_,_,rfl,jS hU m7 c4⟩⟩
        rw [if_neg (by show ¬ (i+1+1 == a.size)=true;simpa using c4)]
        split
        ·exact wpS_pure ⟨hU,.inr ⟨_,i+1,j,_,_,_,.inl rfl,m7,by omega,zc,by omega⟩⟩
        ·exact wpS_pure ⟨hU,.inr ⟨_,i+1,j,_,_,_,.inr rfl,m7,by omega,zc,by omega⟩⟩
       by_cases c5:k' > 0
       ·rw [if_pos c5]
        have m8:Mg a.toList b.toList (o.push (.int kb tb,qb) ++ b.extract (j3+1) (j3+1+k')).toList i (j3+1+k'):=by
         rw [ZtV,lb]
         exact m5.yk sB WK
        by_cases c6:j3+1+k'=b.size
        ·rw [if_pos (by show (j3+1+k' == b.size)=true;simpa using c6)]
         exact wpS_pure ⟨hU,.inl ⟨_,_,rfl,i7 (j:=j3+1+k') hU m8 (.inr (ZtB c6.symm))⟩⟩
        ·rw [if_neg (by show ¬ (j3+1+k' == b.size)=true;simpa using c6)]
         exact oI () _ (j3+1+k') (by omega) m8 (by omega) C2
       ·rw [if_neg c5]
        have k0:k'=0:=by omega
        rw [k0] at C2
        exact oI () _ (j3+1) (Zts _) m5 (by omega) C2
      by_cases c7:k > 0
      ·rw [if_pos c7]
       have m9:Mg a.toList b.toList (o3 ++ a.extract i3 (i3+k)).toList (i3+k) j3:=by
        rw [ZtV,lb]
        exact m3.lG sA dn
       by_cases c8:i3+k+1=a.size
       ·rw [if_pos (by show (i3+k+1 == a.size)=true;simpa using c8)]
        exact wpS_pure ⟨hU,.inl ⟨_,_,rfl,jS (i:=i3+k) hU m9 c8⟩⟩
       rw [if_neg (by show ¬ (i3+k+1 == a.size)=true;simpa using c8)]
       by_cases c9:i3+k=a.size
       ·rw [if_pos (by show (i3+k == a.size)=true;simpa using c9)]
        exact wpS_pure ⟨hU,.inl ⟨_,_,rfl,i7 (i:=i3+k) hU m9 (.inl (ZtB c9.symm))⟩⟩
       rw [if_neg (by show ¬ (i3+k == a.size)=true;simpa using c9)]
       exact km () _ (i3+k) (by omega) m9 (by omega) up
      ·rw [if_neg c7]
       have k0:k=0:=by omega
       rw [k0] at up
       exact km () _ i3 (Zts _) m3 p4 up
     split
     ·exact sj () _
     ·exact sj () _
end
end SR
namespace SR
open PySem PyProof.Rows
structure Mh (A B out:List Keyed) (na nb:Nat):Prop where
 perm:out.Perm (A.drop na ++ B.drop nb)
 rQ:di out.reverse
 high:∀ x∈out,∀ y,y∈A.take na\/y∈B.take nb->ky y<=ky x
theorem Mh.swap {A B out:List Keyed}{na nb:Nat} (h:Mh A B out na nb):Mh B A out nb na:=⟨h.perm.trans ZsE,h.rQ,fun x hx y hy=>h.high x hx y hy.symm⟩
theorem Mh.lG {A B out:List Keyed}{na nb m:Nat} (h:Mh A B out na nb) (hA:di A) (hm:m<=na) (hk:∀ x∈(A.take na).drop m,∀ y∈B.take nb,ky y<=ky x):Mh A B (out ++ ((A.take na).drop m).reverse) m nb:=by
 have e:A.drop m=(A.take na).drop m ++ A.drop na:=by
  conv=>lhs;rw [<- ZsA na A]
  rw [List.drop_append]
  rcases Ztt A.length na with z | z
  ·rw [ZsT (show A.length<=na by omega),List.drop_nil]
  ·rw [Zsq,ZtE z,show m - na=0 by omega,List.drop_zero]
 refine ⟨?_,?_,fun x hx y hy=>?_⟩
 ·rw [e,Zsh]
  refine (ZsE).trans ?_
  exact ((List.reverse_perm _).append h.perm)
 ·rw [List.reverse_append,List.reverse_reverse]
  refine di.append ((hA.take na).drop m) h.rQ fun x hx y hy=>?_
  exact h.high y (Ztk.mp hy) x (.inl (Zta hx))
 ·rcases Zr3.mp hx with z | z
  ·refine h.high x z y (hy.imp (fun g=>?_) id)
   have e2:A.take m=(A.take na).take m:=by rw [Ztl,ZtE hm]
   rw [e2] at g
   exact ZsS g
  ·rw [Ztk] at z
   rcases hy with g | g
   ·have e2:A.take m=(A.take na).take m:=by rw [Ztl,ZtE hm]
    rw [e2] at g
    exact (hA.take na).cut m y g x z
   ·exact hk x z y g
theorem Mh.yk {A B out:List Keyed}{na nb m:Nat} (h:Mh A B out na nb) (hB:di B) (hm:m<=nb) (hk:∀ x∈(B.take nb).drop m,∀ y∈A.take na,ky y<=ky x):Mh A B (out ++ ((B.take nb).drop m).reverse) na m:=(h.swap.lG hB hm hk).swap
theorem Mh.mD {A B out:List Keyed}{na nb:Nat}{x:Keyed} (h:Mh A B out (na+1) nb) (hA:di A) (hx:A[na]? = some x) (hk:∀ y∈B.take nb,ky y<=ky x):Mh A B (out ++ [x]) na nb:=by
 have e:(A.take (na+1)).drop na=[x]:=by
  obtain ⟨hi,he⟩:=Zr1.mp hx
  rw [List.take_succ,hx,List.drop_append,ZsT (by rw [Zsq];omega),Zsq,ZtE (by omega),Zty]
  rfl
 have:=h.lG (m:=na) hA (by omega) fun z hz=>by
  rw [e,Zr2] at hz
  rw [hz]
  exact hk
 rwa [e] at this
theorem Mh.qG {A B out:List Keyed}{na nb:Nat}{x:Keyed} (h:Mh A B out na (nb+1)) (hB:di B) (hx:B[nb]? = some x) (hk:∀ y∈A.take na,ky y<=ky x):Mh A B (out ++ [x]) na nb:=(h.swap.mD hB hx hk).swap
theorem Mh.fin {A B out:List Keyed}{na nb:Nat} (h:Mh A B out na nb) (hA:di A) (hB:di B) (hl:∀ x∈A.take na,∀ y∈B.take nb,ky x<=ky y):di (A.take na ++ B.take nb ++ out.reverse)/\(A.take na ++ B.take nb ++ out.reverse).Perm (A ++ B):=by
 constructor
 ·refine ((hA.take na).append (hB.take nb) hl).append h.rQ fun x hx y hy=>?_
  exact h.high y (Ztk.mp hy) x (Zr3.mp hx)
 ·have e:(A ++ B).Perm ((A.take na ++ B.take nb) ++ (A.drop na ++ B.drop nb)):=by
   conv=>lhs;rw [<- ZsA na A,<- ZsA nb B]
   simp only [Zsh]
   refine Zsn.append_left _ ?_
   rw [<- Zsh,<- Zsh]
   exact Zsn.append_right _ ZsE;skip
  exact (Zsn.append_left _ ((List.reverse_perm _).trans h.perm)).trans e.symm
noncomputable def Jl:Array Keyed->Array Keyed->StateT SortSt Sem (Array Keyed):=sortPriv% PySem.Builtin.mergeHi
theorem yu (a b:Array Keyed):Jl a b=(do
 rule "list.sort.merge-hi"
 let t:=a.size+b.size
 let dn (o:Array Keyed) (i j:Nat):=a.extract 0 i ++ b.extract 0 j ++ o.reverse
 let fb (o:Array Keyed) (i j:Nat):=b.extract 0 j ++ a.extract 0 i ++ o.reverse
 let mut i:=a.size - 1
 let mut j:=b.size
 let mut o:Array Keyed:=#[<- elem' a i]
 if i == 0 then return dn o i j
 if j == 1 then return fb o i j
 let mut g:=gallopOf (<- get)
 for _ in [0:t] do
  let mut ca:=0
  let mut cb:=0
  for _ in [0:t] do
   let some aw <- lt' (<- elem' b (j - 1)) (<- elem' a (i - 1)) | return dn o i j
   if aw then
    i:=i - 1;o:=o.push (<- elem' a i);ca:=ca+1;cb:=0
    if i == 0 then return dn o i j
    if ca ≥ g then break
   else
    j:=j - 1;o:=o.push (<- elem' b j);cb:=cb+1;ca:=0
    if j == 1 then return fb o i j
    if cb ≥ g then break
  rule "list.sort.gallop"
  g:=g+1
  for _ in [0:t] do
   if g > 1 then g:=g - 1
   zQ g
   let some m <- sL false (<- elem' b (j - 1)) a 0 i (i - 1) | return dn o i j
   let k:=i - m
   ca:=k
   if k > 0 then
    o:=o ++ (a.extract m i).reverse;i:=m
    if i == 0 then return dn o i j
   j:=j - 1;o:=o.push (<- elem' b j)
   if j == 1 then return fb o i j
   let some m <- sL true (<- elem' a (i - 1)) b 0 j (j - 1) | return dn o i j
   let k:=j - m
   cb:=k
   if k > 0 then
    o:=o ++ (b.extract m j).reverse;j:=m
    if j == 1 then return fb o i j
    if j == 0 then return dn o i j
   i:=i - 1;o:=o.push (<- elem' a i)
   if i == 0 then return dn o i j
   if ca<7 && cb<7 then break
  g:=g+1
  zQ g
 unsupported "internal:list.sort.merge-bound"):=rfl
section
variable {prog:Program}{w:World}{A:Around}{E:Value->Shared->Prop}{s:Shared}{st:SortSt}
theorem QN {xs:List Keyed}{n:Nat}{y:Keyed} (h:y∈xs.take n):∃ m,m<n/\xs[m]? = some y:=by
 obtain ⟨m,hm⟩:=Zsr.mp h
 rw [ZsV] at hm
 split at hm
 ·exact ⟨m,by assumption,hm⟩
 ·cases hm
theorem PJ {xs:List Keyed}{n m:Nat}{y:Keyed} (h:y∈(xs.take n).drop m):∃ k,m<=k/\k<n/\xs[k]? = some y:=by
 obtain ⟨k,hk,e⟩:=HJ h
 rw [ZsV] at e
 split at e
 ·exact ⟨k,hk,by assumption,e⟩
 ·cases e
theorem U8 {a b:Array Keyed}{Q:Array Keyed->SortSt->Prop} (hk:kindOf st=oneType') (rK:IntKeys a) (rM:IntKeys b) (sA:di a.toList) (sB:di b.toList) (na:0<a.size) (nb:0<b.size)
  (hf:∀ x∈b.toList.take 1,∀ y∈a.toList,ky x<=ky y) (hl:∀ x∈b.toList,∀ y∈a.toList.drop (a.size - 1),ky x<=ky y)
  (h:∀ o ao,SG st ao->di o.toList->o.toList.Perm (a.toList ++ b.toList)->Q o ao):wpS (model prog w) A E s (Jl a b) Q st:=by
 rw [yu]
 refine wpS_bind (wpS_lift (wpAny_rule ⟨rfl,?_⟩))
 obtain ⟨k0,t0,q0,e0,_⟩:=nP rK (show a.size - 1<a.size by omega)
 extract_lets
 refine wpS_bind (jr e0 ?_)
 have X4:a.toList.length=a.size:=ZtU
 have UC:b.toList.length=b.size:=ZtU
 have eT:a.toList.drop (a.size - 1)=[(.int k0 t0,q0)]:=by
  have e1:a.toList[a.size - 1]? = some (.int k0 t0,q0):=by rw [ZtT];exact e0
  obtain ⟨hi,he⟩:=Zr1.mp e1
  rw [Zs6 hi,he,ZsT (by omega)]
 have m0:Mh a.toList b.toList [(.int k0 t0,q0)] (a.size - 1) b.size:=by
  refine ⟨by rw [eT,ZsT (by omega),Zsz],Ztp _ _,fun x hx y hy=>?_⟩
  rw [<- eT] at hx
  rcases hy with z | z
  ·exact sA.cut _ y z x hx
  ·exact hl y (ZsS z) x hx
 have la:∀ {x:Array Keyed}{i:Nat},(x.extract 0 i).toList=x.toList.take i:=fun {x i}=>by
  rw [ZtX,ZsW]
  rfl
 have lb:∀ {x:Array Keyed}{i k:Nat},((x.extract i k).reverse).toList=((x.toList.take k).drop i).reverse:=fun {x i k}=>by
  rw [Zt2,ZtX,ZsW,List.drop_take]
 have i7:∀ {o:Array Keyed}{i j:Nat}{ao:SortSt},SG st ao->Mh a.toList b.toList o.toList i j->(i=0\/j=0)->Q (a.extract 0 i ++ b.extract 0 j ++ o.reverse) ao:=fun {o i j ao} g m e=>by
  have:=m.fin sA sB (fun x hx y hy=>by
   rcases e with rfl | rfl
   ·simp at hx
   ·simp at hy)
  rw [<- la,<- la,<- ZtV,<- Zt2,<- ZtV] at this
  exact h _ ao g this.1 this.2
 have jS:∀ {o:Array Keyed}{i j:Nat}{ao:SortSt},SG st ao->Mh a.toList b.toList o.toList i j->j=1->Q (b.extract 0 j ++ a.extract 0 i ++ o.reverse) ao:=fun {o i j ao} g m e=>by
  have:=m.swap.fin sB sA (fun x hx y hy=>hf x (by rw [<- e];exact hx) y (ZsS hy))
  rw [<- la,<- la,<- ZtV,<- Zt2,<- ZtV] at this
  exact h _ ao g this.1 (this.2.trans ZsE)
 extract_lets
 by_cases c1:a.size - 1=0
 ·rw [if_pos (by show (a.size - 1 == 0)=true;simpa using c1)]
  exact wpS_pure (i7 (SG.refl _) m0 (.inl c1))
 rw [if_neg (by show ¬ (a.size - 1 == 0)=true;simpa using c1)]
 by_cases c2:b.size=1
 ·rw [if_pos (by show (b.size == 1)=true;simpa using c2)]
  exact wpS_pure (jS (SG.refl _) m0 c2)
 rw [if_neg (by show ¬ (b.size == 1)=true;simpa using c2)]
 refine wpS_bind (wpS_get ?_)
 extract_lets
 refine wpS_bind (wpS_mono (wpS_forRange (I:=fun x c ao=>SG st ao/\∃ o i j g,c=(none,i,j,o,g)/\Mh a.toList b.toList o.toList i j/\1<=i/\2<=j/\i<=a.size/\j<=b.size/\x+i+j<a.size+b.size)
  (Q:=fun c ao=>∃ r c',c=(some r,c')/\Q r ao) ?o1 ?o2 ⟨SG.refl _,#[(.int k0 t0,q0)],a.size - 1,b.size,_,rfl,m0,by omega,by omega,by omega,by omega,by omega⟩) ?o3)
 case o2 =>
  rintro c ao ⟨g,o,i,j,gg,rfl,m,h1,h2,h3,h4,h5⟩
  omega
 case o3 =>
  rintro c ao ⟨r,c',rfl,hq⟩
  exact wpS_pure hq
 case o1 =>
  rintro x c ao _ hx ⟨g1,o,i,j,gg,rfl,m,h1,h2,h3,h4,h5⟩
  have zD:∀ {n:Nat}{y:Keyed},a[n]? = some y->a.toList[n]? = some y:=fun {n y} e=>by rw [ZtT];exact e
  have Ak:∀ {n:Nat}{y:Keyed},b[n]? = some y->b.toList[n]? = some y:=fun {n y} e=>by rw [ZtT];exact e
  have Dp:∀ {xs:List Keyed}{n:Nat}{y:Keyed},di xs->xs[n]? = some y->∀ z∈xs.take (n+1),ky z<=ky y:=fun {xs n y} hs e z hz=>by
   rw [List.take_succ,e] at hz
   rcases Zr3.mp hz with g | g
   ·obtain ⟨hn,he⟩:=Zr1.mp e
    exact hs.cut n z g y (by rw [Zs6 hn,he];exact Zsl ..)
   ·have:z=y:=by simpa using g
    rw [this];exact ZtN _
  have kA:∀ {n:Nat}{k:Int}{t:Tok}{q:Value},1<=n->a[n - 1]? = some (.int k t,q)->∀ z∈a.toList.take n,ky z<=k:=fun {n k t q} h1 e z hz=>Dp sA (zD e) z (by rw [show n - 1+1=n by omega];exact hz)
  have kB:∀ {n:Nat}{k:Int}{t:Tok}{q:Value},1<=n->b[n - 1]? = some (.int k t,q)->∀ z∈b.toList.take n,ky z<=k:=fun {n k t q} h1 e z hz=>Dp sB (Ak e) z (by rw [show n - 1+1=n by omega];exact hz)
  have oA:∀ {o:Array Keyed}{i j:Nat}{x:Keyed},1<=i->Mh a.toList b.toList o.toList i j->a[i - 1]? = some x->(∀ y∈b.toList.take j,ky y<=ky x)->Mh a.toList b.toList (o.push x).toList (i - 1) j:=fun {o i j x} h1 m e hy=>by
   rw [ZtW]
   exact Mh.mD (by rw [show i - 1+1=i by omega];exact m) sA (zD e) hy
  have oB:∀ {o:Array Keyed}{i j:Nat}{x:Keyed},1<=j->Mh a.toList b.toList o.toList i j->b[j - 1]? = some x->(∀ y∈a.toList.take i,ky y<=ky x)->Mh a.toList b.toList (o.push x).toList i (j - 1):=fun {o i j x} h1 m e hy=>by
   rw [ZtW]
   exact Mh.qG (by rw [show j - 1+1=j by omega];exact m) sB (Ak e) hy
  extract_lets
  refine wpS_bind (wpS_mono (wpS_forRange (I:=fun x c st2=>SG st st2/\∃ o2 i2 j2 ca cb,c=(none,i2,j2,o2,ca,cb)/\Mh a.toList b.toList o2.toList i2 j2/\1<=i2/\2<=j2/\i2<=a.size/\j2<=b.size/\x+i2+j2<=i+j)
   (Q:=fun c st2=>SG st st2/\((∃ r c',c=(some r,c')/\Q r st2)\/∃ o2 i2 j2 ca cb,c=(none,i2,j2,o2,ca,cb)/\Mh a.toList b.toList o2.toList i2 j2/\1<=i2/\2<=j2/\i2<=a.size/\j2<=b.size/\1+i2+j2<=i+j)) ?i1 ?i2 ⟨g1,o,i,j,0,0,rfl,m,h1,h2,h3,h4,by omega⟩) ?i3)
  case i2 =>
   rintro c st2 ⟨g2,o2,i2,j2,ca,cb,rfl,m2,p1,p2,p3,p4,p5⟩
   have p5:a.size+b.size+i2+j2<=i+j:=p5
   omega
  case i1 =>
   rintro x2 c st2 _ uF ⟨g2,o2,i2,j2,ca,cb,rfl,m2,p1,p2,p3,p4,p5⟩
   dsimp only
   obtain ⟨kb,tb,qb,eb,_⟩:=nP rM (show j2 - 1<b.size by omega)
   obtain ⟨ka,ta,qa,ea,_⟩:=nP rK (show i2 - 1<a.size by omega)
   refine wpS_bind (jr eb (wpS_bind (jr ea (wpS_bind (GS (g2.kind.trans hk) ?_)))))
   dsimp only
   by_cases aX:kb<ka
   ·rw [if_pos (decide_eq_true aX)]
    refine wpS_bind (jr ea ?_)
    have m3:=oA p1 m2 ea fun y hy=>by
     have:=kB (by omega) eb y hy
     show ky y<=ka
     omega
    by_cases c3:i2 - 1=0
    ·rw [if_pos (by simpa using c3)]
     exact wpS_pure ⟨g2,.inl ⟨_,_,rfl,i7 g2 m3 (.inl c3)⟩⟩
    ·rw [if_neg (by simpa using c3)]
     split
     ·exact wpS_pure ⟨g2,.inr ⟨_,_,_,_,_,rfl,m3,by omega,by omega,by omega,by omega,by omega⟩⟩
     ·exact wpS_pure ⟨g2,_,_,_,_,_,rfl,m3,by omega,by omega,by omega,by omega,by omega⟩
   ·rw [if_neg (by simpa using aX)]
    refine wpS_bind (jr eb ?_)
    have m3:=oB (by omega) m2 eb fun y hy=>by
     have:=kA p1 ea y hy
     show ky y<=kb
     omega
    by_cases c3:j2 - 1=1
    ·rw [if_pos (by simpa using c3)]
     exact wpS_pure ⟨g2,.inl ⟨_,_,rfl,jS g2 m3 c3⟩⟩
    ·rw [if_neg (by simpa using c3)]
     split
     ·exact wpS_pure ⟨g2,.inr ⟨_,_,_,_,_,rfl,m3,by omega,by omega,by omega,by omega,by omega⟩⟩
     ·exact wpS_pure ⟨g2,_,_,_,_,_,rfl,m3,by omega,by omega,by omega,by omega,by omega⟩
  case i3 =>
   rintro c st2 ⟨g2,⟨r,c',rfl,hq⟩ | ⟨o2,i2,j2,ca,cb,rfl,m2,p1,p2,p3,p4,p5⟩⟩
   ·exact wpS_pure ⟨r,_,rfl,hq⟩
   ·extract_lets
    refine wpS_bind (wpS_lift (wpAny_rule ⟨rfl,?_⟩))
    extract_lets gz
    refine wpS_bind (wpS_mono (wpS_forRange (I:=fun x c bR=>SG st bR/\∃ o3 i3 j3 g3 ca cb,c=(none,i3,j3,o3,g3,ca,cb)/\Mh a.toList b.toList o3.toList i3 j3/\1<=i3/\2<=j3/\i3<=a.size/\j3<=b.size/\x+i3+j3<=i2+j2)
     (Q:=fun c bR=>SG st bR/\((∃ r c',c=(some r,c')/\Q r bR)\/∃ o3 i3 j3 g3 ca cb,c=(none,i3,j3,o3,g3,ca,cb)/\Mh a.toList b.toList o3.toList i3 j3/\1<=i3/\2<=j3/\i3<=a.size/\j3<=b.size/\i3+j3<=i2+j2)) ?j1 ?j2 ⟨g2,o2,i2,j2,_,ca,cb,rfl,m2,p1,p2,p3,p4,by omega⟩) ?j3)
    case j2 =>
     rintro c bR ⟨g3,o3,i3,j3,gg3,ca,cb,rfl,m3,r1,r2,r3,r4,r5⟩
     have r5:a.size+b.size+i3+j3<=i2+j2:=r5
     omega
    case j3 =>
     rintro c bR ⟨g3,⟨r,c',rfl,hq⟩ | ⟨o3,i3,j3,gg3,ca,cb,rfl,m3,r1,r2,r3,r4,r5⟩⟩
     ·exact wpS_pure ⟨r,_,rfl,hq⟩
     ·extract_lets
      exact wpS_bind (GH fun dm g4=>wpS_pure ⟨g3.trans g4,o3,i3,j3,_,rfl,m3,r1,r2,r3,r4,by omega⟩)
    case j1 =>
     rintro x3 c bR _ hx3 ⟨g3,o3,i3,j3,gg3,ca,cb,rfl,m3,r1,r2,r3,r4,r5⟩
     refine wpS_mono (Q:=(fun r dm=>SG st dm/\((∃ rr c',r=.done (some rr,c')/\Q rr dm)\/∃ o4 i4 j4 g4 ca4 cb4,(r=.done (none,i4,j4,o4,g4,ca4,cb4)\/r=.yield (none,i4,j4,o4,g4,ca4,cb4))/\Mh a.toList b.toList o4.toList i4 j4/\1<=i4/\2<=j4/\i4<=a.size/\j4<=b.size/\x3+1+i4+j4<=i2+j2))) ?_ ?_
     rotate_left
     ·rintro _ dm ⟨g4,⟨rr,c',rfl,hq⟩ | ⟨o4,i4,j4,gg4,ca4,cb4,rfl | rfl,m4,q1,q2,q3,q4,q5⟩⟩
      ·exact ⟨g4,.inl ⟨rr,c',rfl,hq⟩⟩
      ·exact ⟨g4,.inr ⟨o4,i4,j4,gg4,ca4,cb4,rfl,m4,q1,q2,q3,q4,by omega⟩⟩
      ·exact ⟨g4,o4,i4,j4,gg4,ca4,cb4,rfl,m4,q1,q2,q3,q4,by omega⟩
     extract_lets z1 z2 z3 z4 z5 z6 z7 z8 z9 z10 z11 z12 jp z13
     have sj:∀ u g,wpS (model prog w) A E s (jp u g) (fun r dm=>SG st dm/\((∃ rr c',r=.done (some rr,c')/\Q rr dm)\/∃ o4 i4 j4 g4 ca4 cb4,(r=.done (none,i4,j4,o4,g4,ca4,cb4)\/r=.yield (none,i4,j4,o4,g4,ca4,cb4))/\Mh a.toList b.toList o4.toList i4 j4/\1<=i4/\2<=j4/\i4<=a.size/\j4<=b.size/\x3+1+i4+j4<=i2+j2)) bR:=by
      intro u g
      obtain ⟨kb,tb,qb,eb,_⟩:=nP rM (show j3 - 1<b.size by omega)
      refine wpS_bind (GH fun dm g4=>?_)
      refine wpS_bind (jr eb ?_)
      have uc:kindOf dm=oneType':=g4.kind.trans (g3.kind.trans hk)
      have hU:=g3.trans g4
      refine wpS_bind (mG uc rK (by show 0+i3<=_;omega) (by show i3 - 1<i3;omega) (Gm sA (by show 0+i3<=_;omega)) fun k qB ni nD=>?_)
      have qB:k<=i3:=qB
      have ni:∀ n,n<k->K a (0+n)<=kb:=ni
      have nD:∀ n,k<=n->n<i3->¬ K a (0+n)<=kb:=nD
      have uv:∀ y∈a.toList.take k,ky y<=kb:=fun y hy=>by
       obtain ⟨n,hn,e⟩:=QN hy
       have:=ni n hn
       rwa [ZtG,kP (by rw [<- ZtT];exact e)] at this
      have V6:∀ x∈(a.toList.take i3).drop k,∀ y∈b.toList.take j3,ky y<=ky x:=fun x hx y hy=>by
       obtain ⟨n,zf,ph,e⟩:=PJ hx
       have:=nD n zf ph
       rw [ZtG,kP (by rw [<- ZtT];exact e)] at this
       have:=kB (by omega) eb y hy
       omega
      dsimp -zeta only
      extract_lets y1 y2 jp2 y3
      have km:∀ u i o,i<=i3->1<=i->Mh a.toList b.toList o.toList i j3->(∀ y∈a.toList.take i,ky y<=kb)->wpS (model prog w) A E s (jp2 u i o) (fun r dm=>SG st dm/\((∃ rr c',r=.done (some rr,c')/\Q rr dm)\/∃ o4 i4 j4 g4 ca4 cb4,(r=.done (none,i4,j4,o4,g4,ca4,cb4)\/r=.yield (none,i4,j4,o4,g4,ca4,cb4))/\Mh a.toList b.toList o4.toList i4 j4/\1<=i4/\2<=j4/\i4<=a.size/\j4<=b.size/\x3+1+i4+j4<=i2+j2)) dm:=by
       intro u i o hii hi1 m4 fj
       refine wpS_bind (jr eb ?_)
       have m5:=oB (by omega) m4 eb fj
       by_cases c3:j3 - 1=1
       ·rw [if_pos (by show (j3 - 1 == 1)=true;simpa using c3)]
        exact wpS_pure ⟨hU,.inl ⟨_,_,rfl,jS (j:=j3 - 1) hU m5 c3⟩⟩
       rw [if_neg (by show ¬ (j3 - 1 == 1)=true;simpa using c3)]
       obtain ⟨ka,ta,qa,ea,_⟩:=nP rK (show i - 1<a.size by omega)
       refine wpS_bind (jr ea ?_)
       refine wpS_bind (mG uc rM (by show 0+(j3 - 1)<=_;omega) (by show j3 - 1 - 1<j3 - 1;omega) (Gm sB (by show 0+(j3 - 1)<=_;omega)) fun k' za pA nS=>?_)
       have za:k'<=j3 - 1:=za
       have pA:∀ n,n<k'->K b (0+n)<ka:=pA
       have nS:∀ n,k'<=n->n<j3 - 1->¬ K b (0+n)<ka:=nS
       have xX:∀ y∈b.toList.take k',ky y<=ka:=fun y hy=>by
        obtain ⟨n,hn,e⟩:=QN hy
        have:=pA n hn
        rw [ZtG,kP (by rw [<- ZtT];exact e)] at this
        omega
       have C2:∀ x∈(b.toList.take (j3 - 1)).drop k',∀ y∈a.toList.take i,ky y<=ky x:=fun x hx y hy=>by
        obtain ⟨n,zf,ph,e⟩:=PJ hx
        have:=nS n zf ph
        rw [ZtG,kP (by rw [<- ZtT];exact e)] at this
        have:=kA hi1 ea y hy
        omega
       dsimp -zeta only
       extract_lets w1 w2 w3 jp3 w5 w6
       have oI:∀ u j o,j<=j3 - 1->2<=j->Mh a.toList b.toList o.toList i j->(∀ y∈b.toList.take j,ky y<=ka)->wpS (model prog w) A E s (jp3 u j o) (fun r dm=>SG st dm/\((∃ rr c',r=.done (some rr,c')/\Q rr dm)\/∃ o4 i4 j4 g4 ca4 cb4,(r=.done (none,i4,j4,o4,g4,ca4,cb4)\/r=.yield (none,i4,j4,o4,g4,ca4,cb4))/\Mh a.toList b.toList o4.toList i4 j4/\1<=i4/\2<=j4/\i4<=a.size/\j4<=b.size/\x3+1+i4+j4<=i2+j2)) dm:=by
        intro u j o hjj hj2 m6 hlo2
        refine wpS_bind (jr ea ?_)
        have m7:=oA hi1 m6 ea hlo2
        by_cases c4:i - 1=0
        ·rw [if_pos (by show (i - 1 == 0)=true;simpa using c4)]
         exact wpS_pure ⟨hU,.inl ⟨_,_,rfl,i7 (i:=i - 1) hU m7 (.inl c4)⟩⟩
        rw [if_neg (by show ¬ (i - 1 == 0)=true;simpa using c4)]
        split
        ·exact wpS_pure ⟨hU,.inr ⟨_,i - 1,j,_,_,_,.inl rfl,m7,by omega,by omega,by omega,by omega,by omega⟩⟩
        ·exact wpS_pure ⟨hU,.inr ⟨_,i - 1,j,_,_,_,.inr rfl,m7,by omega,by omega,by omega,by omega,by omega⟩⟩
       by_cases c5:j3 - 1 - k' > 0
       ·rw [if_pos c5]
        have m8:Mh a.toList b.toList (o.push (.int kb tb,qb) ++ (b.extract k' (j3 - 1)).reverse).toList i k':=by
         rw [ZtV,lb]
         exact m5.yk sB (by omega) C2
        by_cases c6:k'=1
        ·rw [if_pos (by show (k' == 1)=true;simpa using c6)]
         exact wpS_pure ⟨hU,.inl ⟨_,_,rfl,jS (j:=k') hU m8 c6⟩⟩
        rw [if_neg (by show ¬ (k' == 1)=true;simpa using c6)]
        by_cases c7:k'=0
        ·rw [if_pos (by show (k' == 0)=true;simpa using c7)]
         exact wpS_pure ⟨hU,.inl ⟨_,_,rfl,i7 (j:=k') hU m8 (.inr c7)⟩⟩
        rw [if_neg (by show ¬ (k' == 0)=true;simpa using c7)]
        exact oI () k' _ (by omega) (by omega) m8 xX
       ·rw [if_neg c5]
        have k0:k'=j3 - 1:=by omega
        rw [k0] at xX
        exact oI () (j3 - 1) _ (Zts _) (by omega) m5 xX
      by_cases c7:i3 - k > 0
      ·rw [if_pos c7]
       have m9:Mh a.toList b.toList (o3 ++ (a.extract k i3).reverse).toList k j3:=by
        rw [ZtV,lb]
        exact m3.lG sA (by omega) V6
       by_cases c8:k=0
       ·rw [if_pos (by show (k == 0)=true;simpa using c8)]
        exact wpS_pure ⟨hU,.inl ⟨_,_,rfl,i7 (i:=k) hU m9 (.inl c8)⟩⟩
       rw [if_neg (by show ¬ (k == 0)=true;simpa using c8)]
       exact km () k _ (by omega) (by omega) m9 uv
      ·rw [if_neg c7]
       have k0:k=i3:=by omega
       rw [k0] at uv
       exact km () i3 _ (Zts _) r1 m3 uv
     split
     ·exact sj () _
     ·exact sj () _
end
end SR
namespace SR
open PySem PyProof.Rows
noncomputable def wr (sa:Nat) (l:List (Keyed × Nat)) (xs:Array Keyed):Array Keyed:=l.foldl (fun a q=>a.setIfInBounds (sa+q.2) q.1) xs
theorem Kq (sa:Nat):∀ (l:List Keyed) (n:Nat) (xs:Array Keyed),sa+n+l.length<=xs.size->∀ j,(wr sa (l.zipIdx n) xs)[j]? = if sa+n<=j/\j<sa+n+l.length then l[j - (sa+n)]? else xs[j]?
 | [],n,xs,_,j=>by
  rw [if_neg (by simp only [Zst];omega)]
  rfl
 | x :: l,n,xs,h,j=>by
  rw [Zsf] at h
  have:=Kq sa l (n+1) (xs.setIfInBounds (sa+n) x) (by rw [Zt0];omega) j
  show (wr sa ((x,n) :: l.zipIdx (n+1)) xs)[j]? = _
  show (wr sa (l.zipIdx (n+1)) (xs.setIfInBounds (sa+n) x))[j]? = _
  rw [this,Zsf]
  by_cases h1:sa+(n+1)<=j/\j<sa+(n+1)+l.length
  ·rw [if_pos h1,if_pos (by omega),show j - (sa+n)=j - (sa+(n+1))+1 by omega,ZsJ]
  ·rw [if_neg h1]
   by_cases h2:j=sa+n
   ·subst h2
    rw [if_pos (by omega),Zty,Zs4,Array.getElem?_setIfInBounds_self_of_lt (by omega)]
   ·rw [if_neg (by omega),Array.getElem?_setIfInBounds_ne (by omega)]
theorem ZV {sa:Nat}{l:List Keyed}{xs:Array Keyed} (h:sa+l.length<=xs.size):(wr sa l.zipIdx xs).toList=xs.toList.take sa ++ l ++ xs.toList.drop (sa+l.length):=by
 refine List.ext_getElem? fun j=>?_
 have e:=Kq sa l 0 xs (by omega) j
 rw [Nat.add_zero] at e
 rw [ZtT,e]
 have sz:xs.toList.length=xs.size:=ZtU
 have tk:(xs.toList.take sa).length=sa:=by rw [Zsq];omega
 rcases Ztt j sa with z | z
 ·rw [if_neg (by omega),Zsh,Zse (by omega),Ztc z,ZtT]
 ·rcases Ztt j (sa+l.length) with y | y
  ·rw [if_pos (by omega),Zsh,Zsi (by omega),tk,Zse (by omega)]
  ·rw [if_neg (by omega),Zsi (by rw [Zr0];omega),Zr0,tk,Zs7,ZtT]
   congr 1
   omega
theorem Xm {sa:Nat}{l:List Keyed}{xs:Array Keyed} (h:sa+l.length<=xs.size) (hp:l.Perm ((xs.toList.drop sa).take l.length)):(wr sa l.zipIdx xs).Perm xs:=by
 refine Zt3.mpr ?_
 rw [ZV h]
 have e:xs.toList=xs.toList.take sa ++ (xs.toList.drop sa).take l.length ++ xs.toList.drop (sa+l.length):=by
  conv=>lhs;rw [<- ZsA (sa+l.length) xs.toList,Zti]
 refine Zsn.trans ?_ (Zsn.of_eq e.symm)
 exact Zsn.append_right _ (Zsn.append_left _ hp)
theorem NH {xs:Array Keyed}{lo n:Nat} (h:So xs lo (lo+n)) (hs:lo+n<=xs.size):di ((xs.toList.drop lo).take n):=by
 refine ZsU.mpr fun i j hi hj ez=>?_
 rw [Zsq] at hi hj
 have g:∀ m (hm:m<((xs.toList.drop lo).take n).length),ky ((xs.toList.drop lo).take n)[m]=K xs (lo+m):=fun m hm=>by
  rw [Zsq] at hm
  refine (kP ?_).symm
  rw [<- ZtT,<- Zs7,<- Ztc (show m<n by omega)]
  exact ZrY _
 rw [g i,g j]
 exact h _ _ (by omega) (by omega) (by omega)
theorem SU {xs:Array Keyed}{lo n:Nat}:(xs.extract lo (lo+n)).toList=(xs.toList.drop lo).take n:=by
 rw [ZtX,ZsW,show lo+n - lo=n by omega]
theorem Rk {xs:Array Keyed}{lo n:Nat} (h:lo+n<=xs.size):(xs.extract lo (lo+n)).size=n:=by rw [Array.size_extract];omega
theorem HE {xs:Array Keyed}{lo hi:Nat} (h0:IntKeys xs):IntKeys (xs.extract lo hi):=fun q hq=>h0 q (by
 rw [ZtX,ZsW] at hq
 exact Zta (ZsS hq))
theorem yn (i:Nat):mergeAt' i=(do
 let u <- get
 let (some (sa,na,pw),some (sb,nb,_)):=((pendingOf u)[i]?,(pendingOf u)[i+1]?) | unsupported "internal:list.sort.pending"
 set (setPending u (((pendingOf u).setIfInBounds i (sa,na+nb,pw)).eraseIdxIfInBounds (i+1)))
 let some k <- sL false (<- elem' (arrOf u) sb) (arrOf u) sa na 0 | return false
 let (sa,na):=(sa+k,na - k)
 if na == 0 then return true
 let some nb <- sL true (<- elem' (arrOf u) (sa+na - 1)) (arrOf u) sb nb (nb - 1) | return false
 if nb == 0 then return true
 let x:=(arrOf u).extract sa sb
 let y:=(arrOf u).extract sb (sb+nb)
 let m <- if na<=nb then L6 x y else Jl x y
 modify fun u=>setArr u (wr sa m.toList.zipIdx (arrOf u))
 return (failedOf (<- get)).isNone):=rfl
section
variable {prog:Program}{w:World}{A:Around}{E:Value->Shared->Prop}{s:Shared}{st:SortSt}{a₀:Array Keyed}{p:Array (Nat × Nat × Nat)}
theorem KQ {ao:SortSt}{Q:PUnit->SortSt->Prop} (h:Q ⟨⟩ ao):wpS (model prog w) A E s (set ao:StateT SortSt Sem PUnit) Q st:=by
 unfold wpS
 rw [StateT.run_set]
 exact wpAny_pure ⟨rfl,h⟩
theorem Mu {i sa na nb pw pw2:Nat}{Q:Bool->SortSt->Prop} (h0:IntKeys a₀) (hB:SX a₀ p st) (VT:p[i]? = some (sa,na,pw)) (M8:p[i+1]? = some (sa+na,nb,pw2)) (YG:0<na) (hnb:0<nb) (hsz:sa+na+nb<=a₀.size)
  (s1:So (arrOf st) sa (sa+na)) (s2:So (arrOf st) (sa+na) (sa+na+nb))
  (h:∀ ao,SX a₀ ((p.setIfInBounds i (sa,na+nb,pw)).eraseIdxIfInBounds (i+1)) ao->(∀ j,j<sa\/sa+na+nb<=j->(arrOf ao)[j]? = (arrOf st)[j]?)->So (arrOf ao) sa (sa+na+nb)->Q true ao) :
  wpS (model prog w) A E s (mergeAt' i) Q st:=by
 rw [yn]
 refine wpS_bind (wpS_get ?_)
 rw [hB.pend,VT,M8]
 dsimp only
 have hI:=hB.ints h0
 have hS:=hB.size
 have Nr:=hB.perm
 have WC:=hB.kind
 have Wb:=hB.failed
 refine wpS_bind (KQ ?_)
 have oG:SX a₀ ((p.setIfInBounds i (sa,na+nb,pw)).eraseIdxIfInBounds (i+1)) (setPending st ((p.setIfInBounds i (sa,na+nb,pw)).eraseIdxIfInBounds (i+1))):=⟨Nr,WC,Wb,rfl⟩
 have zi:arrOf (setPending st ((p.setIfInBounds i (sa,na+nb,pw)).eraseIdxIfInBounds (i+1)))=arrOf st:=rfl
 generalize setPending st ((p.setIfInBounds i (sa,na+nb,pw)).eraseIdxIfInBounds (i+1))=yf at oG zi
 generalize (p.setIfInBounds i (sa,na+nb,pw)).eraseIdxIfInBounds (i+1)=p1 at oG h
 generalize arrOf st=xs at *
 obtain ⟨kb,tb,qb,eb,hkb⟩:=nP hI (show sa+na<xs.size by omega)
 refine wpS_bind (jr eb ?_)
 refine wpS_bind (mG oG.kind hI (by omega) YG s1 fun k qB ni nD=>?_)
 dsimp only
 have ni:∀ n,n<k->K xs (sa+n)<=kb:=ni
 have nD:∀ n,k<=n->n<na->¬ K xs (sa+n)<=kb:=nD
 have L3:∀ j,sa+na<=j->j<sa+na+nb->kb<=K xs j:=fun j g1 g2=>by rw [<- hkb];exact s2 _ _ (Zts _) g1 g2
 by_cases c1:na - k=0
 ·rw [if_pos (by simpa using c1)]
  refine wpS_pure (h yf oG (fun j _=>by rw [zi]) fun i' j' hl ez hj=>?_)
  rw [zi]
  rcases Ztt j' (sa+na) with z | z
  ·exact s1 _ _ hl ez z
  ·rcases Ztt i' (sa+na) with y | y
   ·have:=ni (i' - sa) (by omega)
    rw [show sa+(i' - sa)=i' by omega] at this
    exact ZtR this (L3 j' z hj)
   ·exact s2 _ _ y ez hj
 rw [if_neg (by simpa using c1)]
 obtain ⟨kl,tl,ql,el,qz⟩:=nP hI (show sa+k+(na - k) - 1<xs.size by omega)
 have Dv:sa+k+(na - k) - 1=sa+na - 1:=by omega
 rw [Dv] at qz
 refine wpS_bind (jr el ?_)
 refine wpS_bind (mG oG.kind hI (by omega) (show nb - 1<nb by omega) s2 fun nc za pA nS=>?_)
 dsimp only
 have pA:∀ n,n<nc->K xs (sa+na+n)<kl:=pA
 have nS:∀ n,nc<=n->n<nb->¬ K xs (sa+na+n)<kl:=nS
 have Sg:∀ j,sa<=j->j<sa+na->K xs j<=kl:=fun j g1 g2=>by rw [<- qz];exact s1 _ _ g1 (by omega) (by omega)
 by_cases c2:nc=0
 ·rw [if_pos (by simpa using c2)]
  refine wpS_pure (h yf oG (fun j _=>by rw [zi]) fun i' j' hl ez hj=>?_)
  rw [zi]
  rcases Ztt j' (sa+na) with z | z
  ·exact s1 _ _ hl ez z
  ·rcases Ztt i' (sa+na) with y | y
   ·have:=nS (j' - (sa+na)) (by omega) (by omega)
    rw [show sa+na+(j' - (sa+na))=j' by omega] at this
    have:=Sg i' hl y
    omega
   ·exact s2 _ _ y ez hj
 rw [if_neg (by simpa using c2)]
 have eX:xs.extract (sa+k) (sa+na)=xs.extract (sa+k) (sa+k+(na - k)):=by rw [show sa+k+(na - k)=sa+na by omega]
 rw [eX]
 have lX:(xs.extract (sa+k) (sa+k+(na - k))).toList=(xs.toList.drop (sa+k)).take (na - k):=SU
 have lY:(xs.extract (sa+na) (sa+na+nc)).toList=(xs.toList.drop (sa+na)).take nc:=SU
 have zX:(xs.extract (sa+k) (sa+k+(na - k))).size=na - k:=Rk (by omega)
 have zY:(xs.extract (sa+na) (sa+na+nc)).size=nc:=Rk (by omega)
 have sX:di (xs.extract (sa+k) (sa+k+(na - k))).toList:=by rw [lX];exact NH (fun i' j' a1 a2 a3=>s1 _ _ (by omega) a2 (by omega)) (by omega)
 have sY:di (xs.extract (sa+na) (sa+na+nc)).toList:=by rw [lY];exact NH (fun i' j' a1 a2 a3=>s2 _ _ a1 a2 (by omega)) (by omega)
 have O6:∀ q∈(xs.extract (sa+k) (sa+k+(na - k))).toList,∃ j,sa+k<=j/\j<sa+na/\K xs j=ky q:=fun q hq=>by
  rw [lX] at hq
  obtain ⟨m,hm,e⟩:=FO hq
  exact ⟨sa+k+m,by omega,by omega,kP (by rw [<- ZtT];exact e)⟩
 have IB:∀ q∈(xs.extract (sa+na) (sa+na+nc)).toList,∃ j,sa+na<=j/\j<sa+na+nc/\K xs j=ky q:=fun q hq=>by
  rw [lY] at hq
  obtain ⟨m,hm,e⟩:=FO hq
  exact ⟨sa+na+m,by omega,by omega,kP (by rw [<- ZtT];exact e)⟩
 have B0:∀ q∈(xs.extract (sa+k) (sa+k+(na - k))).toList,kb<ky q:=fun q hq=>by
  obtain ⟨j,j1,j2,e⟩:=O6 q hq
  have:=nD (j - sa) (by omega) (by omega)
  rw [show sa+(j - sa)=j by omega] at this
  omega
 have hf:∀ x∈(xs.extract (sa+na) (sa+na+nc)).toList.take 1,∀ y∈(xs.extract (sa+k) (sa+k+(na - k))).toList,ky x<=ky y:=fun x hx y hy=>by
  have h1:=B0 y hy
  rw [lY,Ztl,ZtE (by omega)] at hx
  obtain ⟨m,hm,e⟩:=FO hx
  have:K xs (sa+na)=ky x:=kP (by rw [<- ZtT,show sa+na=sa+na+m by omega];exact e)
  omega
 have hl:∀ x∈(xs.extract (sa+na) (sa+na+nc)).toList,∀ y∈(xs.extract (sa+k) (sa+k+(na - k))).toList.drop ((xs.extract (sa+k) (sa+k+(na - k))).size - 1),ky x<=ky y:=fun x hx y hy=>by
  obtain ⟨j,j1,j2,e⟩:=IB x hx
  have h1:=pA (j - (sa+na)) (by omega)
  rw [show sa+na+(j - (sa+na))=j by omega] at h1
  rw [zX,lX] at hy
  obtain ⟨m,hm,e2⟩:=HJ hy
  rw [ZsV] at e2
  split at e2
  ·rw [Zs7] at e2
   have:K xs (sa+na - 1)=ky y:=kP (by rw [<- ZtT,show sa+na - 1=sa+k+m by omega];exact e2)
   omega
  ·cases e2
 have fin:∀ (o:Array Keyed) (ao:SortSt),SG yf ao->di o.toList->o.toList.Perm ((xs.extract (sa+k) (sa+k+(na - k))).toList ++ (xs.extract (sa+na) (sa+na+nc)).toList) ->
   wpS (model prog w) A E s (do modify fun u=>setArr u (wr (sa+k) o.toList.zipIdx (arrOf u));let v <- get;pure (failedOf v).isNone) Q ao:=fun o ao g so po=>by
  have hol:o.toList.length=(na - k)+nc:=by rw [po.length_eq,Zr0,ZtU,ZtU,zX,zY]
  have Yq:arrOf ao=xs:=g.arr.trans zi
  refine wpS_bind (wpS_modify (wpS_bind (wpS_get (wpS_pure ?_))))
  have RK:failedOf (setArr ao (wr (sa+k) o.toList.zipIdx (arrOf ao)))=none:=g.fail.trans oG.failed
  rw [RK,Yq]
  have hle:sa+k+o.toList.length<=xs.size:=by omega
  have DB:(wr (sa+k) o.toList.zipIdx xs).Perm xs:=Xm hle (by
   refine po.trans (Zsn.of_eq ?_)
   rw [hol,lX,lY,Zti,Ztj,show sa+k+(na - k)=sa+na by omega])
  have get:=Kq (sa+k) o.toList 0 xs (by omega)
  simp only [Nat.add_zero] at get
  have pG:∀ j,sa+k<=j->j<sa+na+nc->∃ q,o.toList[j - (sa+k)]? = some q/\K (wr (sa+k) o.toList.zipIdx xs) j=ky q:=fun j g1 g2=>by
   have hj:j - (sa+k)<o.toList.length:=by omega
   refine ⟨_,ZrY hj,kP ?_⟩
   rw [get,if_pos (by omega)]
   exact ZrY hj
  have mE:∀ j,j<sa+k\/sa+na+nc<=j->K (wr (sa+k) o.toList.zipIdx xs) j=K xs j:=fun j g1=>K_congr (by rw [get,if_neg (by omega)])
  have lo1:∀ q∈o.toList,kb<=ky q:=fun q hq=>by
   rcases Zr3.mp (po.mem_iff.mp hq) with z | z
   ·have:=B0 q z;omega
   ·obtain ⟨j,j1,j2,e⟩:=IB q z
    have:=L3 j j1 (by omega)
    omega
  have NI:∀ q∈o.toList,∀ t,sa<=t->t<sa+k->K xs t<=ky q:=fun q hq t t1 t2=>by
   have h1:=ni (t - sa) (by omega)
   rw [show sa+(t - sa)=t by omega] at h1
   have:=lo1 q hq
   omega
  have up1:∀ q∈o.toList,∀ t,sa+na+nc<=t->t<sa+na+nb->ky q<=K xs t:=fun q hq t t1 t2=>by
   have h1:=nS (t - (sa+na)) (by omega) (by omega)
   rw [show sa+na+(t - (sa+na))=t by omega] at h1
   rcases Zr3.mp (po.mem_iff.mp hq) with z | z
   ·obtain ⟨j,j1,j2,e⟩:=O6 q z
    have:=Sg j (by omega) j2
    omega
   ·obtain ⟨j,j1,j2,e⟩:=IB q z
    rw [<- e]
    exact s2 _ _ j1 (by omega) t2
  refine h _ ⟨DB.trans Nr,g.kind.trans oG.kind,RK,g.pend.trans oG.pend⟩ (fun j hj=>?_) fun i' j' l1 l2 l3=>?_
  ·show (wr (sa+k) o.toList.zipIdx xs)[j]? = xs[j]?
   rw [get,if_neg (by omega)]
  ·show K (wr (sa+k) o.toList.zipIdx xs) i'<=K (wr (sa+k) o.toList.zipIdx xs) j'
   rcases Ztt i' (sa+k) with y | y
   ·rw [mE i' (.inl y)]
    rcases Ztt j' (sa+k) with z | z
    ·rw [mE j' (.inl z)]
     exact s1 _ _ l1 l2 (by omega)
    ·rcases Ztt j' (sa+na+nc) with v | v
     ·obtain ⟨q,hq,e⟩:=pG j' z v
      rw [e]
      exact NI q (Zr5 hq) i' l1 y
     ·rw [mE j' (.inr v)]
      have h1:=ni (i' - sa) (by omega)
      rw [show sa+(i' - sa)=i' by omega] at h1
      exact ZtR h1 (L3 j' (by omega) l3)
   ·rcases Ztt i' (sa+na+nc) with u | u
    ·obtain ⟨q,hq,e⟩:=pG i' y u
     rw [e]
     rcases Ztt j' (sa+na+nc) with v | v
     ·obtain ⟨r,hr,e2⟩:=pG j' (by omega) v
      rw [e2]
      rcases Nat.eq_or_lt_of_le l2 with z | z
      ·subst z
       rw [hq] at hr
       cases hr
       exact ZtN _
      ·obtain ⟨a1,a2⟩:=Zr1.mp hq
       obtain ⟨b1,b2⟩:=Zr1.mp hr
       rw [<- a2,<- b2]
       exact ZsU.mp so _ _ a1 b1 (by omega)
     ·rw [mE j' (.inr v)]
      exact up1 q (Zr5 hq) j' v l3
    ·rw [mE i' (.inr u),mE j' (.inr (by omega))]
     exact s2 _ _ (by omega) l2 l3
 split
 ·exact wpS_bind (loX oG.kind (HE hI) (HE hI) sX sY (by omega) (by omega) hf hl fin)
 ·exact wpS_bind (U8 oG.kind (HE hI) (HE hI) sX sY (by omega) (by omega) hf hl fin)
end
end SR
namespace SR
open PySem PyProof.Rows
noncomputable def jW (xs:Array Keyed):Nat->Nat->List (Nat × Nat × Nat)->Prop
 | b,e,[]=>b=e
 | b,e,(s,n,_) :: r=>s=b/\0<n/\So xs s (s+n)/\jW xs (b+n) e r
theorem jW.le {xs:Array Keyed}:∀ {l:List (Nat × Nat × Nat)}{b e:Nat},jW xs b e l->b+l.length<=e
 | [],b,e,h=>by rw [show b=e from h];exact Zts _
 | (s,n,p) :: r,b,e,h=>by
  obtain ⟨_,hn,_,h⟩:=h
  have:=h.le
  rw [Zsf]
  omega
theorem jW.same {xs ys:Array Keyed}:∀ {l:List (Nat × Nat × Nat)}{b e:Nat},(∀ j,b<=j->j<e->K ys j=K xs j)->jW xs b e l->jW ys b e l
 | [],b,e,_,h=>h
 | (s,n,p) :: r,b,e,hk,h=>by
  obtain ⟨rfl,hn,hs,h⟩:=h
  have hle:=h.le
  refine ⟨rfl,hn,fun i j h1 h2 h3=>?_,h.same fun j h1 h2=>hk j (by omega) h2⟩
  rw [hk i (by omega) (by omega),hk j (by omega) (by omega)]
  exact hs i j h1 h2 h3
theorem jW.snoc {xs:Array Keyed}{n p:Nat}:∀ {l:List (Nat × Nat × Nat)}{b e:Nat},jW xs b e l->0<n->So xs e (e+n)->jW xs b (e+n) (l ++ [(e,n,p)])
 | [],b,e,h,hn,hs=>by
  have h:b=e:=h
  subst h
  exact ⟨rfl,hn,hs,rfl⟩
 | (s,m,q) :: r,b,e,h,hn,hs=>by
  obtain ⟨h1,h2,h3,h4⟩:=h
  exact ⟨h1,h2,h3,h4.snoc hn hs⟩
theorem jW.at {xs:Array Keyed}:∀ {l:List (Nat × Nat × Nat)}{b e:Nat} (i:Nat),jW xs b e l->i+1<l.length->∃ sa na nb pw pw2,l[i]? = some (sa,na,pw)/\l[i+1]? = some (sa+na,nb,pw2)/\0<na/\0<nb/\b<=sa/\sa+na+nb<=e/\So xs sa (sa+na)/\So xs (sa+na) (sa+na+nb) /\
  ∀ ys:Array Keyed,(∀ j,j<sa\/sa+na+nb<=j->K ys j=K xs j)->So ys sa (sa+na+nb)->jW ys b e ((l.set i (sa,na+nb,pw)).eraseIdx (i+1))
 | [],_,_,i,_,h=>by simp at h
 | [_],_,_,i,_,h=>by simp at h
 | (s,n,p) :: (s2,n2,p2) :: r,b,e,0,h,_=>by
  obtain ⟨rfl,h1,h2,rfl,h3,h4,h5⟩:=h
  have hle:=h5.le
  refine ⟨s,n,n2,p,p2,rfl,rfl,h1,h3,Zts _,by omega,h2,h4,fun ys hk hs=>?_⟩
  refine ⟨rfl,by omega,by rw [<- Nat.add_assoc];exact hs,?_⟩
  rw [<- Nat.add_assoc]
  exact h5.same fun j g1 g2=>hk j (.inr g1)
 | (s,n,p) :: x :: r,b,e,i+1,h,hi=>by
  obtain ⟨rfl,h1,h2,h3⟩:=h
  obtain ⟨sa,na,nb,pw,pw2,e1,e2,g1,g2,g3,g4,g5,g6,g7⟩:=h3.at i (by simpa using hi)
  refine ⟨sa,na,nb,pw,pw2,e1,e2,g1,g2,by omega,g4,g5,g6,fun ys hk hs=>?_⟩
  refine ⟨rfl,h1,fun i' j' l1 l2 l3=>?_,g7 ys hk hs⟩
  rw [hk i' (.inl (by omega)),hk j' (.inl (by omega))]
  exact h2 i' j' l1 l2 l3
theorem jW.pow {xs:Array Keyed}{pw:Nat}{f:Nat × Nat × Nat->Nat × Nat × Nat} (hf:∀ x,f x=(x.1,x.2.1,pw)):∀ {l:List (Nat × Nat × Nat)}{b e:Nat} (k:Nat),jW xs b e l->jW xs b e (l.modify k f)
 | [],b,e,k,h=>by cases k <;> exact h
 | (s,n,p) :: r,b,e,0,h=>by
  show jW xs b e (f (s,n,p) :: r)
  rw [hf]
  exact h
 | (s,n,p) :: r,b,e,k+1,h=>⟨h.1,h.2.1,h.2.2.1,h.2.2.2.pow hf k⟩
section
variable {prog:Program}{w:World}{A:Around}{E:Value->Shared->Prop}{s:Shared}{st:SortSt}{a₀:Array Keyed}
structure SP (a₀:Array Keyed) (lo:Nat) (st:SortSt):Prop where
 perm:(arrOf st).Perm a₀
 kind:kindOf st=oneType'
 failed:failedOf st=none
 chain:jW (arrOf st) 0 lo (pendingOf st).toList
theorem SP.sx {lo:Nat} (h:SP a₀ lo st):SX a₀ (pendingOf st) st:=⟨h.perm,h.kind,h.failed,rfl⟩
theorem sI {lo i:Nat}{Q:Bool->SortSt->Prop} (h0:IntKeys a₀) (hB:SP a₀ lo st) (fj:lo<=a₀.size) (hi:i+1<(pendingOf st).size)
  (h:∀ ao,SP a₀ lo ao->(pendingOf ao).size+1=(pendingOf st).size->(∀ j,lo<=j->(arrOf ao)[j]? = (arrOf st)[j]?)->Q true ao):wpS (model prog w) A E s (mergeAt' i) Q st:=by
 obtain ⟨sa,na,nb,pw,pw2,e1,e2,g1,g2,g3,g4,g5,g6,g7⟩:=hB.chain.at i (by rw [ZtU];exact hi)
 rw [ZtT] at e1 e2
 refine Mu h0 hB.sx e1 e2 g1 g2 (by omega) g5 g6 fun ao hX kZ hso=>?_
 refine h ao ⟨hX.perm,hX.kind,hX.failed,?_⟩ ?_ fun j hj=>kZ j (.inr (by omega))
 ·have:=g7 (arrOf ao) (fun j hj=>K_congr (kZ j hj)) hso
  rw [hX.pend,Zt4,dif_pos (by rw [Zt0];exact hi),Array.toList_eraseIdx,Array.toList_setIfInBounds]
  exact this
 ·rw [hX.pend,Zt4,dif_pos (by rw [Zt0];exact hi),Array.size_eraseIdx,Zt0]
  omega
theorem Nf {Q:Unit->SortSt->Prop} (h0:IntKeys a₀) (hB:SP a₀ 0 st) (hp:pendingOf st = #[]) (h2:0<a₀.size)
  (h:∀ ao,(arrOf ao).Perm a₀->failedOf ao=none->SortedTo (arrOf ao) a₀.size->Q () ao):wpS (model prog w) A E s sortRuns' Q st:=by
 rw [sortRuns'_eq]
 refine wpS_bind (wpS_get ?_)
 have hsz:(arrOf st).size=a₀.size:=hB.perm.size_eq
 extract_lets sz mr lo0
 refine wpS_bind (wpS_mono (wpS_forRange (I:=fun x c ao=>∃ lo,c=(none,lo)/\SP a₀ lo ao/\lo<=a₀.size/\x<=lo)
  (Q:=fun c ao=>c=(none,a₀.size)/\SP a₀ a₀.size ao) ?o1 ?o2 ⟨0,rfl,hB,by omega,Zts _⟩) ?o3)
 case o2 =>
  rintro c ao ⟨lo,rfl,hP,h3,h4⟩
  have h4:max 0 (arrOf st).size<=lo:=h4
  have:lo=a₀.size:=by omega
  subst this
  exact ⟨rfl,hP⟩
 case o1 =>
  rintro x c ao _ hx ⟨lo,rfl,hP,h3,h4⟩
  extract_lets lo1 jp fo nf
  by_cases c1:lo ≥ a₀.size
  ·rw [if_pos (by show lo ≥ (arrOf st).size;omega)]
   have:lo=a₀.size:=by omega
   subst this
   exact wpS_pure ⟨rfl,hP⟩
  rw [if_neg (by show ¬ lo ≥ (arrOf st).size;omega)]
  refine wpS_bind (Jo h0 (by show lo+((arrOf st).size - lo)<=_;omega) (by show 1<=(arrOf st).size - lo;omega) hP.sx fun m st2 hX2 hFr Bv vN Hi=>?_)
  have vN:m<=(arrOf st).size - lo:=vN
  have P2:SP a₀ lo st2:=⟨hX2.perm,hX2.kind,hX2.failed,by rw [hX2.pend];exact hP.chain.same fun j g1 g2=>hFr.key g2⟩
  have Hi:So (arrOf st2) lo (lo+m):=Hi
  refine wpS_mono (Q:=fun r dm=>∃ lo',r=.yield (none,lo')/\SP a₀ lo' dm/\lo<lo'/\lo'<=a₀.size) ?_ ?_
  rotate_left
  ·rintro _ dm ⟨lo',rfl,g1,g2,g3⟩
   exact ⟨lo',rfl,g1,g3,by omega⟩
  dsimp -zeta only
  extract_lets n0
  have sj:∀ u n st2,SP a₀ lo st2->0<n->lo+n<=a₀.size->So (arrOf st2) lo (lo+n)->wpS (model prog w) A E s (jp u n) (fun r dm=>∃ lo',r=.yield (none,lo')/\SP a₀ lo' dm/\lo<lo'/\lo'<=a₀.size) st2:=by
   intro u n st2 P2 hn hle hso
   refine wpS_bind (wpS_get ?_)
   extract_lets NI jp2
   have km:∀ u bR,SP a₀ lo bR->So (arrOf bR) lo (lo+n)->wpS (model prog w) A E s (jp2 u) (fun r dm=>∃ lo',r=.yield (none,lo')/\SP a₀ lo' dm/\lo<lo'/\lo'<=a₀.size) bR:=by
    intro u bR P3 hso3
    refine wpS_bind (wpS_modify (wpS_pure ⟨lo+n,rfl,⟨P3.perm,P3.kind,P3.failed,?_⟩,by omega,hle⟩))
    show jW (arrOf bR) 0 (lo+n) ((pendingOf bR).push (lo,n,0)).toList
    rw [ZtW]
    exact P3.chain.snoc hn hso3
   cases hbk:(pendingOf st2).back? with
   | none =>
    exact km () st2 P2 hso
   | some v =>
    obtain ⟨s1,n1,p1⟩:=v
    dsimp -zeta only
    extract_lets pw
    refine wpS_bind (wpS_mono (wpS_forRange (I:=fun x c bR=>c=(none,())/\SP a₀ lo bR/\So (arrOf bR) lo (lo+n))
     (Q:=fun c bR=>c=(none,())/\SP a₀ lo bR/\So (arrOf bR) lo (lo+n)) ?l1 (fun _ _ hh=>hh) ⟨rfl,P2,hso⟩) ?l2)
    case l1 =>
     rintro x c bR _ _ ⟨rfl,P3,hs3⟩
     refine wpS_bind (wpS_get ?_)
     extract_lets pp
     by_cases c2:(pendingOf bR).size > 1
     ·rw [if_pos c2]
      have e:(pendingOf bR)[(pendingOf bR).size - 2]? = some (pendingOf bR)[(pendingOf bR).size - 2]:=ZtZ (by omega)
      show wpS (model prog w) A E s (match (pendingOf bR)[(pendingOf bR).size - 2]? with | some (_,_,older)=>_ | x=>_) _ _
      rw [e]
      dsimp -zeta only
      split
      ·exact wpS_pure ⟨rfl,P3,hs3⟩
      ·refine wpS_bind (sI h0 P3 h3 (by show (pendingOf bR).size - 2+1<_;omega) fun dm P4 _ kZ=>?_)
       rw [if_neg (by simp)]
       refine wpS_pure ⟨rfl,P4,fun i' j' l1 l2 l3=>?_⟩
       rw [K_congr (kZ i' l1),K_congr (kZ j' (by omega))]
       exact hs3 i' j' l1 l2 l3
     ·rw [if_neg c2]
      exact wpS_pure ⟨rfl,P3,hs3⟩
    case l2 =>
     rintro c bR ⟨rfl,P3,hs3⟩
     extract_lets
     refine wpS_bind (wpS_modify ?_)
     refine km () _ ⟨P3.perm,P3.kind,P3.failed,?_⟩ hs3
     show jW (arrOf bR) 0 lo ((pendingOf bR).modify ((pendingOf bR).size - 1) _).toList
     rw [Array.toList_modify]
     exact P3.chain.pow (pw:=pw) (fun _=>rfl) _
  by_cases c3:m<mr
  ·rw [if_pos c3]
   refine wpS_bind (wpS_lift (wpAny_rule ⟨rfl,?_⟩))
   have hfo:fo=min ((arrOf st).size - lo) mr:=rfl
   refine wpS_bind (HN (lo:=lo) (ok:=m) h0 (by omega) (by omega) P2.sx Hi fun bR hX3 hFr3 hSo3=>?_)
   rw [if_neg (by simp)]
   exact sj () fo bR ⟨hX3.perm,hX3.kind,hX3.failed,by rw [hX3.pend];exact P2.chain.same fun j g1 g2=>hFr3.key g2⟩ (by omega) (by omega) hSo3
  ·rw [if_neg c3]
   exact sj () m st2 P2 Bv (by omega) Hi
 case o3 =>
  rintro c ao ⟨rfl,hP⟩
  dsimp -zeta only
  extract_lets
  have Nc:=hP.chain.le
  rw [ZtU] at Nc
  refine wpS_bind (wpS_mono (wpS_forRange (I:=fun x c bR=>c=(none,())/\SP a₀ a₀.size bR/\x+(pendingOf bR).size<=a₀.size+1)
   (Q:=fun c bR=>c=(none,())/\SP a₀ a₀.size bR/\(pendingOf bR).size<=1) ?m1 ?m2 ⟨rfl,hP,by omega⟩) ?m3)
  case m2 =>
   rintro c bR ⟨rfl,P3,hx⟩
   have hx:max 0 (arrOf st).size+(pendingOf bR).size<=a₀.size+1:=hx
   exact ⟨rfl,P3,by omega⟩
  case m1 =>
   rintro x c bR _ _ ⟨rfl,P3,hx⟩
   extract_lets
   refine wpS_bind (wpS_get ?_)
   extract_lets pp i1 bf i2
   by_cases c2:(pendingOf bR).size<=1
   ·rw [if_pos c2]
    exact wpS_pure ⟨rfl,P3,c2⟩
   rw [if_neg c2]
   have XS:i2<=(pendingOf bR).size - 2:=by
    show (if _ then (pendingOf bR).size - 2 - 1 else (pendingOf bR).size - 2)<=(pendingOf bR).size - 2
    split
    ·exact Nat.sub_le _ _
    ·exact Zts _
   have hi2:i2+1<(pendingOf bR).size:=Nat.lt_of_le_of_lt (Nat.succ_le_succ XS) (by omega)
   refine wpS_bind (sI h0 P3 (Zts _) hi2 fun dm P4 hz _=>?_)
   rw [if_neg (by simp)]
   exact wpS_pure ⟨rfl,P4,by omega⟩
  case m3 =>
   rintro c bR ⟨rfl,P3,hx⟩
   refine wpS_pure (h bR P3.perm P3.failed ?_)
   have hc:=P3.chain
   rw [<- ZtU] at hx
   generalize (pendingOf bR).toList=l at hc hx
   match l,hc,hx with
   | [],hc,_=>have hc:0=a₀.size:=hc;omega
   | [(s1,n1,p1)],hc,_ =>
    obtain ⟨rfl,g1,g2,g3⟩:=hc
    have g3:0+n1=a₀.size:=g3
    intro i j ez hj
    exact g2 i j (Ztx _) ez (by omega)
   | _ :: _ :: _,_,hx=>simp at hx
end
end SR
namespace SR
open PySem PyProof.Rows
section
variable {prog:Program}{w:World}{A:Around}{E:Value->Shared->Prop}{s:Shared}
theorem Xs {a:Addr}{vs:List Value}{ns:List Int}{n:Nat}{P:Fin->Shared->Prop} (ho:s.heap.get? a=some (seqObj "list" vs.toArray n)) (hI:IntsAre vs ns) (hz:vs.length<=1000000)
  (h:∀ (out:Array Value) (fP:List Int),IntsAre out.toList fP->fP.Perm ns->fP.Pairwise (· <= ·)->P (.done (.ret .none)) { s with heap:=sortedHeap s.heap a vs out }) :
  wpAny (model prog w) A (Builtin.«list.sort» ⟨[.ref a],[]⟩) P E s:=by
 by_cases p9:vs.length<64
 ·exact list_sort_tree ho hI p9 h
 rw [list_sort_plain]
 have big:(1000000:Nat)<=sizeLine:=by decide
 have JK:vs.toArray.size=vs.length:=by simp
 refine wpAny_bind (listItems_at ho rfl ?_);skip
 refine wpAny_bind (listUpdate_at ho rfl ?_ (hsz:=by rw [JK];omega) (hsz2:=by show 0<=_;omega))
 obtain ⟨e1,ho1⟩:∃ e1,(s.heap.update a (Obj.mapSeq fun _=>#[])).get? a=some (seqObj "list" #[] e1):=⟨_,get?_update_seq ho (fun _=>#[])⟩
 refine wpAny_bind (seqEpoch_at ho1 rfl ?_);skip
 refine wpAny_bind (wpAny_newTuple ?_)
 refine wpAny_bind (wpAny_newList ?_);skip
 refine wpAny_holding ?_
 have ha:a<s.heap.objs.size:=Heap.lt_size ho
 have OM:(((s.heap.update a (Obj.mapSeq fun _=>#[])).push (seqObj "tuple" vs.toArray 0)).push (seqObj "list" #[] 0)).get? a=some (seqObj "list" #[] e1):=by
  rw [Heap.get?_push_ne _ _ _ (by rw [size_push',Heap.size_update];exact Ztu (Nat.lt_succ_of_lt ha)),Heap.get?_push_ne _ _ _ (by rw [Heap.size_update];exact Ztu ha)]
  exact ho1
 show wpAny (model prog w) A _ P E { s with heap:=((s.heap.update a (Obj.mapSeq fun _=>#[])).push (seqObj "tuple" vs.toArray 0)).push (seqObj "list" #[] 0) }
 dsimp only
 rw [if_neg (by rw [JK];omega),if_neg (by rw [JK];omega)]
 obtain ⟨v₁,v₂,rest,rfl⟩:∃ v₁ v₂ rest,vs=v₁ :: v₂ :: rest:=by
  match vs,p9 with
  | [],p9=>simp at p9
  | [_],p9=>simp at p9
  | v₁ :: v₂ :: rest,_=>exact ⟨v₁,v₂,rest,rfl⟩
 rw [keyKind_ints hI]
 refine wpAny_bind (wpAny_pure ?_)
 refine wpAny_bind (wpAny_mono (Nf (a₀:=pairsOf (v₁ :: v₂ :: rest)) (st:=SortSt.mk' oneType' ((v₁ :: v₂ :: rest).toArray.zip (v₁ :: v₂ :: rest).toArray) #[] 7 none)
  (Q:=fun _ ao=>(arrOf ao).Perm (pairsOf (v₁ :: v₂ :: rest))/\failedOf ao=none/\SortedTo (arrOf ao) (pairsOf (v₁ :: v₂ :: rest)).size)
  hI.intKeys ⟨Array.Perm.refl _,rfl,rfl,rfl⟩ rfl (by rw [pairsOf_size];omega) fun ao a1 a2 a3=>⟨a1,a2,a3⟩) ?_ fun _ _ e=>e)
 rintro ⟨⟨⟩,ao⟩ s' ⟨rfl,hp,hf,hs⟩
 dsimp only
 refine wpAny_bind (seqEpoch_at OM rfl ?_);skip
 refine wpAny_bind (listUpdate_at OM rfl ?_ (hsz2:=by refine Ztv (ZtB ((Array.size_map ..).trans (hp.size_eq.trans (pairsOf_size _)))) ?_;omega))
 rw [hf]
 simp only [bne_self_eq_false,Zt7,if_false]
 obtain ⟨fP,h1,h2,h3⟩:=sorted_out hI hp hs
 exact wpAny_pure (h _ fP h1 h2 h3)
end
end SR
set_option maxHeartbeats 4000000
namespace DE
open PySem DZ
section
variable {prog:Program}{w:World}{A:Around}{E:Value->Shared->Prop}{h:Heap}{g:Array GenState}{d:Drawn}{t:Nat}{os:OsState}{z:Addr}{vs:Array Value}
end
structure ES (e it l:Addr) (xs:Array Value) (i:Nat) (h:Heap):Prop where
 eo:∃ f0 f1 old,h.get? e=some { cls:=.type "enumerate",dict:=none,data:=.fields #[f0,.bool f1,.ref it,rawInt i,.none,old],slots:=#[] }/\(f0=.none\/∃ (T:Addr) (o:Obj),f0=rawInt T/\h.get? T=some o/\T≠e/\T≠it)
 a1:h.IsListIter it l i
 l1:h.IsList l xs
section
variable {prog:Program}{w:World}{A:Around}{E:Value->Shared->Prop}{s:Shared}
variable {κ:Type} [DecidableEq κ] {knd:KeyKind prog w κ}
end
end DE
namespace L2
open PySem PySem.Spec PyProof.Rows
noncomputable def K8 (n:Nat):List Key:=(Zr6 n).map fun i:Nat=>Sum.inl (i:Int)
noncomputable def Hl (K:Zrk) (t:TA):TE:=fun σ H Q=>t σ H fun vs H1=>match vs with
 | [.ref a]=>∃ ys:List V,H1 a=some (.lst ys)/\ys.length<=1000/\∀ p H',gk H1 p (.dK (ur [] ((K8 ys.length).zip ys))) H'->Q (.ref p) H'
 | _=>False
noncomputable def Nd (K:Zrk):List V->Hp->VK->Prop:=fun vs H Q=>match vs with
 | [.ref a]=>∃ ns:List Int,bY K H a (ns.map V.int)/\0<ns.length/\∀ M,M∈ns->(∀ x∈ns,x<=M)->Q (.int M) H
 | _=>False
theorem wM {X:Cx} (hc:X.calm=true):jO X (.builtin "max") (Nd X.K):=by
 intro pins s σ H xs us Q I r h
 match xs,h with
 | [.ref p],h =>
  obtain ⟨ns,hq,jf,q⟩:=h
  obtain ⟨u1,rfl,e1⟩:=pY r
  cases e1
  obtain ⟨its,r',pl,hz⟩:=I.list hq
  have hA:=Tu r'
  obtain ⟨xs,qK⟩:=hA.allInts.items
  have hn:numsOf (intItems xs).toList=ns:=by rw [<- qK];exact hA.numsOf
  rw [nums_intItems] at hn
  have Aa:xs.size=ns.length:=by rw [<- hn,ZrX,ZtU]
  have hl:=pl.isList
  rw [qK] at hl
  refine max_intList (I.ok.hd hc) hl (by omega) fun v h' tk hv hk=>?_
  obtain ⟨t,rfl⟩:=intItems_at hv
  obtain ⟨h1,h2⟩:=argBest_gt (numAt xs) (xs.size - 1)
  refine ⟨.int _,H,I.kept (t':=tk) hk,⟨t,rfl⟩,q _ ?_ fun a ha=>?_⟩
  ·rw [numAt_eq,hn]
   exact getD_mem (by omega)
  ·obtain ⟨j,hj,rfl⟩:=mem_getD ha
   have:=h2 j (by omega)
   rwa [numAt_eq,hn] at this
end L2
set_option maxHeartbeats 4000000
namespace SD
open PySem PySem.Spec PyProof.Rows
section
variable {prog:Program}{w:World}{A:Around}{E:Value->Shared->Prop}{s:Shared}{T:String}{r d:Addr}{n:Nat}{P:Nat->Value->Prop}{OK:Heap->Prop}
theorem Vu {R:Result->Shared->Prop}{L:Addr}{c:Nat} (K:ZrL prog w T r d n P OK) (hh:A.handled=none) (aF:OK s.heap) (hr:L≠r) (hd:L≠d) (hL:s.heap.get? L=some { cls:=.type "list",data:=.seq #[] c }) (hn:n<=sizeLine)
  (hR:∀ h' tk acc' c',(∀ b o,b≠L->s.heap.get? b=some o->h'.get? b=some o)->h'.get? L=some { cls:=.type "list",dict:=none,data:=.seq acc' c',slots:=#[] }->ItemsOf P acc' n->R (.ok (.ret (.ref L))) { s with heap:=h',toks:=tk }) :
  codeAny (model prog w) A (.builtin "list.__iadd__" ⟨[.ref L,.ref r],[]⟩) R s:=by
 refine codeAny_builtin entry_list_iadd' ?_
 rw [Around.under_plainId (show plainId "list.__iadd__" = true by decide +kernel) _]
 exact PySem.W.kdl_extend K hh aF L hr hd (.ref L) c hL hR hn
theorem Zk1 {Q:List Value->Shared->Prop} (K:ZrL prog w T r d n P OK) (hh:A.handled=none) (aF:OK s.heap) (hn:n<=sizeLine)
  (q:∀ acc h' tk,(∀ b o,s.heap.get? b=some o->h'.get? b=some o)->s.heap.objs.size<h'.objs.size->ItemsOf P acc n->Q acc.toList { s with heap:=h',toks:=tk }):wpAny (model prog w) A (collect (.ref r)) Q E s:=by
 obtain ⟨hr,hd⟩:=K.there s.heap aF
 unfold collect;refine wpAny_bind (wpAny_runValue (codeAny_builtin entry_proto_collect' ?_));show wpAny _ _ (do again (.builtin "list.__iadd__" ⟨[<- newList [],.ref r],[]⟩)) _ _ s
 have A0:(s.heap.push (seqObj "list" #[] 0)).get? s.heap.objs.size=some (seqObj "list" #[] 0):=Heap.get?_push_size _ rfl
 refine wpAny_bind (wpAny_newList (wpAny_pure ⟨Code.quiet_builtin _ (by decide +kernel),Vu (s:={ s with heap:=s.heap.push (seqObj "list" #[] 0) }) K hh (K.keep _ _ aF fun b _ o e=>Heap.get?_push_of_some _ e) (ZtA hr) (ZtA hd) A0 hn fun h' tk acc c kp hL' hi=>?_⟩))
 dsimp only;refine wpAny_bind (wpAny_load hL' (wpAny_pure ?_))
 exact q acc h' tk (fun b o e=>kp b o (Ztu (Heap.lt_size e)) (Heap.get?_push_of_some _ e)) (Heap.lt_size hL') hi
theorem VS {Q:Value->Shared->Prop}{ks:List Int} (K:ZrL prog w T r d n P OK) (hh:A.handled=none) (aF:OK s.heap) (p9:n<=100000) (hk:∀ acc,ItemsOf P acc n->IntsAre acc.toList ks)
  (q:∀ h' tk r out e fP,(∀ b o,s.heap.get? b=some o->h'.get? b=some o)->s.heap.objs.size<=r->h'.get? r=some (seqObj "list" out e)->IntsAre out.toList fP->fP.Perm ks->fP.Pairwise (· <= ·)->Q (.ref r) { s with heap:=h',toks:=tk }) :
  wpAny (model prog w) A (call (.builtin "sorted") [.ref r]) Q E s:=by
 refine Calls.call_function_entry kind_sorted plain_sorted entry_sorted (args_sorted1 _) ?_;unfold Builtin.«sorted»;refine wpAny_bind (m:=checkCount "sorted" 1 1 _) (wpAny_pure ?_)
 refine wpAny_bind (Zk1 K (by first | exact hh | simpa using hh) aF (by rw [sizeLine_eq];omega) fun acc h' tk kp aX hi=>?_)
 have a1:=hk acc hi
 have hvl:acc.toList.length<=1000000:=by rw [ZtU,hi.1];omega
 refine wpAny_bind (wpAny_newList ?_ (by rw [sizeLine_eq];omega))
 have Dk:(h'.push (seqObj "list" acc.toList.toArray 0)).get? h'.objs.size=some (seqObj "list" acc.toList.toArray 0):=Heap.get?_push_size _ rfl
 show wpAny _ _ _ _ _ { s with heap:=h'.push (seqObj "list" acc.toList.toArray 0),toks:=tk }
 refine wpAny_bind (wpAny_holding (wpAny_call_entry slot_list_sort ⟨_,Dk,rfl⟩ entry_list_sort (SR.Xs Dk a1 hvl fun out fP b1 b2 b3=>⟨_,rfl,wpAny_pure ⟨_,rfl,?_⟩⟩) (args_list_sort _)))
 obtain ⟨⟨e,at_⟩,old⟩:=SS.V2 (out:=out) Dk
 exact q _ tk _ out e fP (fun b o x=>old b o (Ztu (Nat.lt_trans (Heap.lt_size x) aX)) (Heap.get?_push_of_some _ (kp b o x))) (ZtC aX) at_ b1 b2 b3
end
end SD
namespace L2
open PySem PySem.Spec PyProof.Rows
noncomputable def Gw (_:Zrk):List V->Hp->VK->Prop:=fun vs H Q=>match vs with
 | [.ref p]=>∃ (kvs:List (Key × V)) (ns:List Int),Rd H p (.dK kvs)/\kvs.map (·.1)=ns.map Sum.inl/\ns.length<=100000/\∀ (fP:List Int) (l:Addr) (H':Hp),fP.Perm ns->fP.Pairwise (· <= ·)->gk H l (.lst (fP.map V.int)) H'->Q (.ref l) H'
 | _=>False
theorem PH {X:Cx} (hc:X.calm=true):jO X (.builtin "sorted") (Gw X.K):=by
 intro pins s σ H xs us Q I r h
 match xs,h with
 | [.ref p],h =>
  obtain ⟨kvs,ns,e,pR,p9,q⟩:=h
  obtain ⟨u1,rfl,e1⟩:=pY r
  cases e1
  obtain ⟨z,y,vs,rel,dd⟩:=qI I.aF e
  obtain ⟨ep,jV⟩:=dd.dictAt
  have hlen:=rel.length
  have hnl:kvs.length=ns.length:=by have:=congrArg Zs9 pR;rwa [ZrX,ZrX] at this
  refine SD.VS (ks:=ns) (PySem.W.kdl_dict (knd:=iP X.prog X.w) (kvs:=vs) (ep:=ep) y) (I.ok.hd hc) jV (by omega) (fun acc ⟨ha,hb⟩=>?_) fun h' tk l out e' fP kp hge at_ b1 b2 b3=>?_
  ·have key:∀ n,n<=kvs.length->Vals ((kvs.take n).map fun kv=>kV kv.1) (acc.toList.take n):=by
    intro n
    induction n with
    | zero=>intro _;rw [ZsK,ZsK];exact .nil
    | succ n ih =>
     intro hn
     have p7:n<acc.size:=by omega
     obtain ⟨k,x,hk,hv⟩:=hb n acc[n] (ZtZ p7)
     obtain ⟨p',g1,g2⟩:=HF rel hk
     rw [Zsj,Zsj,show acc.toList[n]? = some acc[n] by simp [p7],g1,Zr4]
     exact Paired.snoc (ih (by omega)) (show bu (kV p'.1) acc[n] by rw [g2.1];exact Lz hv)
   have b3:=key kvs.length (Zts _)
   rw [Zsx,ZsR (by rw [ZtU];omega)] at b3
   have e2:(kvs.map fun kv=>kV kv.1)=ns.map V.int:=by
    have:(kvs.map (·.1)).map kV=(ns.map Sum.inl).map kV:=by rw [pR]
    rw [Zsd,Zsd] at this
    exact this
   rw [e2] at b3
   exact Tu b3
  ·have xF:(100000:Nat)<=sizeLine:=by decide
   have LK:fP.length=ns.length:=b2.length_eq
   exact ⟨.ref l,_,I.laid (a:=l) (o:=.lst (fP.map V.int)) (h':=h') (t':=tk) kp hge ⟨by rw [ZrX];omega,out.toList,e',Ji b1,by rw [Zt1];exact at_⟩,rfl,q fP l _ b2 b3 ⟨I.aF.fresh hge,rfl⟩⟩
end L2
set_option maxRecDepth 20000
namespace L2
open PySem PySem.Spec PyProof.Rows
noncomputable def J5 (t:TE):TE:=fun σ H Q=>t σ H fun x H1=>∃ p kvs,x=.ref p/\H1 p=some (.dK kvs)/\∀ l H',gk H1 l (.lst (kvs.map fun kv=>kV kv.1)) H'->Q (.ref l) H'
theorem Zmq {X:Cx}{o:Expr}{t:TE}{p1 p2 p3 p4:Pos} (hc:X.calm=true) (X7:Gl X "list") (Bv:X.mg "list" = none) (ho:PE X o t)
  (iS:attributeBase o "keys" X.env (eval o X.env)=eval o X.env:=by rfl) (kH:(p2.endLine == p3.line)=true:=by rfl)
  (RD:starEach [Expr.Call (.Attribute o "keys" p2) [] [] p3] X.env=(false,eval (Expr.Call (.Attribute o "keys" p2) [] [] p3) X.env) :: starEach [] X.env:=by rfl) (Jw:(backTo p4 (starEach [] X.env)).any (·.1)=false:=by rfl) :
  PE X (.Call (.Name "list" p1) [.Call (.Attribute o "keys" p2) [] [] p3] [] p4) (J5 t):=by
 intro pins s σ H Q I h
 refine wpAny_Call_Name_kw (vQ I X7 Bv PyProof.Rows.boot_list ?_ (by decide) (by decide))
 refine PyProof.Rows.callWith_type1 ?_ RD Jw
 rw [RD]
 show wpAny _ _ (spliced ((false,eval (Expr.Call (.Attribute o "keys" p2) [] [] p3) X.env) :: backTo p4 (starEach [] X.env))) _ _ s
 refine Calls.spliced_cons ?_
 refine wpAny_Call_method0_late iS kH (aS (ho pins s σ H _ I h) fun v s1 ⟨x,H1,I1,r1,p,kvs,ex,hp,q⟩=>?_)
 subst ex
 obtain ⟨h1,h2⟩:=M6 (T:="dict") I1 r1 (.inr (.inr (.inl ⟨rfl,.inl ⟨_,hp⟩⟩)))
 cases r1
 obtain ⟨z,y,vs,rel,dd⟩:=HD I1.aF hp
 obtain ⟨ep,jV⟩:=dd.dictAt
 have hlen:=rel.length
 refine ⟨"dict","dict.keys",ZrU,ZrW,PySem.F.type_dict_keys,h1,h2,Calls.callWith_builtin rfl (PySem.evalArgs_none ?_)⟩
 refine call_meetsIn ZrW h1 PySem.F.entry_dict_keys (PySem.F.args_dict_keys_1 _) (PySem.W.kdl_meets_keys (iP X.prog X.w) p y) ⟨⟨vs,dd⟩,?_⟩
 refine Calls.spliced_nil ?_
 have I2:Inv X pins σ H1 { s1 with heap:=s1.heap.push { cls:=.type "dict_keys",data:=.fields #[.ref p] } }:=I1.kept (t':=s1.toks) fun b o e=>Heap.get?_push_of_some _ e
 have hv:PySem.W.KdlKeysView (s1.heap.push { cls:=.type "dict_keys",data:=.fields #[.ref p] }) s1.heap.objs.size p:=⟨_,Heap.get?_push_size _ rfl,rfl,rfl⟩
 refine PySem.W.kdl_call (s:={ s1 with heap:=s1.heap.push { cls:=.type "dict_keys",data:=.fields #[.ref p] } }) (PySem.W.kdl_keys (knd:=iP X.prog X.w) (kvs:=vs) (ep:=ep)) (I.ok.hd hc) ⟨hv,jV.push _⟩ (by omega) fun h' tk acc c kp hl ⟨ha,hb⟩=>?_
 generalize s1.heap.push { cls:=.type "dict_keys",data:=.fields #[.ref p] }=k2 at I2 kp hl ⊢
 have key:∀ n,n<=kvs.length->Vals ((kvs.take n).map fun kv=>kV kv.1) (acc.toList.take n):=by
  intro n
  induction n with
  | zero=>intro _;rw [ZsK,ZsK];exact .nil
  | succ n ih =>
   intro hn
   have p7:n<acc.size:=by omega
   obtain ⟨k,x,hk,hv⟩:=hb n acc[n] (ZtZ p7)
   obtain ⟨p',g1,g2⟩:=HF rel hk
   rw [Zsj,Zsj,show acc.toList[n]? = some acc[n] by simp [p7],g1,Zr4]
   exact Paired.snoc (ih (by omega)) (show bu (kV p'.1) acc[n] by rw [g2.1];exact Lz hv)
 have b3:=key kvs.length (Zts _)
 rw [Zsx,ZsR (by rw [ZtU];omega)] at b3
 have hl':h'.get? k2.objs.size=some { cls:=.type "list",dict:=none,data:=.seq acc.toList.toArray c,slots:=#[] }:=by rw [Zt1];exact hl
 exact ⟨.ref k2.objs.size,_,I2.laid (t':=tk) kp (Zts _) (show fz X.prog X.w _ h' _ (.lst (kvs.map fun kv=>kV kv.1)) from ⟨by rw [ZrX];omega,acc.toList,c,b3,hl'⟩),rfl,q _ _ ⟨I2.aF.fresh (Zts _),rfl⟩⟩
end L2
namespace MZ
noncomputable abbrev Ab:=Nat->Option (Option Nat)
noncomputable abbrev Cm:=Nat->Option (Option Nat)
variable {lo:Nat->List Nat}{goal:Nat->Prop}
structure Flow (lo:Nat->List Nat) (goal:Nat->Prop) (ab:Ab):Prop where
 up:∀ p q,ab p=some (some q)->p∈lo q/\ab q≠none
 top:∀ p,ab p=some none->∃ g,goal g/\p∈lo g
 inj:∀ p p' q,ab p=some (some q)->ab p'=some (some q)->p=p'
 src:∀ p,ab p≠none->lo p≠[]->∃ p',ab p'=some (some p)
 ng:∀ p,ab p≠none->¬ goal p
noncomputable def fY (lo:Nat->List Nat) (ab:Ab) (e:Nat):List Nat :=
 if e % 2=1 then (lo (e / 2)).map (fun l=>2 * l) ++ [2 * (e / 2)] else match ab (e / 2) with
  | none=>[2 * (e / 2)+1]
  | some none=>[]
  | some (some q)=>[2 * q+1]
theorem zR {ab:Ab}{p e:Nat} (h:e∈fY lo ab (2 * p+1)):(∃ l∈lo p,e=2 * l)\/e=2 * p:=by
 unfold fY at h
 rw [if_pos (by omega),show (2 * p+1) / 2=p by omega,Zr3,Zr8,Zr2] at h
 rcases h with ⟨l,hl,rfl⟩ | h
 ·exact .inl ⟨l,hl,rfl⟩
 ·exact .inr h
theorem yH {ab:Ab}{p e:Nat} (h:e∈fY lo ab (2 * p)):(ab p=none/\e=2 * p+1)\/∃ q,ab p=some (some q)/\e=2 * q+1:=by
 unfold fY at h
 rw [if_neg (by omega),show (2 * p) / 2=p by omega] at h
 cases ha:ab p with
 | none=>rw [ha] at h;exact .inl ⟨rfl,Zr2.mp h⟩
 | some o =>
  rw [ha] at h
  cases o with
  | none=>simp at h
  | some q=>exact .inr ⟨q,rfl,Zr2.mp h⟩
structure Path (lo:Nat->List Nat) (goal:Nat->Prop) (ab:Ab) (cm:Cm) (π:Nat->Prop) (s:Nat):Prop where
 succ:∀ e,π e->e≠2 * s+1->∃ e',π e'/\cm e'=some (some e)
 pred:∀ e,π e->cm e=some none\/∃ u,π u/\cm e=some (some u)
 uniq:∀ e e' u,π e->π e'->cm e=some (some u)->cm e'=some (some u)->e=e'
 step:∀ e u,π e->cm e=some (some u)->e∈fY lo ab u
 start:∀ e,π e->cm e=some none->e % 2=0/\∃ g,goal g/\e / 2∈lo g
 fin:π (2 * s+1)
 d0:lo s=[]
 one:∀ t,π (2 * t+1)->lo t=[]->t=s
 Xn:∀ p,goal p->¬ π (2 * p)/\¬ π (2 * p+1)
 rk:∃ r:Nat->Nat,∀ e u,cm e=some (some u)->r u<r e
open Classical in
noncomputable def lead (ab:Ab) (cm:Cm) (π:Nat->Prop):Ab:=fun p=>if π (2 * p) then (match cm (2 * p) with
  | some none=>some none
  | some (some u)=>if u=2 * p+1 then none else some (some (u / 2))
  | none=>none) else ab p
section
variable {ab:Ab}{cm:Cm}{π:Nat->Prop}{s:Nat}
theorem pC {p:Nat} (h:¬ π (2 * p)):lead ab cm π p=ab p:=by unfold lead;rw [if_neg h]
theorem tE {p:Nat} (h:π (2 * p)) (hc:cm (2 * p)=some none):lead ab cm π p=some none:=by unfold lead;rw [if_pos h,hc]
theorem CU {p:Nat} (h:π (2 * p)) (hc:cm (2 * p)=some (some (2 * p+1))):lead ab cm π p=none:=by unfold lead;rw [if_pos h,hc];simp
theorem qH {p u:Nat} (h:π (2 * p)) (hc:cm (2 * p)=some (some u)) (hu:u≠2 * p+1):lead ab cm π p=some (some (u / 2)):=by unfold lead;rw [if_pos h,hc];simp [hu]
variable (F:Flow lo goal ab) (P:Path lo goal ab cm π s)
include P
theorem wq {p u:Nat} (h:π (2 * p)) (hc:cm (2 * p)=some (some u)):∃ q,u=2 * q+1/\(p∈lo q\/p=q):=by
 have hs:=P.step _ _ h hc
 rcases (by omega:u=2 * (u / 2)\/u=2 * (u / 2)+1) with e | e
 ·rw [e] at hs
  rcases yH hs with ⟨_,z⟩ | ⟨q,_,z⟩ <;> omega
 ·rw [e] at hs
  refine ⟨u / 2,e,?_⟩
  rcases zR hs with ⟨l,hl,z⟩ | z
  ·rw [show p=l by omega];exact .inl hl
  ·exact .inr (by omega)
theorem Hj {q:Nat} (h:π (2 * q+1)):(π (2 * q)/\cm (2 * q+1)=some (some (2 * q))/\ab q=none)\/∃ p,π (2 * p)/\cm (2 * q+1)=some (some (2 * p))/\ab p=some (some q):=by
 rcases P.pred _ h with hc | ⟨u,hu,hc⟩
 ·have:=(P.start _ h hc).1
  omega
 ·have hs:=P.step _ _ h hc
  rcases (by omega:u=2 * (u / 2)\/u=2 * (u / 2)+1) with e | e
  ·rw [e] at hs hc hu
   rcases yH hs with ⟨ha,z⟩ | ⟨q',ha,z⟩
   ·have:u / 2=q:=by omega
    rw [this] at ha hc hu
    exact .inl ⟨hu,hc,ha⟩
   ·have:q'=q:=by omega
    subst this
    exact .inr ⟨u / 2,hu,hc,ha⟩
  ·rw [e] at hs
   rcases zR hs with ⟨l,hl,z⟩ | z <;> omega
include F
theorem NY {p q:Nat} (hq:ab q≠none) (h:π (2 * q+1)) (hp:ab p=some (some q)):π (2 * p)/\cm (2 * q+1)=some (some (2 * p)):=by
 rcases Hj P h with ⟨_,_,z⟩ | ⟨p',h1,h2,h3⟩
 ·exact absurd z hq
 ·rw [F.inj p p' q hp h3]
  exact ⟨h1,h2⟩
theorem Zd {p q:Nat} (h:π (2 * p)) (hp:ab p=some (some q)):π (2 * q+1)/\cm (2 * q+1)=some (some (2 * p)):=by
 obtain ⟨e,he,hc⟩:=P.succ _ h (by omega)
 rcases yH (P.step _ _ he hc) with ⟨z,_⟩ | ⟨q',z,rfl⟩
 ·rw [hp] at z;cases z
 ·rw [hp] at z
  cases z
  exact ⟨he,hc⟩
omit F in
theorem Q3 {p:Nat} (h:π (2 * p)) (hp:ab p=none):π (2 * p+1)/\cm (2 * p+1)=some (some (2 * p)):=by
 obtain ⟨e,he,hc⟩:=P.succ _ h (by omega)
 rcases yH (P.step _ _ he hc) with ⟨_,rfl⟩ | ⟨q',z,_⟩
 ·exact ⟨he,hc⟩
 ·rw [hp] at z;cases z
omit F in
omit F in
theorem ZqZ {q:Nat} (h:π (2 * q+1)) (hq:lo q≠[]):∃ l,π (2 * l)/\cm (2 * l)=some (some (2 * q+1))/\(l∈lo q\/l=q):=by
 obtain ⟨e,he,hc⟩:=P.succ _ h (fun z=>hq ((show s=q by omega) ▸ P.d0))
 rcases zR (P.step _ _ he hc) with ⟨l,hl,rfl⟩ | rfl
 ·exact ⟨l,he,hc,.inl hl⟩
 ·exact ⟨q,he,hc,.inr rfl⟩
omit F in
theorem OO {p:Nat} (h1:cm (2 * p)=some (some (2 * p+1))) (h2:cm (2 * p+1)=some (some (2 * p))):False:=by
 obtain ⟨r,hr⟩:=P.rk
 have a:=hr _ _ h1
 have b:=hr _ _ h2
 omega
variable (aX:∀ p l,l∈lo p->l<p)
include aX
theorem WS:Flow lo goal (lead ab cm π):=by
 refine ⟨fun p q h=>?_,fun p h=>?_,fun p p' q h h'=>?_,fun p h hp=>?_,fun p h=>?_⟩
 ·-- up
  by_cases hp:π (2 * p)
  ·rcases P.pred _ hp with hc | ⟨u,hu,hc⟩
   ·rw [tE hp hc] at h;cases h
   ·obtain ⟨q',rfl,hl⟩:=wq P hp hc
    by_cases e:p=q'
    ·subst e
     rw [CU hp hc] at h;cases h
    ·rw [qH hp hc (by omega)] at h
     have:q'=q:=by have:=Option.some.inj (Option.some.inj h);omega
     subst this
     refine ⟨hl.resolve_right e,fun hn=>?_⟩
     -- q' is not taken out
     by_cases hq:π (2 * q')
     ·rcases P.pred _ hq with hc2 | ⟨u2,hu2,hc2⟩
      ·rw [tE hq hc2] at hn;cases hn
      ·obtain ⟨q2,rfl,oj⟩:=wq P hq hc2
       by_cases e2:q'=q2
       ·subst e2
        have:=P.uniq _ _ _ hp hq hc hc2
        omega
       ·rw [qH hq hc2 (by omega)] at hn;cases hn
     ·rw [pC hq] at hn
      rcases Hj P hu with ⟨z,_⟩ | ⟨p3,_,_,z⟩
      ·exact hq z
      ·exact (F.up _ _ z).2 hn
  ·rw [pC hp] at h
   obtain ⟨h1,h2⟩:=F.up p q h
   refine ⟨h1,fun hn=>?_⟩
   by_cases hq:π (2 * q)
   ·rcases P.pred _ hq with hc2 | ⟨u2,hu2,hc2⟩
    ·rw [tE hq hc2] at hn;cases hn
    ·obtain ⟨q2,rfl,oj⟩:=wq P hq hc2
     by_cases e2:q=q2
     ·subst e2
      exact hp (NY F P h2 hu2 h).1
     ·rw [qH hq hc2 (by omega)] at hn;cases hn
   ·rw [pC hq] at hn
    exact h2 hn
 ·-- top
  by_cases hp:π (2 * p)
  ·rcases P.pred _ hp with hc | ⟨u,hu,hc⟩
   ·have:=(P.start _ hp hc).2
    rwa [show 2 * p / 2=p by omega] at this
   ·obtain ⟨q',rfl,hl⟩:=wq P hp hc
    by_cases e:p=q'
    ·subst e
     rw [CU hp hc] at h;cases h
    ·rw [qH hp hc (by omega)] at h;cases h
  ·rw [pC hp] at h
   exact F.top p h
 ·-- inj
  have key:∀ p,lead ab cm π p=some (some q)->(π (2 * p)/\cm (2 * p)=some (some (2 * q+1)))\/(¬ π (2 * p)/\ab p=some (some q)):=fun p h=>by
   by_cases hp:π (2 * p)
   ·rcases P.pred _ hp with hc | ⟨u,hu,hc⟩
    ·rw [tE hp hc] at h;cases h
    ·obtain ⟨q',rfl,hl⟩:=wq P hp hc
     by_cases e:p=q'
     ·subst e
      rw [CU hp hc] at h;cases h
     ·rw [qH hp hc (by omega)] at h
      have:q'=q:=by have:=Option.some.inj (Option.some.inj h);omega
      subst this
      exact .inl ⟨hp,hc⟩
   ·rw [pC hp] at h
    exact .inr ⟨hp,h⟩
  have mix:∀ a b,π (2 * a)->cm (2 * a)=some (some (2 * q+1))->¬ π (2 * b)->ab b=some (some q)->False:=fun a b ha hc hb gX=>by
   have hfq:π (2 * q+1):=by
    rcases P.pred _ ha with z | ⟨u,hu,z⟩
    ·rw [hc] at z;cases z
    ·rw [hc] at z;cases z;exact hu
   exact hb (NY F P (F.up _ _ gX).2 hfq gX).1
  rcases key p h with ⟨a1,a2⟩ | ⟨a1,a2⟩ <;> rcases key p' h' with ⟨b1,b2⟩ | ⟨b1,b2⟩
  ·have:=P.uniq _ _ _ a1 b1 a2 b2
   omega
  ·exact (mix p p' a1 a2 b1 b2).elim
  ·exact (mix p' p b1 b2 a1 a2).elim
  ·exact F.inj p p' q a2 b2
 ·-- src
  -- behind oF foot of p a head below it
  have below:π (2 * p+1)->¬ (π (2 * p)/\cm (2 * p)=some (some (2 * p+1)))->∃ p',lead ab cm π p'=some (some p):=fun hf kG=>by
   obtain ⟨l,hl,hc,oj⟩:=ZqZ P hf hp
   rcases oj with oj | rfl
   ·have:=aX _ _ oj
    refine ⟨l,?_⟩
    rw [qH hl hc (by omega)]
    congr 2
    omega
   ·exact absurd ⟨hl,hc⟩ kG
  have old:ab p≠none->¬ (π (2 * p)/\cm (2 * p)=some (some (2 * p+1)))->∃ p',lead ab cm π p'=some (some p):=fun gX kG=>by
   obtain ⟨p0,h0⟩:=F.src p gX hp
   by_cases hp0:π (2 * p0)
   ·exact below (Zd F P hp0 h0).1 kG
   ·exact ⟨p0,by rw [pC hp0];exact h0⟩
  have kG:¬ (π (2 * p)/\cm (2 * p)=some (some (2 * p+1))):=fun ⟨z1,z2⟩=>h (CU z1 z2)
  by_cases gX:ab p=none
  ·by_cases hpi:π (2 * p)
   ·exact below (Q3 P hpi gX).1 kG
   ·rw [pC hpi] at h
    exact absurd gX h
  ·exact old gX kG
 ·-- goals
  intro hg
  have:=P.Xn p hg
  rw [pC this.1] at h
  exact F.ng p h hg
theorem Xp:ab s=none/\lead ab cm π s≠none/\∀ t,lo t=[]->t≠s->(lead ab cm π t≠none ↔ ab t≠none):=by
 have hs:π (2 * s)/\cm (2 * s+1)=some (some (2 * s))/\ab s=none:=by
  rcases Hj P P.fin with z | ⟨p,_,_,z⟩
  ·exact z
  ·have:=(F.up _ _ z).1
   rw [P.d0] at this
   simp at this
 refine ⟨hs.2.2,fun hn=>?_,fun t ht hts=>?_⟩
 ·rcases P.pred _ hs.1 with hc | ⟨u,hu,hc⟩
  ·rw [tE hs.1 hc] at hn;cases hn
  ·obtain ⟨q,rfl,hl⟩:=wq P hs.1 hc
   by_cases e:s=q
   ·subst e
    exact OO P hc hs.2.1
   ·rw [qH hs.1 hc (by omega)] at hn;cases hn
 ·by_cases hp:π (2 * t)
  ·have gX:ab t≠none:=fun z=>hts (P.one t (Q3 P hp z).1 ht)
   refine ⟨fun _=>gX,fun _ hn=>?_⟩
   rcases P.pred _ hp with hc | ⟨u,hu,hc⟩
   ·rw [tE hp hc] at hn;cases hn
   ·obtain ⟨q,rfl,hl⟩:=wq P hp hc
    by_cases e:t=q
    ·subst e
     exact hts (P.one _ hu ht)
    ·rw [qH hp hc (by omega)] at hn;cases hn
  ·rw [pC hp]
end
end MZ
namespace MZ
variable {lo:Nat->List Nat}{goal:Nat->Prop}{ab:Ab}
noncomputable abbrev Cs:=List (Nat × Option Nat)
noncomputable def aL (cs:Cs):Cm:=fun e=>(cs.find? fun x=>decide (x.1=e)).map (·.2)
noncomputable def keys (cs:Cs):List Nat:=cs.map (·.1)
theorem nX {cs:Cs} (nd:(keys cs).Nodup) {e:Nat}{f:Option Nat}:aL cs e=some f ↔ (e,f)∈cs:=by
 unfold aL
 induction cs with
 | nil=>simp
 | cons x r ih =>
  obtain ⟨a,b⟩:=x
  unfold keys at nd ih
  rw [Zsg,ZsI] at nd
  by_cases h:a=e
  ·subst h
   rw [Ztq (by simp),Option.map_some,Zr7]
   constructor
   ·intro z
    cases z
    exact .inl rfl
   ·rintro (z | z)
    ·cases z;rfl
    ·exact absurd (Zr8.mpr ⟨_,z,rfl⟩) nd.1
  ·rw [Ztr (by simpa using h),ih nd.2,Zr7]
   constructor
   ·exact .inr
   ·rintro (z | z)
    ·cases z;exact absurd rfl h
    ·exact z
structure jR (lo:Nat->List Nat) (goal:Nat->Prop) (ab:Ab) (cs:Cs):Prop where
 nd:(keys cs).Nodup
 se:∀ (i:Nat) e u,cs[i]? = some (e,some u)->(∃ (j:Nat) (f:Option Nat),j<i/\cs[j]? = some (u,f))/\e∈fY lo ab u/\∀ t,u=2 * t+1->lo t≠[]
 start:∀ e,(e,none)∈cs->e % 2=0/\∃ g,goal g/\e / 2∈lo g
 all:∀ g l,goal g->l∈lo g->(2 * l,none)∈cs
theorem jR.snoc {cs:Cs} (c:jR lo goal ab cs) {e u:Nat} (hu:u∈keys cs) (he:e ∉ keys cs) (hn:e∈fY lo ab u) (hs:∀ t,u=2 * t+1->lo t≠[]):jR lo goal ab (cs ++ [(e,some u)]):=by
 refine ⟨?_,fun i e' u' h=>?_,fun e' h=>?_,fun g l hg hl=>Zsp _ (c.all g l hg hl)⟩
 ·unfold keys at he ⊢
  rw [Zr4,Zs5]
  refine ⟨c.nd,by simp,fun x hx y hy z=>?_⟩
  simp only [Zsg,ZsB,Zr2] at hy
  subst hy
  subst z
  exact he hx
 ·rcases Ztt i cs.length with l | l
  ·rw [Zse l] at h
   obtain ⟨⟨j,f,hj,hj2⟩,h2⟩:=c.se i e' u' h
   exact ⟨⟨j,f,hj,by rw [Zse (by omega)];exact hj2⟩,h2⟩
  ·have hi:i=cs.length:=by
    have:=(Zr1.mp h).1
    rw [Zr0] at this
    simp at this
    omega
   subst hi
   rw [Zsi (Zts _),Zty] at h
   cases h
   obtain ⟨x,hx,e1⟩:=Zr8.mp hu
   obtain ⟨j,hj⟩:=Zsr.mp hx
   obtain ⟨a,b⟩:=x
   cases e1
   have zU:=(Zr1.mp hj).1
   exact ⟨⟨j,b,zU,by rw [Zse zU];exact hj⟩,hn,hs⟩
 ·rcases Zr3.mp h with z | z
  ·exact c.start e' z
  ·rw [Zr2] at z
   cases z
inductive On (cm:Cm) (t:Nat):Nat->Prop where
 | here:On cm t t
 | up {e u:Nat} (h:On cm t e) (hc:cm e=some (some u)):On cm t u
noncomputable def it (cm:Cm) (t:Nat):Nat->Option Nat
 | 0=>some t
 | i+1=>(it cm t i).bind fun e=>(cm e).join
theorem On.it {cm:Cm}{t e:Nat} (h:On cm t e):∃ i,MZ.it cm t i=some e:=by
 induction h with
 | here=>exact ⟨0,rfl⟩
 | up h hc ih =>
  obtain ⟨i,hi⟩:=ih
  exact ⟨i+1,by show (MZ.it cm t i).bind _=_;rw [hi];show (cm _).join=_;rw [hc];rfl⟩
theorem Iz {cm:Cm}{t:Nat}{r:Nat->Nat} (hr:∀ e u,cm e=some (some u)->r u<r e):∀ {i j a b:Nat},i<j->it cm t i=some a->it cm t j=some b->r b<r a:=by
 have one:∀ {i a b:Nat},it cm t i=some a->it cm t (i+1)=some b->r b<r a:=fun {i a b} ha hb=>by
  have hb:(it cm t i).bind (fun e=>(cm e).join)=some b:=hb
  rw [ha] at hb
  have hb:(cm a).join=some b:=hb
  refine hr a b ?_
  cases h:cm a with
  | none=>rw [h] at hb;cases hb
  | some o=>rw [h] at hb;rw [show o=some b from hb]
 intro i j a b ez ha hb
 induction j generalizing b with
 | zero=>omega
 | succ j ih =>
  cases hj:it cm t j with
  | none =>
   have hb:(it cm t j).bind (fun e=>(cm e).join)=some b:=hb
   rw [hj] at hb
   cases hb
  | some c =>
   have h1:=one hj hb
   by_cases e:i=j
   ·subst e
    rw [ha] at hj
    cases hj
    exact h1
   ·exact Nat.lt_trans h1 (ih (by omega) hj)
theorem jR.path {cs:Cs} (c:jR lo goal ab cs) (F:Flow lo goal ab) (hg:∀ g,goal g->lo g≠[]) {s:Nat} (hs:lo s=[]) (hk:2 * s+1∈keys cs):Path lo goal ab (aL cs) (On (aL cs) (2 * s+1)) s:=by
 have fr:∀ e u,aL cs e=some (some u)->u∈keys cs/\e∈fY lo ab u/\(∀ t,u=2 * t+1->lo t≠[])/\(keys cs).idxOf u<(keys cs).idxOf e:=fun e u h=>by
  obtain ⟨i,hi⟩:=Zsr.mp ((nX c.nd).mp h)
  obtain ⟨⟨j,f,hj,hj2⟩,h2,h3⟩:=c.se i e u hi
  have Fe:=(Zr1.mp hi).1
  have key:∀ {k:Nat}{x:Nat}{y:Option Nat},cs[k]? = some (x,y)->(keys cs).idxOf x=k:=fun {k x y} hk=>by
   have qz:=(Zr1.mp hk).1
   have e1:(keys cs)[k]'(by unfold keys;rw [ZrX];exact qz)=x:=by
    unfold keys
    rw [List.getElem_map,(Zr1.mp hk).2]
   rw [<- e1]
   exact c.nd.idxOf_getElem k _
  exact ⟨Zr8.mpr ⟨_,Zr5 hj2,rfl⟩,h2,h3,by rw [key hi,key hj2];exact hj⟩
 have rk:∀ e u,aL cs e=some (some u)->(keys cs).idxOf u<(keys cs).idxOf e:=fun e u h=>(fr e u h).2.2.2
 have S1:∀ e,On (aL cs) (2 * s+1) e->e∈keys cs:=fun e h=>by
  cases h with
  | here=>exact hk
  | up h hc=>exact (fr _ _ hc).1
 have got:∀ e,e∈keys cs->∃ f,aL cs e=some f:=fun e h=>by
  obtain ⟨x,hx,rfl⟩:=Zr8.mp h
  exact ⟨x.2,(nX c.nd).mpr hx⟩
 have succ:∀ e,On (aL cs) (2 * s+1) e->e≠2 * s+1->∃ e',On (aL cs) (2 * s+1) e'/\aL cs e'=some (some e):=fun e h jf=>by
  cases h with
  | here=>exact absurd rfl jf
  | up h hc=>exact ⟨_,h,hc⟩
 have ft:∀ p,goal p->¬ On (aL cs) (2 * s+1) (2 * p+1):=fun p hp h=>by
  have Zp:=hg p hp
  have gX:ab p=none:=Classical.byContradiction fun z=>F.ng p z hp
  obtain ⟨e',he',hc'⟩:=succ _ h (fun z=>Zp ((show s=p by omega) ▸ hs))
  have hst:=(fr _ _ hc').2.1
  rcases zR hst with ⟨l,hl,rfl⟩ | rfl
  ·have:=(nX c.nd).mpr (c.all p l hp hl)
   rw [hc'] at this
   cases this
  ·obtain ⟨f,hf⟩:=got _ (S1 _ h)
   cases f with
   | none =>
    have:=(c.start _ ((nX c.nd).mp hf)).1
    omega
   | some u =>
    have qX:=(fr _ _ hf).2.1
    rcases (by omega:u=2 * (u / 2)\/u=2 * (u / 2)+1) with e | e
    ·rw [e] at qX hf
     rcases yH qX with ⟨_,z⟩ | ⟨q,z,z2⟩
     ·rw [show u / 2=p by omega] at hf
      have a1:=rk _ _ hf
      have a2:=rk _ _ hc'
      omega
     ·rw [show q=p by omega] at z
      exact (F.up _ _ z).2 gX
    ·rw [e] at qX
     rcases zR qX with ⟨l,_,z⟩ | z <;> omega
 refine ⟨succ,fun e h=>?_,fun e e' u h h' hc hc'=>?_,fun e u h hc=>(fr _ _ hc).2.1,fun e h hc=>c.start e ((nX c.nd).mp hc),.here,hs,fun t h ht=>?_,fun p hp=>⟨fun h=>?_,ft p hp⟩,⟨_,rk⟩⟩
 ·obtain ⟨f,hf⟩:=got _ (S1 e h)
  cases f with
  | none=>exact .inl hf
  | some u=>exact .inr ⟨u,.up h hf,hf⟩
 ·obtain ⟨i,hi⟩:=h.it
  obtain ⟨j,hj⟩:=h'.it
  have ui:it (aL cs) (2 * s+1) (i+1)=some u:=by show (it _ _ i).bind _=_;rw [hi];show (aL cs e).join=_;rw [hc];rfl
  have uj:it (aL cs) (2 * s+1) (j+1)=some u:=by show (it _ _ j).bind _=_;rw [hj];show (aL cs e').join=_;rw [hc'];rfl
  rcases ZtK i j with l | l | l
  ·have:=Iz rk (show i+1<j+1 by omega) ui uj
   omega
  ·subst l
   rw [hi] at hj
   exact Option.some.inj hj
  ·have:=Iz rk (show j+1<i+1 by omega) uj ui
   omega
 ·by_cases e:2 * t+1=2 * s+1
  ·omega
  ·obtain ⟨e',he',hc'⟩:=succ _ h e
   exact absurd ht ((fr _ _ hc').2.2.1 t rfl)
 ·have gX:ab p=none:=Classical.byContradiction fun z=>F.ng p z hp
  obtain ⟨e',he',hc'⟩:=succ _ h (by omega)
  rcases yH (fr _ _ hc').2.1 with ⟨_,rfl⟩ | ⟨q,z,_⟩
  ·exact ft p hp he'
  ·rw [gX] at z;cases z
end MZ
namespace MZ
variable {lo:Nat->List Nat}{goal:Nat->Prop}{ab:Ab}
inductive Wy (ab:Ab) (t:Nat):Nat->Prop where
 | here:Wy ab t t
 | up {p q:Nat} (h:Wy ab t p) (hp:ab p=some (some q)):Wy ab t q
theorem Wy.trans {t p q:Nat} (h:Wy ab t p) (g:Wy ab p q):Wy ab t q:=by
 induction g with
 | here=>exact h
 | up _ hp ih=>exact ih.up hp
theorem Wy.lin {t x y:Nat} (h:Wy ab t x) (g:Wy ab t y):Wy ab x y\/Wy ab y x:=by
 induction h with
 | here=>exact .inl g
 | @up p q h hp ih =>
  rcases ih with z | z
  ·cases z with
   | here=>exact .inr (Wy.here.up hp)
   | @up p' _ z hp' =>
    -- p comes to y by at least one step, oF first of which is to q
    have key:∀ {a b:Nat},Wy ab a b->a=b\/∃ c,ab a=some (some c)/\Wy ab c b:=fun {a b} w=>by
     induction w with
     | here=>exact .inl rfl
     | @up u v w hu ih2 =>
      rcases ih2 with rfl | ⟨c,hc,w2⟩
      ·exact .inr ⟨v,hu,.here⟩
      ·exact .inr ⟨c,hc,w2.up hu⟩
    rcases key (z.up hp') with e | ⟨c,hc,w⟩
    ·subst e
     exact .inr (Wy.here.up hp)
    ·rw [hp] at hc
     cases hc
     exact .inl w
  ·exact .inr (z.up hp)
theorem Wy.qR {t p:Nat} (F:Flow lo goal ab) (ht:ab t≠none) (h:Wy ab t p):ab p≠none:=by
 cases h with
 | here=>exact ht
 | up _ hp=>exact (F.up _ _ hp).2
theorem D2 (F:Flow lo goal ab) (aX:∀ p l,l∈lo p->l<p):∀ p,ab p≠none->∃ t,lo t=[]/\ab t≠none/\Wy ab t p:=by
 intro p
 induction p using Nat.strongRecOn with
 | _ p ih =>
  intro hp
  by_cases hs:lo p=[]
  ·exact ⟨p,hs,hp,.here⟩
  ·obtain ⟨q,hq⟩:=F.src p hp hs
   obtain ⟨t,h1,h2,h3⟩:=ih q (aX _ _ (F.up _ _ hq).1) (by rw [hq];simp)
   exact ⟨t,h1,h2,h3.up hq⟩
theorem HW (F:Flow lo goal ab) {t t' p:Nat} (h:Wy ab t p) (g:Wy ab t' p) (ht:lo t=[]) (nO:lo t'=[]):t=t':=by
 induction h with
 | here =>
  cases g with
  | here=>rfl
  | up g hp=>have:=(F.up _ _ hp).1;rw [ht] at this;simp at this
 | up h hp ih =>
  cases g with
  | here=>have:=(F.up _ _ hp).1;rw [nO] at this;simp at this
  | up g hp'=>exact ih (F.inj _ _ _ hp hp' ▸ g)
theorem GL (F:Flow lo goal ab) (aX:∀ p l,l∈lo p->l<p) {n:Nat} (hn:∀ p,ab p≠none->p<n):∀ (k p:Nat),n - p<=k->ab p≠none->∃ x,Wy ab p x/\ab x=some none
 | 0,p,hk,hp=>by have:=hn p hp;omega
 | k+1,p,hk,hp=>by
  cases h:ab p with
  | none=>exact absurd h hp
  | some o =>
   cases o with
   | none=>exact ⟨p,.here,h⟩
   | some q =>
    have h1:=aX _ _ (F.up _ _ h).1
    have h2:=hn p hp
    obtain ⟨x,hx,ht⟩:=GL F aX hn k q (by omega) (F.up _ _ h).2
    exact ⟨x,(Wy.here.up h).trans hx,ht⟩
structure j7 (lo:Nat->List Nat) (goal:Nat->Prop) (ab:Ab) (K:Nat->Prop):Prop where
 all:∀ g l,goal g->l∈lo g->K (2 * l)
 qT:∀ e e',K e->e'∈fY lo ab e->K e'
 qN:∀ t,K (2 * t+1)->lo t≠[]
noncomputable def pN (K:Nat->Prop) (p:Nat):Prop:=K (2 * p)/\¬ K (2 * p+1)
section
variable {K:Nat->Prop} (S:j7 lo goal ab K)
include S
theorem j7.low {p l:Nat} (h:K (2 * p+1)) (hl:l∈lo p):K (2 * l):=by
 refine S.qT _ _ h ?_
 unfold fY
 rw [if_pos (by omega),show (2 * p+1) / 2=p by omega]
 exact Zsp _ (Zr8.mpr ⟨l,hl,rfl⟩)
theorem j7.own {p:Nat} (h:K (2 * p+1)):K (2 * p):=by
 refine S.qT _ _ h ?_
 unfold fY
 rw [if_pos (by omega),show (2 * p+1) / 2=p by omega]
 exact Zsm _ (Zr2.mpr rfl)
theorem j7.free {p:Nat} (h:K (2 * p)) (hp:ab p=none):K (2 * p+1):=by
 refine S.qT _ _ h ?_
 unfold fY
 rw [if_neg (by omega),show 2 * p / 2=p by omega,hp]
 exact Zr2.mpr rfl
theorem j7.next {p q:Nat} (h:K (2 * p)) (hp:ab p=some (some q)):K (2 * q+1):=by
 refine S.qT _ _ h ?_
 unfold fY
 rw [if_neg (by omega),show 2 * p / 2=p by omega,hp]
 exact Zr2.mpr rfl
theorem Iu {p:Nat} (h:pN K p):ab p≠none:=fun z=>h.2 (S.free h.1 z)
theorem WX (F:Flow lo goal ab) {t p:Nat} (ht:lo t=[]) (h:Wy ab t p) (hk:K (2 * p)):∃ x,Wy ab t x/\pN K x:=by
 induction h with
 | here=>exact ⟨_,.here,hk,fun z=>S.qN _ z ht⟩
 | @up p q h hp ih =>
  by_cases hf:K (2 * q+1)
  ·exact ih (S.low hf (F.up _ _ hp).1)
  ·exact ⟨q,h.up hp,hk,hf⟩
theorem QO {x y:Nat} (h:Wy ab x y) (hk:K (2 * x)):x=y\/K (2 * y+1):=by
 induction h with
 | here=>exact .inl rfl
 | @up p q h hp ih =>
  rcases ih with rfl | z
  ·exact .inr (S.next hk hp)
  ·exact .inr (S.next (S.own z) hp)
theorem WI {t x y:Nat} (hx:Wy ab t x) (hy:Wy ab t y) (sx:pN K x) (sy:pN K y):x=y:=by
 rcases hx.lin hy with z | z
 ·rcases QO S z sx.1 with e | e
  ·exact e
  ·exact absurd e sy.2
 ·rcases QO S z sy.1 with e | e
  ·exact e.symm
  ·exact absurd e sx.2
end
theorem wy {α β:Type} [DecidableEq β] {R:α->β->Prop} (Sf:∀ a a' b,R a b->R a' b->a=a'):∀ {A:List α}{B:List β},A.Nodup->(∀ a∈A,∃ b∈B,R a b)->A.length<=B.length
 | [],B,_,_=>Ztx _
 | a :: A,B,nd,h=>by
  rw [ZsI] at nd
  obtain ⟨b,hb,hr⟩:=h a (Zsl ..)
  have:=wy Sf (A:=A) (B:=B.erase b) nd.2 fun a' ha'=>by
   obtain ⟨b',hb',hr'⟩:=h a' (Zso _ ha')
   refine ⟨b',?_,hr'⟩
   refine (List.mem_erase_of_ne fun e=>?_).mpr hb'
   subst e
   rw [Sf a a' b' hr hr'] at nd
   exact nd.1 ha'
  rw [List.length_erase_of_mem hb] at this
  have:0<B.length:=List.length_pos_of_mem hb
  rw [Zsf]
  omega
theorem UE {K:Nat->Prop} (S:j7 lo goal ab K) (F:Flow lo goal ab) (aX:∀ p l,l∈lo p->l<p) {n:Nat} (hn:∀ p,ab p≠none->p<n) {A B:List Nat} (nA:A.Nodup) (nB:B.Nodup) (hA:∀ t,t∈A ↔ lo t=[]/\ab t≠none) (hB:∀ p,p∈B ↔ pN K p):A.length=B.length:=by
 refine Nat.le_antisymm (wy (R:=fun t p=>Wy ab t p/\lo t=[]) (fun a a' b h h'=>HW F h.1 h'.1 h.2 h'.2) nA fun t ht=>?_) (wy (R:=fun p t=>Wy ab t p/\pN K p) (fun a a' b h h'=>WI S h.1 h'.1 h.2 h'.2) nB fun p hp=>?_)
 ·obtain ⟨h1,h2⟩:=(hA t).mp ht
  obtain ⟨x,hx,ho⟩:=GL F aX hn _ t (Zts _) h2
  obtain ⟨g,hg,hl⟩:=F.top x ho
  obtain ⟨y,hy,hst⟩:=WX S F h1 hx (S.all g x hg hl)
  exact ⟨y,(hB y).mpr hst,hy,h1⟩
 ·have hst:=(hB p).mp hp
  obtain ⟨t,h1,h2,h3⟩:=D2 F aX p (Iu S hst)
  exact ⟨t,(hA t).mpr ⟨h1,h2⟩,h3,hst⟩
end MZ
namespace MZ
noncomputable def nH (as:Cs) (p:Nat) (o:Option Nat):Cs:=if (as.any fun x=>decide (x.1=p))=true then as.map (fun x=>if x.1=p then (x.1,o) else x) else as ++ [(p,o)]
noncomputable def zt (as:Cs) (p:Nat):Cs:=as.filter fun x=>decide (x.1≠p)
theorem BY (as:Cs) (p:Nat):(as.any fun x=>decide (x.1=p))=true ↔ p∈keys as:=by
 unfold keys
 rw [Zth,Zr8]
 constructor
 ·rintro ⟨x,hx,e⟩;exact ⟨x,hx,of_decide_eq_true e⟩
 ·rintro ⟨x,hx,e⟩;exact ⟨x,hx,decide_eq_true e⟩
theorem zB {as:Cs}{p:Nat}:aL as p=none ↔ p ∉ keys as:=by
 unfold aL keys
 rw [Option.map_eq_none_iff,List.find?_eq_none,Zr8]
 constructor
 ·rintro h ⟨x,hx,e⟩
  exact h x hx (decide_eq_true e)
 ·intro h x hx e
  exact h ⟨x,hx,of_decide_eq_true e⟩
theorem qP {as:Cs}{p:Nat}:aL as p≠none ↔ p∈keys as:=by
 rw [ne_eq,zB]
 exact Classical.not_not
theorem KW (as:Cs) (p:Nat) (o:Option Nat):keys (nH as p o)=if p∈keys as then keys as else keys as ++ [p]:=by
 unfold nH
 by_cases h:p∈keys as
 ·rw [if_pos ((BY as p).mpr h),if_pos h]
  unfold keys
  rw [Zsd]
  refine ZsL fun x _=>?_
  show (if x.1=p then (x.1,o) else x).1=x.1
  split <;> rfl
 ·rw [if_neg (fun z=>h ((BY as p).mp z)),if_neg h]
  unfold keys
  rw [Zr4]
  rfl
theorem Bq {as:Cs} (nd:(keys as).Nodup) (p:Nat) (o:Option Nat):(keys (nH as p o)).Nodup:=by
 rw [KW]
 split
 ·exact nd
 ·rename_i h
  rw [Zs5]
  refine ⟨nd,by simp,fun x hx y hy e=>?_⟩
  rw [Zr2] at hy
  subst hy e
  exact h hx
theorem HV {as:Cs} (nd:(keys as).Nodup) (p:Nat) (o:Option Nat) (q:Nat):aL (nH as p o) q=if q=p then some o else aL as q:=by
 have nd':=Bq nd p o
 have mem:∀ f,(q,f)∈nH as p o ↔ if q=p then f=o else (q,f)∈as:=fun f=>by
  unfold nH
  by_cases h:p∈keys as
  ·rw [if_pos ((BY as p).mpr h),Zr8]
   by_cases e:q=p
   ·subst e
    rw [if_pos rfl]
    constructor
    ·rintro ⟨x,_,hx⟩
     by_cases hq:x.1=q
     ·rw [if_pos hq] at hx;cases hx;rfl
     ·rw [if_neg hq] at hx;rw [hx] at hq;exact absurd rfl hq
    ·rintro rfl
     obtain ⟨x,hx,e⟩:=Zr8.mp h
     exact ⟨x,hx,by rw [if_pos e,e]⟩
   ·rw [if_neg e]
    constructor
    ·rintro ⟨x,hm,hx⟩
     by_cases hq:x.1=p
     ·rw [if_pos hq] at hx;cases hx;exact absurd hq e
     ·rw [if_neg hq] at hx;rw [<- hx];exact hm
    ·intro hm
     exact ⟨_,hm,by rw [if_neg e]⟩
  ·rw [if_neg (fun z=>h ((BY as p).mp z)),Zr3,Zr2]
   by_cases e:q=p
   ·subst e
    rw [if_pos rfl]
    constructor
    ·rintro (z | z)
     ·exact absurd (Zr8.mpr ⟨_,z,rfl⟩) h
     ·cases z;rfl
    ·rintro rfl;exact .inr rfl
   ·rw [if_neg e]
    constructor
    ·rintro (z | z)
     ·exact z
     ·cases z;exact absurd rfl e
    ·exact .inl
 by_cases e:q=p
 ·rw [if_pos e]
  exact (nX nd').mpr ((mem o).mpr (by rw [if_pos e]))
 ·rw [if_neg e]
  cases h:aL as q with
  | some f=>exact (nX nd').mpr ((mem f).mpr (by rw [if_neg e];exact (nX nd).mp h))
  | none =>
   rw [zB] at h ⊢
   rw [KW]
   split
   ·exact h
   ·rw [Zr3,Zr2]
    exact fun z=>z.elim h e
theorem NN {as:Cs} (nd:(keys as).Nodup) (p:Nat):(keys (zt as p)).Nodup:=by
 unfold keys zt
 exact Zte.sublist ((List.filter_sublist).map _) nd
theorem VH {as:Cs} (nd:(keys as).Nodup) (p q:Nat):aL (zt as p) q=if q=p then none else aL as q:=by
 have nd':=NN nd p
 by_cases e:q=p
 ·rw [if_pos e,zB]
  intro h
  obtain ⟨x,hx,e2⟩:=Zr8.mp h
  have:=(Zsy.mp hx).2
  simp at this
  exact this (e2.trans e)
 ·rw [if_neg e]
  cases h:aL as q with
  | some f=>exact (nX nd').mpr (Zsy.mpr ⟨(nX nd).mp h,by simpa using e⟩)
  | none =>
   rw [zB] at h ⊢
   intro z
   obtain ⟨x,hx,e2⟩:=Zr8.mp z
   exact h (Zr8.mpr ⟨x,(Zsy.mp hx).1,e2⟩)
noncomputable def nG (cm:Cm) (t i:Nat) (e:Nat):Prop:=∃ j,j<i/\it cm t j=some e
theorem Zp5 {cm:Cm}{t i:Nat}{e:Nat} (h:it cm t i=none):nG cm t i e ↔ On cm t e:=by
  have on:∀ {j a},it cm t j=some a->On cm t a:=by
    intro j
    induction j with
    | zero=>intro a ha;cases ha;exact .here
    | succ j ih =>
      intro a ha
      have ha:(it cm t j).bind (fun e=>(cm e).join)=some a:=ha
      cases hj:it cm t j with
      | none=>rw [hj] at ha;cases ha
      | some b =>
        rw [hj] at ha
        have ha:(cm b).join=some a:=ha
        refine (ih hj).up ?_
        cases hc:cm b with
        | none=>rw [hc] at ha;cases ha
        | some o=>rw [hc] at ha;rw [show o=some a from ha]
  have mT:∀ j,i<=j->it cm t j=none:=by
    intro j
    induction j with
    | zero => intro hj; have : i = 0 := by omega
              subst this;exact h
    | succ j ih =>
      intro hj
      by_cases e:i=j+1
      · subst e;exact h
      · show (it cm t j).bind _=none
        rw [ih (by omega)]
        rfl
  constructor
  · rintro ⟨j,_,hj⟩
    exact on hj
  · intro ho
    obtain ⟨j,hj⟩:=ho.it
    refine ⟨j,ZtF fun hle=>?_,hj⟩
    rw [mT j hle] at hj
    cases hj
theorem Zmk {ab:Ab}{cm:Cm}{π π':Nat->Prop} (h:∀ e,π e ↔ π' e):lead ab cm π=lead ab cm π':=by
 have:π=π':=funext fun e=>propext (h e)
 rw [this]
theorem Yo {ab:Ab}{cm:Cm}{t:Nat}:lead ab cm (nG cm t 0)=ab:=by
 funext p
 exact pC (fun ⟨j,hj,_⟩=>by omega)
theorem Q0 {ab:Ab}{cm:Cm}{t i e p:Nat} (h:it cm t i=some e) (hp:2 * p≠e):lead ab cm (nG cm t (i+1)) p=lead ab cm (nG cm t i) p:=by
 have:nG cm t (i+1) (2 * p) ↔ nG cm t i (2 * p):=by
  constructor
  ·rintro ⟨j,hj,hj2⟩
   by_cases e1:j=i
   ·subst e1;rw [h] at hj2;exact absurd (Option.some.inj hj2).symm hp
   ·exact ⟨j,by omega,hj2⟩
  ·rintro ⟨j,hj,hj2⟩
   exact ⟨j,by omega,hj2⟩
 unfold lead
 by_cases g:nG cm t i (2 * p)
 ·rw [if_pos g,if_pos (this.mpr g)]
 ·rw [if_neg g,if_neg (fun z=>g (this.mp z))]
theorem Ui {cm:Cm}{t i e:Nat} (h:it cm t i=some e):nG cm t (i+1) e:=⟨i,by omega,h⟩
end MZ
namespace ML
open MZ
inductive Dn (lo:Nat->List Nat) (k:Nat):Nat->Prop where
 | here:Dn lo k k
 | low {y x:Nat} (h:Dn lo k y) (hx:x∈lo y):Dn lo k x
inductive fQ (lo:Nat->List Nat) (C:Nat->Prop):Nat->Prop where
 | d0 {p:Nat}:¬ C p->lo p=[]->fQ lo C p
 | up {p l:Nat}:¬ C p->l∈lo p->fQ lo C l->fQ lo C p
variable {lo:Nat->List Nat}
theorem Dn.trans {k y x:Nat} (h:Dn lo k y) (g:Dn lo y x):Dn lo k x:=by
 induction g with
 | here=>exact h
 | low _ hx ih=>exact ih.low hx
theorem Dn.le (aX:∀ p l,l∈lo p->l<p) {k x:Nat} (h:Dn lo k x):x<=k:=by
 induction h with
 | here=>exact Zts _
 | low _ hx ih=>have:=aX _ _ hx;omega
theorem Dn.first {k x:Nat} (h:Dn lo k x):x=k\/∃ l∈lo k,Dn lo l x:=by
 induction h with
 | here=>exact .inl rfl
 | low _ hx ih =>
  rcases ih with rfl | ⟨l,hl,g⟩
  ·exact .inr ⟨_,hx,.here⟩
  ·exact .inr ⟨l,hl,g.low hx⟩
theorem fQ.lift {C:Nat->Prop}{k z:Nat} (h:Dn lo k z) (hC:∀ y,Dn lo k y->Dn lo y z->¬ C y) (w:fQ lo C z):fQ lo C k:=by
 induction h with
 | here=>exact w
 | @low y x h hx ih=>exact ih (fun v h1 h2=>hC v h1 (h2.low hx)) (.up (hC y h (.low .here hx)) hx w)
theorem Us (aX:∀ p l,l∈lo p->l<p):∀ n p:Nat,p<n->fQ lo (fun c=>c∈([]:List Nat)) p:=by
 intro n
 induction n with
 | zero=>intro p hp;omega
 | succ n ih =>
  intro p hp
  cases h:lo p with
  | nil=>exact .d0 (by simp) h
  | cons x r =>
   have hx:x∈lo p:=by rw [h];exact Zsl ..
   exact .up (by simp) hx (ih x (by have:=aX p x hx;omega))
theorem Zs {ab:Ab}{goal:Nat->Prop}{C:Nat->Prop} (F:Flow lo goal ab) {t:Nat} (ht:lo t=[]) {p:Nat} (h:Wy ab t p) (hC:∀ x,Wy ab t x->¬ C x):fQ lo C p:=by
 induction h with
 | here=>exact .d0 (hC _ .here) ht
 | up h hp ih=>exact .up (hC _ (h.up hp)) (F.up _ _ hp).1 ih
theorem U1 {ab:Ab}{goal:Nat->Prop}{K:Nat->Prop} (S:j7 lo goal ab K) {C:Nat->Prop} (hC:∀ p,pN K p->C p) {x:Nat} (h:fQ lo C x):¬ K (2 * x):=by
 induction h with
 | d0 nb hl =>
  intro hk
  exact nb (hC _ ⟨hk,fun z=>S.qN _ z hl⟩)
 | up nb hl _ ih =>
  intro hk
  exact nb (hC _ ⟨hk,fun z=>ih (S.low z hl)⟩)
theorem EG {ab:Ab}{goal:Nat->Prop} (F:Flow lo goal ab) {p x:Nat} (h:Wy ab p x):Dn lo x p:=by
 induction h with
 | here=>exact .here
 | up h hp ih=>exact (Dn.low .here (F.up _ _ hp).1).trans ih
structure pd (lo:Nat->List Nat) (lv:Nat->Nat) (s k:Nat) (C:List Nat):Prop where
 mono:∀ l∈lo k,lv l<=lv k
 kf:C.Pairwise (· < ·)
 len:C.length<=s
 dn:∀ c∈C,Dn lo k c/\c≠k
 le:∀ c∈C,lv c+1<=lv k
 qN:∀ l∈lo k,¬ fQ lo (fun c=>c∈C) l
 low:∀ B:List Nat,B.length<=s->(∀ l∈lo k,¬ fQ lo (fun c=>c∈B) l)->∃ c∈B,lv k<=lv c+1
theorem pd.top {lv:Nat->Nat}{s k:Nat}{C:List Nat} (h:pd lo lv s k C):∃ c∈C,lv c+1=lv k:=by
 obtain ⟨c,hc,z⟩:=h.low C h.len h.qN
 have:=h.le c hc
 exact ⟨c,hc,by omega⟩
theorem pd.ext {lv Al:Nat->Nat}{s k:Nat}{C:List Nat} (aX:∀ p l,l∈lo p->l<p) (h:pd lo lv s k C) (he:∀ x,x<=k->Al x=lv x) (hm:∀ x,lv x<=Al x):pd lo Al s k C where
 mono:=fun l hl=>by
  rw [he k (Zts _),he l (by have:=aX k l hl;omega)]
  exact h.mono l hl
 kf:=h.kf
 len:=h.len
 dn:=h.dn
 le:=fun c hc=>by
  rw [he k (Zts _),he c ((h.dn c hc).1.le aX)]
  exact h.le c hc
 qN:=h.qN
 low:=fun B hB hd=>by
  obtain ⟨c,hc,z⟩:=h.low B hB hd
  exact ⟨c,hc,by rw [he k (Zts _)];have:=hm c;omega⟩
section
variable {lv:Nat->Nat}{s k g:Nat} (aX:∀ p l,l∈lo p->l<p) (jf:lo k≠[])
include aX
theorem Ti (hm:∀ y,y<k->∀ l∈lo y,lv l<=lv y) {y x:Nat} (h:Dn lo y x) (hy:y<k):lv x<=lv y:=by
 induction h with
 | here=>exact Zts _
 | @low z x h hx ih =>
  have:=h.le aX
  have:=hm z (by omega) x hx
  omega
include jf
theorem Ra:∀ l∈lo k,¬ fQ lo (fun c=>c∈lo k) l:=fun l hl w=>by
 cases w with
 | d0 n _=>exact n hl
 | up n _ _=>exact n hl
theorem Zw (hr:(lo k).Pairwise (· < ·)) (h2:(lo k).length<=s) (h0:∀ l∈lo k,lv l=0) (hk:lv k=1):pd lo lv s k (lo k) where
 mono:=fun l hl=>by rw [h0 l hl];omega
 kf:=hr
 len:=h2
 dn:=fun c hc=>⟨.low .here hc,by have:=aX k c hc;omega⟩
 le:=fun c hc=>by rw [h0 c hc,hk];omega
 qN:=Ra aX jf
 low:=fun B hB hd=>by
  cases B with
  | cons c B=>exact ⟨c,Zsl ..,by omega⟩
  | nil =>
   obtain ⟨l,hl⟩:=List.exists_mem_of_ne_nil _ jf
   exact absurd (Us aX (l+1) l (by omega)) (hd l hl)
theorem Z9 (hr:(lo k).Pairwise (· < ·)) (h2:(lo k).length<=s) (hm:∀ y,y<k->∀ l∈lo y,lv l<=lv y) (hg:∀ l∈lo k,lv l<=g) (hk:lv k=g+1) {goal:Nat->Prop}{ab:Ab} (F:Flow lo goal ab)
  (ml:∀ z,goal z->z=k\/(Dn lo k z/\lv z=g)) {n:Nat} (hn:∀ p,ab p≠none->p<n) {ss:List Nat} (nd:ss.Nodup) (mem:∀ t,t∈ss ↔ lo t=[]/\ab t≠none) (hs:ss.length=s+1):pd lo lv s k (lo k) where
 mono:=fun l hl=>by have:=hg l hl;omega
 kf:=hr
 len:=h2
 dn:=fun c hc=>⟨.low .here hc,by have:=aX k c hc;omega⟩
 le:=fun c hc=>by have:=hg c hc;omega
 qN:=Ra aX jf
 low:=fun B hB hd=>by
  refine Classical.byContradiction fun kG=>?_
  have Eh:∀ c∈B,lv c<g:=fun c hc=>ZtF fun z=>kG ⟨c,hc,by omega⟩
  have:ss.length<=B.length:=by
   refine wy (R:=fun t p=>lo t=[]/\Wy ab t p) (fun a a' b h h'=>HW F h.2 h'.2 h.1 h'.1) nd fun t ht=>?_
   obtain ⟨h1,h2⟩:=(mem t).mp ht
   refine Classical.byContradiction fun hb=>?_
   have hB':∀ x,Wy ab t x->¬ x∈B:=fun x hx z=>hb ⟨x,z,h1,hx⟩
   obtain ⟨x,hx,hxt⟩:=GL F aX hn (n - t) t (Zts _) h2
   obtain ⟨z,hz,hl⟩:=F.top x hxt
   have w:=Zs (C:=fun c=>c∈B) F h1 hx hB'
   rcases ml z hz with rfl | ⟨hd1,hd2⟩
   ·exact hd x hl w
   ·have nz:¬ z∈B:=fun e=>by have:=Eh z e;omega
    have wz:fQ lo (fun c=>c∈B) z:=.up nz hl w
    rcases hd1.first with rfl | ⟨l,mK,yg⟩
    ·exact hd x hl w
    ·refine hd l mK (fQ.lift yg (fun y _ h2 e=>?_) wz)
     have hy:=Eh y e
     rename_i h1y
     have h3:=h1y.le aX
     have h4:=aX k l mK
     have:=Ti aX hm h2 (by omega)
     omega
  omega
theorem IJ (hm:∀ y,y<k->∀ l∈lo y,lv l<=lv y) (hg:∀ l∈lo k,lv l<=g) {goal:Nat->Prop}{ab:Ab} (F:Flow lo goal ab)
  (ml:∀ z,goal z ↔ z=k\/(Dn lo k z/\lv z=g)) {n:Nat} (hn:∀ p,ab p≠none->p<n) {c:Nat} (hd:ab c≠none):Dn lo k c/\c≠k/\lv c<g:=by
 have Rr:=F.ng c hd
 obtain ⟨x,hx,hxt⟩:=GL F aX hn (n - c) c (Zts _) hd
 obtain ⟨z,hz,hlz⟩:=F.top x hxt
 have dz:Dn lo k z:=by
  rcases (ml z).mp hz with rfl | ⟨h,_⟩
  ·exact .here
  ·exact h
 have dc:=(dz.low hlz).trans (EG F hx)
 have nk:c≠k:=fun e=>Rr ((ml c).mpr (.inl e))
 have ng:lv c≠g:=fun e=>Rr ((ml c).mpr (.inr ⟨dc,e⟩))
 refine ⟨dc,nk,?_⟩
 rcases dc.first with e | ⟨l',hl',dl⟩
 ·exact absurd e nk
 ·have:=Ti aX hm dl (aX k l' hl')
  have:=hg l' hl'
  omega
theorem Z6 (hm:∀ y,y<k->∀ l∈lo y,lv l<=lv y) (hg:∀ l∈lo k,lv l<=g) (hk:lv k=g) {goal:Nat->Prop}{ab:Ab} (F:Flow lo goal ab)
  (ml:∀ z,goal z ↔ z=k\/(Dn lo k z/\lv z=g)) {n:Nat} (hn:∀ p,ab p≠none->p<n) {ss:List Nat} (nd:ss.Nodup) (mem:∀ t,t∈ss ↔ lo t=[]/\ab t≠none) (hs:ss.length<=s)
  {K:Nat->Prop} (S:j7 lo goal ab K) {C:List Nat} (hr:C.Pairwise (· < ·)) (hC:∀ p,p∈C ↔ pN K p) {l:Nat}{Cl:List Nat} (hl:l∈lo k) (Bn:lv l=g) (hL:pd lo lv s l Cl):pd lo lv s k C where
 mono:=fun l hl=>by have:=hg l hl;omega
 kf:=hr
 len:=by
  have:=UE S F aX hn nd (hr.imp fun h=>Ztu h) mem hC
  omega
 dn:=fun c hc=>by
  have:=IJ aX jf hm hg F ml hn (Iu S ((hC c).mp hc))
  exact ⟨this.1,this.2.1⟩
 le:=fun c hc=>by
  have:=IJ aX jf hm hg F ml hn (Iu S ((hC c).mp hc))
  omega
 qN:=fun l hl w=>U1 S (fun p hp=>(hC p).mpr hp) w (S.all k l ((ml k).mpr (.inl rfl)) hl)
 low:=fun B hB hd=>by
  by_cases e:l∈B
  ·exact ⟨l,e,by omega⟩
  ·have yg:=hd l hl
   obtain ⟨c,hc,z⟩:=hL.low B hB fun x hx w=>yg (.up e hx w)
   exact ⟨c,hc,by omega⟩
end
end ML
namespace L2
open PySem PySem.Spec PyProof.Rows
noncomputable def aO (u:TS):TS:=u
theorem aV {X:Cx}{l:List Stmt}{u:TS} (h:jl X l u):jl X l (aO u):=h
section
variable {t u:TS}{D:Ends}{σ:St}{H:Hp}
theorem Tx (h:aD t u D σ H):aO (aD t u) D σ H:=h
theorem QU (h:me t u D σ H):aO (me t u) D σ H:=h
theorem PQ {i:TI}{g:TG} (h:eD i g u D σ H):aO (eD i g u) D σ H:=h
theorem Vw {c:TT} (h:wO c u D σ H):aO (wO c u) D σ H:=h
theorem Tf {c:TT} (h:cQ c t u D σ H):aO (cQ c t u) D σ H:=h
theorem N6 {e:TE} (h:cn e D σ H):aO (cn e) D σ H:=h
theorem ER (h:∀ N:St->Hp->Prop,(∀ σ' H',u D σ' H'->N σ' H')->t { D with nx:=N } σ H):aO (aD t u) D σ H:=h (u D) fun _ _ x=>x
theorem ZR {e:TE}{g:TG} (h:bb e g D σ H):aO (bb e g) D σ H:=h
end
structure A3 (a b c:Prop):Prop where mk :: (p1:a) (p2:b) (p3:c)
structure A4 (a b c d:Prop):Prop where mk :: (p1:a) (p2:b) (p3:c) (p4:d)
structure A5 (a b c d e:Prop):Prop where mk :: (p1:a) (p2:b) (p3:c) (p4:d) (p5:e)
structure A6 (a b c d e f:Prop):Prop where mk :: (p1:a) (p2:b) (p3:c) (p4:d) (p5:e) (p6:f)
inductive A7 (a b c d e f g:Prop):Prop | mk:a->b->c->d->e->f->g->A7 a b c d e f g
inductive A8 (a b c d e f g h:Prop):Prop | mk:a->b->c->d->e->f->g->h->A8 a b c d e f g h
inductive A9 (a b c d e f g h i:Prop):Prop | mk:a->b->c->d->e->f->g->h->i->A9 a b c d e f g h i
inductive A10 (a b c d e f g h i j:Prop):Prop | mk:a->b->c->d->e->f->g->h->i->j->A10 a b c d e f g h i j
inductive A11 (a b c d e f g h i j k:Prop):Prop | mk:a->b->c->d->e->f->g->h->i->j->k->A11 a b c d e f g h i j k
inductive A12 (a b c d e f g h i j k l:Prop):Prop | mk:a->b->c->d->e->f->g->h->i->j->k->l->A12 a b c d e f g h i j k l
inductive A13 (a b c d e f g h i j k l m:Prop):Prop | mk:a->b->c->d->e->f->g->h->i->j->k->l->m->A13 a b c d e f g h i j k l m
inductive A14 (a b c d e f g h i j k l m n:Prop):Prop | mk:a->b->c->d->e->f->g->h->i->j->k->l->m->n->A14 a b c d e f g h i j k l m n
inductive A15 (a b c d e f g h i j k l m n o:Prop):Prop | mk:a->b->c->d->e->f->g->h->i->j->k->l->m->n->o->A15 a b c d e f g h i j k l m n o
inductive A16 (a b c d e f g h i j k l m n o p:Prop):Prop | mk:a->b->c->d->e->f->g->h->i->j->k->l->m->n->o->p->A16 a b c d e f g h i j k l m n o p
inductive A17 (a b c d e f g h i j k l m n o p q:Prop):Prop | mk:a->b->c->d->e->f->g->h->i->j->k->l->m->n->o->p->q->A17 a b c d e f g h i j k l m n o p q
inductive A18 (a b c d e f g h i j k l m n o p q r:Prop):Prop | mk:a->b->c->d->e->f->g->h->i->j->k->l->m->n->o->p->q->r->A18 a b c d e f g h i j k l m n o p q r
inductive A19 (a b c d e f g h i j k l m n o p q r s:Prop):Prop | mk:a->b->c->d->e->f->g->h->i->j->k->l->m->n->o->p->q->r->s->A19 a b c d e f g h i j k l m n o p q r s
inductive A20 (a b c d e f g h i j k l m n o p q r s t:Prop):Prop | mk:a->b->c->d->e->f->g->h->i->j->k->l->m->n->o->p->q->r->s->t->A20 a b c d e f g h i j k l m n o p q r s t
inductive A21 (a b c d e f g h i j k l m n o p q r s t u:Prop):Prop | mk:a->b->c->d->e->f->g->h->i->j->k->l->m->n->o->p->q->r->s->t->u->A21 a b c d e f g h i j k l m n o p q r s t u
inductive A22 (a b c d e f g h i j k l m n o p q r s t u v:Prop):Prop | mk:a->b->c->d->e->f->g->h->i->j->k->l->m->n->o->p->q->r->s->t->u->v->A22 a b c d e f g h i j k l m n o p q r s t u v
inductive A23 (a b c d e f g h i j k l m n o p q r s t u v w:Prop):Prop | mk:a->b->c->d->e->f->g->h->i->j->k->l->m->n->o->p->q->r->s->t->u->v->w->A23 a b c d e f g h i j k l m n o p q r s t u v w
inductive A24 (a b c d e f g h i j k l m n o p q r s t u v w x:Prop):Prop | mk:a->b->c->d->e->f->g->h->i->j->k->l->m->n->o->p->q->r->s->t->u->v->w->x->A24 a b c d e f g h i j k l m n o p q r s t u v w x
inductive A25 (a b c d e f g h i j k l m n o p q r s t u v w x y:Prop):Prop | mk:a->b->c->d->e->f->g->h->i->j->k->l->m->n->o->p->q->r->s->t->u->v->w->x->y->A25 a b c d e f g h i j k l m n o p q r s t u v w x y
inductive A26 (a b c d e f g h i j k l m n o p q r s t u v w x y z:Prop):Prop | mk:a->b->c->d->e->f->g->h->i->j->k->l->m->n->o->p->q->r->s->t->u->v->w->x->y->z->A26 a b c d e f g h i j k l m n o p q r s t u v w x y z
inductive A27 (a b c d e f g h i j k l m n o p q r s t u v w x y z A:Prop):Prop | mk:a->b->c->d->e->f->g->h->i->j->k->l->m->n->o->p->q->r->s->t->u->v->w->x->y->z->A->A27 a b c d e f g h i j k l m n o p q r s t u v w x y z A
inductive A28 (a b c d e f g h i j k l m n o p q r s t u v w x y z A B:Prop):Prop | mk:a->b->c->d->e->f->g->h->i->j->k->l->m->n->o->p->q->r->s->t->u->v->w->x->y->z->A->B->A28 a b c d e f g h i j k l m n o p q r s t u v w x y z A B
inductive A29 (a b c d e f g h i j k l m n o p q r s t u v w x y z A B C:Prop):Prop | mk:a->b->c->d->e->f->g->h->i->j->k->l->m->n->o->p->q->r->s->t->u->v->w->x->y->z->A->B->C->A29 a b c d e f g h i j k l m n o p q r s t u v w x y z A B C
inductive A30 (a b c d e f g h i j k l m n o p q r s t u v w x y z A B C D:Prop):Prop | mk:a->b->c->d->e->f->g->h->i->j->k->l->m->n->o->p->q->r->s->t->u->v->w->x->y->z->A->B->C->D->A30 a b c d e f g h i j k l m n o p q r s t u v w x y z A B C D
inductive E2 {a b:Type} (P:a->b->Prop):Prop | mk (xa:a) (xb:b):P xa xb->E2 P
inductive E3 {a b c:Type} (P:a->b->c->Prop):Prop | mk (xa:a) (xb:b) (xc:c):P xa xb xc->E3 P
inductive E4 {a b c d:Type} (P:a->b->c->d->Prop):Prop | mk (xa:a) (xb:b) (xc:c) (xd:d):P xa xb xc xd->E4 P
inductive E5 {a b c d e:Type} (P:a->b->c->d->e->Prop):Prop | mk (xa:a) (xb:b) (xc:c) (xd:d) (xe:e):P xa xb xc xd xe->E5 P
inductive E6 {a b c d e f:Type} (P:a->b->c->d->e->f->Prop):Prop | mk (xa:a) (xb:b) (xc:c) (xd:d) (xe:e) (xf:f):P xa xb xc xd xe xf->E6 P
inductive E7 {a b c d e f g:Type} (P:a->b->c->d->e->f->g->Prop):Prop | mk (xa:a) (xb:b) (xc:c) (xd:d) (xe:e) (xf:f) (xg:g):P xa xb xc xd xe xf xg->E7 P
inductive E8 {a b c d e f g h:Type} (P:a->b->c->d->e->f->g->h->Prop):Prop | mk (xa:a) (xb:b) (xc:c) (xd:d) (xe:e) (xf:f) (xg:g) (xh:h):P xa xb xc xd xe xf xg xh->E8 P
inductive E9 {a b c d e f g h i:Type} (P:a->b->c->d->e->f->g->h->i->Prop):Prop | mk (xa:a) (xb:b) (xc:c) (xd:d) (xe:e) (xf:f) (xg:g) (xh:h) (xi:i):P xa xb xc xd xe xf xg xh xi->E9 P
inductive E10 {a b c d e f g h i j:Type} (P:a->b->c->d->e->f->g->h->i->j->Prop):Prop | mk (xa:a) (xb:b) (xc:c) (xd:d) (xe:e) (xf:f) (xg:g) (xh:h) (xi:i) (xj:j):P xa xb xc xd xe xf xg xh xi xj->E10 P
inductive E11 {a b c d e f g h i j k:Type} (P:a->b->c->d->e->f->g->h->i->j->k->Prop):Prop | mk (xa:a) (xb:b) (xc:c) (xd:d) (xe:e) (xf:f) (xg:g) (xh:h) (xi:i) (xj:j) (xk:k):P xa xb xc xd xe xf xg xh xi xj xk->E11 P
inductive E12 {a b c d e f g h i j k l:Type} (P:a->b->c->d->e->f->g->h->i->j->k->l->Prop):Prop | mk (xa:a) (xb:b) (xc:c) (xd:d) (xe:e) (xf:f) (xg:g) (xh:h) (xi:i) (xj:j) (xk:k) (xl:l):P xa xb xc xd xe xf xg xh xi xj xk xl->E12 P
inductive E13 {a b c d e f g h i j k l m:Type} (P:a->b->c->d->e->f->g->h->i->j->k->l->m->Prop):Prop | mk (xa:a) (xb:b) (xc:c) (xd:d) (xe:e) (xf:f) (xg:g) (xh:h) (xi:i) (xj:j) (xk:k) (xl:l) (xm:m):P xa xb xc xd xe xf xg xh xi xj xk xl xm->E13 P
inductive E14 {a b c d e f g h i j k l m n:Type} (P:a->b->c->d->e->f->g->h->i->j->k->l->m->n->Prop):Prop | mk (xa:a) (xb:b) (xc:c) (xd:d) (xe:e) (xf:f) (xg:g) (xh:h) (xi:i) (xj:j) (xk:k) (xl:l) (xm:m) (xn:n):P xa xb xc xd xe xf xg xh xi xj xk xl xm xn->E14 P
inductive E15 {a b c d e f g h i j k l m n o:Type} (P:a->b->c->d->e->f->g->h->i->j->k->l->m->n->o->Prop):Prop | mk (xa:a) (xb:b) (xc:c) (xd:d) (xe:e) (xf:f) (xg:g) (xh:h) (xi:i) (xj:j) (xk:k) (xl:l) (xm:m) (xn:n) (xo:o):P xa xb xc xd xe xf xg xh xi xj xk xl xm xn xo->E15 P
inductive E16 {a b c d e f g h i j k l m n o p:Type} (P:a->b->c->d->e->f->g->h->i->j->k->l->m->n->o->p->Prop):Prop | mk (xa:a) (xb:b) (xc:c) (xd:d) (xe:e) (xf:f) (xg:g) (xh:h) (xi:i) (xj:j) (xk:k) (xl:l) (xm:m) (xn:n) (xo:o) (xp:p):P xa xb xc xd xe xf xg xh xi xj xk xl xm xn xo xp->E16 P
inductive E17 {a b c d e f g h i j k l m n o p q:Type} (P:a->b->c->d->e->f->g->h->i->j->k->l->m->n->o->p->q->Prop):Prop | mk (xa:a) (xb:b) (xc:c) (xd:d) (xe:e) (xf:f) (xg:g) (xh:h) (xi:i) (xj:j) (xk:k) (xl:l) (xm:m) (xn:n) (xo:o) (xp:p) (xq:q):P xa xb xc xd xe xf xg xh xi xj xk xl xm xn xo xp xq->E17 P
inductive E18 {a b c d e f g h i j k l m n o p q r:Type} (P:a->b->c->d->e->f->g->h->i->j->k->l->m->n->o->p->q->r->Prop):Prop | mk (xa:a) (xb:b) (xc:c) (xd:d) (xe:e) (xf:f) (xg:g) (xh:h) (xi:i) (xj:j) (xk:k) (xl:l) (xm:m) (xn:n) (xo:o) (xp:p) (xq:q) (xr:r):P xa xb xc xd xe xf xg xh xi xj xk xl xm xn xo xp xq xr->E18 P
inductive E19 {a b c d e f g h i j k l m n o p q r s:Type} (P:a->b->c->d->e->f->g->h->i->j->k->l->m->n->o->p->q->r->s->Prop):Prop | mk (xa:a) (xb:b) (xc:c) (xd:d) (xe:e) (xf:f) (xg:g) (xh:h) (xi:i) (xj:j) (xk:k) (xl:l) (xm:m) (xn:n) (xo:o) (xp:p) (xq:q) (xr:r) (xs:s):P xa xb xc xd xe xf xg xh xi xj xk xl xm xn xo xp xq xr xs->E19 P
inductive E20 {a b c d e f g h i j k l m n o p q r s t:Type} (P:a->b->c->d->e->f->g->h->i->j->k->l->m->n->o->p->q->r->s->t->Prop):Prop | mk (xa:a) (xb:b) (xc:c) (xd:d) (xe:e) (xf:f) (xg:g) (xh:h) (xi:i) (xj:j) (xk:k) (xl:l) (xm:m) (xn:n) (xo:o) (xp:p) (xq:q) (xr:r) (xs:s) (xt:t):P xa xb xc xd xe xf xg xh xi xj xk xl xm xn xo xp xq xr xs xt->E20 P
inductive E21 {a b c d e f g h i j k l m n o p q r s t u:Type} (P:a->b->c->d->e->f->g->h->i->j->k->l->m->n->o->p->q->r->s->t->u->Prop):Prop | mk (xa:a) (xb:b) (xc:c) (xd:d) (xe:e) (xf:f) (xg:g) (xh:h) (xi:i) (xj:j) (xk:k) (xl:l) (xm:m) (xn:n) (xo:o) (xp:p) (xq:q) (xr:r) (xs:s) (xt:t) (xu:u):P xa xb xc xd xe xf xg xh xi xj xk xl xm xn xo xp xq xr xs xt xu->E21 P
inductive E22 {a b c d e f g h i j k l m n o p q r s t u v:Type} (P:a->b->c->d->e->f->g->h->i->j->k->l->m->n->o->p->q->r->s->t->u->v->Prop):Prop | mk (xa:a) (xb:b) (xc:c) (xd:d) (xe:e) (xf:f) (xg:g) (xh:h) (xi:i) (xj:j) (xk:k) (xl:l) (xm:m) (xn:n) (xo:o) (xp:p) (xq:q) (xr:r) (xs:s) (xt:t) (xu:u) (xv:v):P xa xb xc xd xe xf xg xh xi xj xk xl xm xn xo xp xq xr xs xt xu xv->E22 P
inductive E23 {a b c d e f g h i j k l m n o p q r s t u v w:Type} (P:a->b->c->d->e->f->g->h->i->j->k->l->m->n->o->p->q->r->s->t->u->v->w->Prop):Prop | mk (xa:a) (xb:b) (xc:c) (xd:d) (xe:e) (xf:f) (xg:g) (xh:h) (xi:i) (xj:j) (xk:k) (xl:l) (xm:m) (xn:n) (xo:o) (xp:p) (xq:q) (xr:r) (xs:s) (xt:t) (xu:u) (xv:v) (xw:w):P xa xb xc xd xe xf xg xh xi xj xk xl xm xn xo xp xq xr xs xt xu xv xw->E23 P
inductive E24 {a b c d e f g h i j k l m n o p q r s t u v w x:Type} (P:a->b->c->d->e->f->g->h->i->j->k->l->m->n->o->p->q->r->s->t->u->v->w->x->Prop):Prop | mk (xa:a) (xb:b) (xc:c) (xd:d) (xe:e) (xf:f) (xg:g) (xh:h) (xi:i) (xj:j) (xk:k) (xl:l) (xm:m) (xn:n) (xo:o) (xp:p) (xq:q) (xr:r) (xs:s) (xt:t) (xu:u) (xv:v) (xw:w) (xx:x):P xa xb xc xd xe xf xg xh xi xj xk xl xm xn xo xp xq xr xs xt xu xv xw xx->E24 P
inductive E25 {a b c d e f g h i j k l m n o p q r s t u v w x y:Type} (P:a->b->c->d->e->f->g->h->i->j->k->l->m->n->o->p->q->r->s->t->u->v->w->x->y->Prop):Prop | mk (xa:a) (xb:b) (xc:c) (xd:d) (xe:e) (xf:f) (xg:g) (xh:h) (xi:i) (xj:j) (xk:k) (xl:l) (xm:m) (xn:n) (xo:o) (xp:p) (xq:q) (xr:r) (xs:s) (xt:t) (xu:u) (xv:v) (xw:w) (xx:x) (xy:y):P xa xb xc xd xe xf xg xh xi xj xk xl xm xn xo xp xq xr xs xt xu xv xw xx xy->E25 P
def andL:Nat->Lean.Term->Array Lean.Term->Array Lean.Term
 | 0,r,l=>l.push r
 | n+1,r,l=>match r with
  | `($x /\ $y)=>andL n y (l.push x)
  | _=>l.push r
def andM (a b:Lean.Term):Lean.MacroM Lean.Term :=
 let l:=andL 40 b #[a]
 if l.size<3 || l.size > 30 then Lean.Macro.throwUnsupported else `($(Lean.mkIdent (.mkSimple s!"A{l.size}")) $l*)
def exM (xs:Lean.Syntax) (b:Lean.Term):Lean.MacroM Lean.Term:=do
 let e:=xs[0]
 let g:=if e.getKind == ``Lean.unbracketedExplicitBinders then #[(e[0].getArgs,if e[1].isNone then none else some e[1][1])] else e.getArgs.map fun y=>(y[1].getArgs,some y[3])
 let v:=g.flatMap fun (is,t)=>is.map fun i=>(i[0],t)
 if v.size<2 || v.size > 25 then Lean.Macro.throwUnsupported
 let mut r:Lean.Term:=b
 for (i,t) in v.reverse do
  r <- match i.isIdent,t with
   | true,some t=>`(fun ($(⟨i⟩) : $(⟨t⟩))=>$r)
   | true,none=>`(fun $(⟨i⟩)=>$r)
   | _,some t=>`(fun (_ : $(⟨t⟩))=>$r)
   | _,none=>`(fun _=>$r)
 `($(Lean.mkIdent (.mkSimple s!"E{v.size}")) $r)
end L2
set_option maxHeartbeats 4000000
namespace xS
open PySem PySem.Spec PyProof.Rows L2
noncomputable def top (i:Nat):Stmt:=PySem.Challenge.pw_gatefold_k31_ways_show_it.main.body.getD i (.Pass ⟨0,0,0,0⟩)
noncomputable abbrev FE:Stmt:=top 7
noncomputable abbrev To:List Str:=["thing"]
local macro_rules | `(tactic| walk_at "s")=>`(tactic| exact ⟨rfl,rfl,rfl,by decide +kernel,rfl,by decide +kernel,by decide +kernel⟩)
theorem Vz:aj To ["thing"] (bx FE):=by walk_at "s"
noncomputable abbrev Di:Stmt:=top 8
noncomputable abbrev NS:List Str:=["thing","least","greatest"]
theorem Zil:aj NS ["thing","least","greatest"] (bx Di):=by walk_at "s"
noncomputable abbrev zk:Stmt:=top 10
noncomputable abbrev Mb:List Str:=["fold","knots","stops","seen","knot","tie"]
theorem AF:aj Mb ["fold","knots","stops"] (bx zk):=by walk_at "s"
noncomputable abbrev Bc:Stmt:=top 11
noncomputable abbrev NQ:List Str:=["fold","knot"]
theorem Zqm:aj NQ ["fold","knot"] (bx Bc):=by walk_at "s"
noncomputable abbrev FJ:Stmt:=top 13
noncomputable abbrev QE:List Str:=["place"]
theorem W0:aj QE ["place"] (bx FJ):=by walk_at "s"
noncomputable abbrev Fd:Stmt:=top 14
noncomputable abbrev RQ:List Str:=["place"]
theorem ZO:aj RQ ["place"] (bx Fd):=by walk_at "s"
noncomputable abbrev EW:Stmt:=top 15
noncomputable abbrev Qt:List Str:=["maze","goals","goal"]
theorem Qx:aj Qt ["maze","goals"] (bx EW):=by walk_at "s"
noncomputable abbrev zC:Stmt:=top 16
noncomputable abbrev Kf:List Str:=["maze","above","end","place"]
theorem OU:aj Kf ["maze","above","end"] (bx zC):=by walk_at "s"
noncomputable abbrev BH:Stmt:=top 17
noncomputable abbrev Pl:List Str:=["maze","goals","above","came","goal","lower","waiting","end","place","ahead"]
theorem sg:aj Pl ["maze","goals","above"] (bx BH):=by walk_at "s"
noncomputable abbrev DH:Stmt:=top 18
noncomputable abbrev Tv:List Str:=["above","came","spring","end","place","upper"]
theorem Fo:aj Tv ["above","came","spring"] (bx DH):=by walk_at "s"
noncomputable abbrev EA:Stmt:=top 19
noncomputable abbrev OA:List Str:=["above","spring","way"]
theorem Oi:aj OA ["above","spring"] (bx EA):=by walk_at "s"
noncomputable abbrev tH:Stmt:=top 20
noncomputable abbrev G7:List Str:=["maze","above","springs"]
theorem Pe:aj G7 ["maze","above"] (bx tH):=by walk_at "s"
noncomputable abbrev zN:Stmt:=top 21
noncomputable abbrev Kp:List Str:=["came"]
theorem T9:aj Kp ["came"] (bx zN):=by walk_at "s"
noncomputable abbrev CT:Stmt:=top 22
noncomputable abbrev P6:List Str:=["maze","goals","most","above","number","found"]
theorem Gj:aj P6 ["maze","goals","most"] (bx CT):=by walk_at "s"
noncomputable abbrev B5:Stmt:=top 26
noncomputable abbrev Ov:List Str:=["size"]
theorem WG:aj Ov ["size"] (bx B5):=by walk_at "s"
noncomputable abbrev Cq:Stmt:=top 27
noncomputable abbrev PR:List Str:=["fold","maze","knot","pair"]
theorem Hq:aj PR ["fold"] (bx Cq):=by walk_at "s"
noncomputable abbrev D8:Stmt:=eg (top 28) 0
noncomputable abbrev Rx:List Str:=["self","fold","size","maze","knot"]
theorem La:aj Rx ["self","fold","size"] (bx D8):=by walk_at "s"
noncomputable abbrev sO:Stmt:=eg (top 28) 1
noncomputable abbrev F3:List Str:=["self","maze","inner","size","knot","lowers","greatest","goals","told","same"]
theorem yF:aj F3 ["self","maze","inner","size"] (bx sO):=by walk_at "s"
noncomputable abbrev ET:Stmt:=eg (top 28) 2
noncomputable abbrev Tr:List Str:=["self","knot","level","cut","ways"]
theorem VP:aj Tr ["self","knot","level","cut","ways"] (bx ET):=by walk_at "s"
noncomputable abbrev DX:Stmt:=eg (top 28) 3
noncomputable abbrev QR:List Str:=["self","knot"]
theorem VJ:aj QR ["self","knot"] (bx DX):=by walk_at "s"
noncomputable abbrev DV:Stmt:=eg (top 28) 4
noncomputable abbrev QZ:List Str:=["self","knot"]
theorem Zgr:aj QZ ["self","knot"] (bx DV):=by walk_at "s"
noncomputable abbrev yY:Stmt:=eg (top 28) 6
noncomputable abbrev I0:List Str:=["self","knot"]
theorem UQ:aj I0 ["self","knot"] (bx yY):=by walk_at "s"
noncomputable abbrev F0:Stmt:=top 32
noncomputable abbrev R1:List Str:=["tie"]
theorem Zm3:aj R1 ["tie"] (bx F0):=by walk_at "s"
noncomputable abbrev D3:Stmt:=eg (top 33) 0
noncomputable abbrev Pj:List Str:=["self","many"]
theorem Wl:aj Pj ["self","many"] (bx D3):=by walk_at "s"
noncomputable abbrev Em:Stmt:=eg (top 33) 1
noncomputable abbrev N5:List Str:=["self"]
theorem Zim:aj N5 ["self"] (bx Em):=by walk_at "s"
noncomputable abbrev Fm:Stmt:=eg (top 33) 2
noncomputable abbrev QH:List Str:=["self","tie"]
theorem VU:aj QH ["self","tie"] (bx Fm):=by walk_at "s"
noncomputable abbrev Dq:Stmt:=eg (top 33) 3
noncomputable abbrev Qu:List Str:=["self","knot"]
theorem Wz:aj Qu ["self","knot"] (bx Dq):=by walk_at "s"
noncomputable abbrev Fj:Stmt:=eg (top 33) 4
noncomputable abbrev Pn:List Str:=["self","one","other","first","second"]
theorem JG:aj Pn ["self","one","other"] (bx Fj):=by walk_at "s"
noncomputable abbrev C1:Stmt:=eg (top 33) 5
noncomputable abbrev QA:List Str:=["self","ties"]
theorem ZU:aj QA ["self","ties"] (bx C1):=by walk_at "s"
noncomputable abbrev Bg:Stmt:=top 35
noncomputable abbrev Sx:List Str:=["_law_script","_law_k"]
theorem YU:aj Sx ["_law_script","_law_k"] (bx Bg):=by walk_at "s"
noncomputable abbrev Bk:Stmt:=top 36
noncomputable abbrev P0:List Str:=["_law_many","_law_cells","_law_pairs_here","_law_left","_law_right","_law_k","_law_top","_law_rest"]
theorem nj:aj P0 ["_law_many","_law_cells"] (bx Bk):=by walk_at "s"
noncomputable abbrev Cb:Stmt:=top 37
noncomputable abbrev Q4:List Str:=["_law_fold_here","_law_knots","_law_left","_law_right","_law_low","_law_high","_law_tie"]
theorem yK:aj Q4 ["_law_fold_here","_law_knots","_law_left","_law_right"] (bx Cb):=by walk_at "s"
noncomputable abbrev Bw:Stmt:=top 38
noncomputable abbrev NJ:List Str:=["_law_script","_law_start","_law_count","_law_made","_law_k","_law_cell"]
theorem Hr:aj NJ ["_law_script","_law_start","_law_count"] (bx Bw):=by walk_at "s"
noncomputable abbrev DP:Stmt:=top 39
noncomputable abbrev Tp:List Str:=["_law_many","_law_cell","_law_most","_law_pairs_here","_law_count","_law_k","_law_size"]
theorem yv:aj Tp ["_law_many","_law_cell","_law_most"] (bx DP):=by walk_at "s"
noncomputable abbrev vR:Stmt:=top 40
noncomputable abbrev Hf:List Str:=["_law_many","_law_pairs_here","_law_fold_here","_law_knots","_law_ties","_law_one","_law_other","_law_left","_law_right"]
theorem sT:aj Hf ["_law_many","_law_pairs_here"] (bx vR):=by walk_at "s"
noncomputable abbrev zH:Stmt:=top 41
noncomputable abbrev Lw:List Str:=["_law_many","_law_cells","_law_fold_here","_law_knots","_law_j","_law_last","_law_tie","_law_late","_law_k","_law_cell","_law_one","_law_other"]
theorem pf:aj Lw ["_law_many","_law_cells"] (bx zH):=by walk_at "s"
noncomputable abbrev Cv:Stmt:=top 42
noncomputable abbrev Qa:List Str:=["_law_knots","_law_knot","_law_cone_of","_law_at"]
theorem Kk:aj Qa ["_law_knots","_law_knot"] (bx Cv):=by walk_at "s"
noncomputable abbrev FW:Stmt:=top 43
noncomputable abbrev NA:List Str:=["_law_found"]
theorem VA:aj NA ["_law_found"] (bx FW):=by walk_at "s"
noncomputable abbrev BO:Stmt:=top 44
noncomputable abbrev Oj:List Str:=["_law_knots","_law_low","_law_high"]
theorem V3:aj Oj ["_law_knots","_law_low","_law_high"] (bx BO):=by walk_at "s"
noncomputable abbrev FA:Stmt:=top 45
noncomputable abbrev RL:List Str:=["_law_way","_law_knots","_law_knot","_law_marks","_law_seen","_law_hung","_law_k","_law_at","_law_high"]
theorem Gh:aj RL ["_law_way","_law_knots","_law_knot","_law_marks","_law_seen","_law_hung"] (bx FA):=by walk_at "s"
noncomputable abbrev Ei:Stmt:=top 46
noncomputable abbrev Ru:List Str:=["_law_ways","_law_knots","_law_knot","_law_size","_law_marks","_law_seen","_law_hung","_law_k"]
theorem HH:aj Ru ["_law_ways","_law_knots","_law_knot","_law_size","_law_marks"] (bx Ei):=by walk_at "s"
noncomputable abbrev zZ:Stmt:=top 47
noncomputable abbrev Mx:List Str:=["_law_script","_law_first","_law_size","_law_many","_law_last","_law_pairs_here","_law_fold_here","_law_knots","_law_start","_law_labels","_law_marks","_law_knot","_law_high","_law_ways","_law_way"]
theorem i9:aj Mx ["_law_script"] (bx zZ):=by walk_at "s"
set_option genInjectivity false in
set_option genSizeOf false in
structure aN where
 fL:Addr
 iA:FuncData
 dZ:Addr
 gc:FuncData
 gF:Addr
 jB:FuncData
 lC:Addr
 ox:FuncData
 lq:Addr
 oV:FuncData
 ly:Addr
 oy:FuncData
 dW:Addr
 fR:FuncData
 eO:Addr
 gW:FuncData
 i6:Addr
 kC:FuncData
 lE:Addr
 oO:FuncData
 fI:Addr
 i5:FuncData
 gv:Addr
 jG:FuncData
 fO:Addr
 iT:FuncData
 jM:Addr
 mq:FuncData
 eJ:Addr
 gS:FuncData
 gG:Addr
 jH:FuncData
 bH:Addr
 dr:FuncData
 cO:Addr
 d7:FuncData
 dC:Addr
 fD:FuncData
 bD:Addr
 cg:FuncData
 cY:Addr
 eV:FuncData
 dE:Addr
 fE:FuncData
 iC:Addr
 ko:FuncData
 bW:Addr
 d6:FuncData
 dX:Addr
 fV:FuncData
 cX:Addr
 eG:FuncData
 eP:Addr
 gM:FuncData
 eW:Addr
 gJ:FuncData
 cL:Addr
 d9:FuncData
 dB:Addr
 fB:FuncData
 eF:Addr
 gQ:FuncData
 gH:Addr
 jA:FuncData
 eN:Addr
 gP:FuncData
 cj:Addr
 dy:FuncData
 fK:Addr
 jb:FuncData
 fH:Addr
 iN:FuncData
 fM:Addr
 iZ:FuncData
 eK:Addr
 gR:FuncData
 eI:Addr
 gY:FuncData
 cU:Addr
 eU:FuncData
 cK:Addr
 d8:FuncData
 oH:Addr
 sv:FuncData
 ae:Addr
 af:Addr
 cc:Addr
 bg:Addr
 cD:Addr
 dY:Addr
noncomputable def G1 (_:aN):V:=.int 1
noncomputable def Hw (_:aN):V:=.int 6
noncomputable def GK (_:aN):V:=.int 2
noncomputable def zI (_:aN):V:=.int 0
structure Txt (K:Zrk) (mg:Str->Option Value) (a:aN):Prop where
 iH:FT K mg "is_whole" FE ["thing"] a.fL a.iA
 fS:FT K mg "is_between" Di ["thing","least","greatest"] a.dZ a.gc
 jE:FT K mg "reached" zk ["fold","knots","stops"] a.gF a.jB
 oE:FT K mg "cone" Bc ["fold","knot"] a.lC a.ox
 iE:FT K mg "head" FJ ["place"] a.lq a.oV
 eQ:FT K mg "foot" Fd ["place"] a.ly a.oy
 cR:FT K mg "need_goals" EW ["maze","goals"] a.dW a.fR
 gL:FT K mg "next_ends" zC ["maze","above","end"] a.eO a.gW
 kD:FT K mg "search" BH ["maze","goals","above"] a.i6 a.kC
 oa:FT K mg "lead" DH ["above","came","spring"] a.lE a.oO
 i8:FT K mg "way_from" EA ["above","spring"] a.fI a.i5
 gA:FT K mg "ways_of" tH ["maze","above"] a.gv a.jG
 iV:FT K mg "stops_of" zN ["came"] a.fO a.iT
 lN:FT K mg "apart" CT ["maze","goals","most"] a.jM a.mq
 dw:FT K mg "need_size" B5 ["size"] a.eJ a.gS
 jI:FT K mg "maze_of" Cq ["fold"] a.gG a.jH
 du:FM K a.ae "__init__" "Labels.__init__" D8 ["self","fold","size"] a.bH a.dr
 cI:FM K a.ae "settle" "Labels.settle" sO ["self","maze","inner","size"] a.cO a.d7
 br:FM K a.ae "keep" "Labels.keep" ET ["self","knot","level","cut","ways"] a.dC a.fD
 bB:FM K a.ae "need_and_knot" "Labels.need_and_knot" DX ["self","knot"] a.bD a.cg
 cV:FM K a.ae "label" "Labels.label" DV ["self","knot"] a.cY a.eV
 bV:FM K a.ae "ways" "Labels.ways" yY ["self","knot"] a.dE a.fE
 kI:FT K mg "turned" F0 ["tie"] a.iC a.ko
 cM:FM K a.af "__init__" "Fold.__init__" D3 ["self","many"] a.bW a.d6
 ak:FM K a.af "total" "Fold.total" Em ["self"] a.dX a.fV
 bO:FM K a.af "has_tie" "Fold.has_tie" Fm ["self","tie"] a.cX a.eG
 cF:FM K a.af "pair" "Fold.pair" Dq ["self","knot"] a.eP a.gM
 bL:FM K a.af "both" "Fold.both" Fj ["self","one","other"] a.eW a.gJ
 cJ:FM K a.af "and_knot" "Fold.and_knot" C1 ["self","ties"] a.cL a.d9
 bq:FT K mg "_law_cell_at" Bg ["_law_script","_law_k"] a.dB a.fB
 gN:FT K mg "_law_pairs" Bk ["_law_many","_law_cells"] a.eF a.gQ
 gE:FT K mg "_law_put" Cb ["_law_fold_here","_law_knots","_law_left","_law_right"] a.gH a.jA
 gI:FT K mg "_law_mixed" Bw ["_law_script","_law_start","_law_count"] a.eN a.gP
 dA:FT K mg "_law_digit_pairs" DP ["_law_many","_law_cell","_law_most"] a.cj a.dy
 iz:FT K mg "_law_fold" vR ["_law_many","_law_pairs_here"] a.fK a.jb
 iW:FT K mg "_law_long" zH ["_law_many","_law_cells"] a.fH a.iN
 iO:FT K mg "_law_cone" Cv ["_law_knots","_law_knot"] a.fM a.iZ
 g8:FT K mg "_law_whole" FW ["_law_found"] a.eK a.gR
 eR:FT K mg "_law_feeds" BO ["_law_knots","_law_low","_law_high"] a.eI a.gY
 eM:FT K mg "_law_good_way" FA ["_law_way","_law_knots","_law_knot","_law_marks","_law_seen","_law_hung"] a.cU a.eU
 cN:FT K mg "_law_good_ways" Ei ["_law_ways","_law_knots","_law_knot","_law_size","_law_marks"] a.cK a.d8
 sJ:FT K mg "law" zZ ["_law_script"] a.oH a.sv
 ny:mg "Labels" = some (.ref a.ae)
 aA:mR K a.ae
 mk_Labels:Mk K a.ae a.bH
 aM:nL K a.ae "levels"
 bM:nL K a.ae "found_cuts"
 bh:nL K a.ae "found_ways"
 mn:mg "Fold" = some (.ref a.af)
 ay:mR K a.af
 mk_Fold:Mk K a.af a.bW
 bz:nL K a.af "many"
 cB:nL K a.af "pairs"
 cC:nL K a.af "knots"
 mJ:mg "NoGoal" = some (.ref a.cc)
 eY:mg "NoKnot" = some (.ref a.bg)
 nF:mg "NoSize" = some (.ref a.cD)
 om:mg "NoTie" = some (.ref a.dY)
 xi_NoGoal:Zrs K a.cc [.type "ValueError",.type "Exception",.type "BaseException",.type "object"] "ValueError.__new__" = true
 xq_NoGoal:rA K a.cc=true
 kv_NoGoal:Zrp K (.ref a.cc) (.type "ValueError")=some true
 xi_NoKnot:Zrs K a.bg [.type "ValueError",.type "Exception",.type "BaseException",.type "object"] "ValueError.__new__" = true
 xq_NoKnot:rA K a.bg=true
 kv_NoKnot:Zrp K (.ref a.bg) (.type "ValueError")=some true
 xi_NoSize:Zrs K a.cD [.type "ValueError",.type "Exception",.type "BaseException",.type "object"] "ValueError.__new__" = true
 xq_NoSize:rA K a.cD=true
 kv_NoSize:Zrp K (.ref a.cD) (.type "ValueError")=some true
 xi_NoTie:Zrs K a.dY [.type "ValueError",.type "Exception",.type "BaseException",.type "object"] "ValueError.__new__" = true
 xq_NoTie:rA K a.dY=true
 kv_NoTie:Zrp K (.ref a.dY) (.type "ValueError")=some true
 xk_NoGoal:Zrw K a.cc "BaseException" = true
 xk_NoKnot:Zrw K a.bg "BaseException" = true
 xk_NoSize:Zrw K a.cD "BaseException" = true
 xk_NoTie:Zrw K a.dY "BaseException" = true
 nh:∃ u,mg "ALWAYS" = some u/\bu (G1 a) u
 gw:∃ u,mg "GREATEST_SIZE" = some u/\bu (Hw a) u
 jk:∃ u,mg "LEAST_SIZE" = some u/\bu (GK a) u
 iQ:∃ u,mg "NEVER" = some u/\bu (zI a) u
 lW:mg "bool" = none
 lB:mg "int" = none
 bE:mg "isinstance" = none
 bj:mg "len" = none
 gf:mg "list" = none
 iR:mg "max" = none
 iX:mg "min" = none
 aJ:mg "range" = none
 jC:mg "sorted" = none
seal PE PT PS jl PA PG Fs PI PO PW um BG PK PC uJ X5 cy Ft jO mv qd yZ Hm me aO
local macro_rules | `(tactic| walk_at "g0")=>`(tactic| try simp only [aD,G1,Hw,GK,zI,bb,aE,pj,rL,o9,qW,ag,tC,aa,cf,bU,ef,ju,gU,Gx,vd,wJ,Jq,vj,bK,jX,qg,cn,JV,wO,fW,cQ,Hs,cP,ah,aq,dI,dk,iB,cInt,rH,uH,mO,lH,kq,pU,sD,zM,tu,rS,Wa,TY,T4,WN,W4,Y1,ZlZ,mM,DF,GC,bJ,Lu,wA,zz,yj,wt,vp,ZoD,Y7,pE,qr,rC,nK,j8,yp,Aq,gq,ic,rY,J5,Nd,Gw,tF,LB,ID,Lx,GU,qt,ZF,G9,tN,IG,ZoC,Zsz,List.cons_append,List.nil_append,Zs4,ZsJ,List.set_cons_zero,List.set_cons_succ,decide_eq_true_eq,if_true,if_false,Zt7,eq_self,decide_true,decide_false,Bool.not_true,Bool.not_false,Bool.not_eq_true',decide_eq_false_iff_not,Bool.and_true,Bool.true_and])
local macro_rules | `(tactic| walk_at "go")=>`(tactic| (walk_at "g0";repeat ((first | (with_reducible (first | refine Tx ?_ | refine QU ?_ | refine PQ ?_ | refine Tf ?_ | refine N6 ?_ | refine Vw ?_ | refine ZR ?_)) | refine Tx ?_ | refine QU ?_ | refine PQ ?_ | refine Tf ?_ | refine N6 ?_);walk_at "g0")))
local macro_rules | `(tactic| walk_at "sd")=>`(tactic| first | exact And.intro (by decide) (by decide) | decide | omega | exact Or.inl (And.intro (by omega) (by omega)) | exact Or.inr (And.intro (by omega) (by omega)) | exact And.intro (by omega) (And.intro (by omega) (by decide)) | exact And.intro (by omega) (by omega))
local macro_rules | `(tactic| walk_at "gs")=>`(tactic| (walk_at "go";repeat (first | (refine And.intro (by walk_at "sd") ?_;walk_at "go"))))
local macro_rules | `(tactic| walk_at "o")=>`(tactic| first | exact Or.inl rfl | exact Or.inr rfl)
variable {P:Program}{w:World}{K:Zrk}{mg:Str->Option Value}{base:Heap}{a:aN}
local macro_rules | `($a /\ $b)=>andM a b
local macro_rules | `(∃ $xs:explicitBinders,$b)=>exM xs b
noncomputable def Pw (_:Zrk):Sp:=fun vs H Q _=>∃ t:Int,vs=[.int t]/\0<=t/\Q (.int (MF.tn t)) H
noncomputable def KR (K:Zrk):TS:=(cn (ag (cf fun i j=>.int (Builtin.bitXor i j)) (aa 0) (tC (.int 1))))
theorem YT (T:Txt K mg a):TM P w K mg base 0 "turned" F0 R1 a.iC (KR K) :=
 fun hr=>(aI (cG (aB zJ (cv 0) ax)))
theorem ZX (T:Txt K mg a):aK P w K mg base dQ 1 a.iC a.ko ["tie"] (Pw K):=by
 refine T.kI.n.fg Zm3 (YT T) (fun vs H Q E h=>?_) (fun H vs Q E h=>?_)
 ·obtain ⟨t,rfl,_⟩:=h;rfl
 ·obtain ⟨t,rfl,h0,q⟩:=h
  show KR K _ [some (.int t)] H
  unfold KR
  walk_at "go"
  rw [Kt h0]
  exact q
noncomputable def Hz (a:aN) (K:Zrk):Sp:=fun vs H Q _=>∃ (x dx:Addr) (m:Int),vs=[.ref x,.int m]/\H x=some (.ins a.af dx []) /\
 ∀ H' pl kl,(∀ b o,b≠x->H b=some o->H' b=some o)->H pl=none->H kl=none->aC a.af H' x m [] dx pl kl->Q .non H'
noncomputable def Js (K:Zrk):TS:=(aD (rY K (aa 0) (aa 1) "many")
  (aD (rY K (aa 0) (ik aq) "pairs")
  (rY K (aa 0) G5 "knots")))
theorem XD (T:Txt K mg a):TM P w K mg base 0 "Fold.__init__" D3 Pj a.bW (Js K) :=
 fun hr=>(aG (zu (cv 0) (cv 1) rfl)
   (aG (zu (cv 0) (jo av) rfl)
   (aI (zu (cv 0) ZoY rfl))))
theorem QT (T:Txt K mg a):aK P w K mg base dQ 1 a.bW a.d6 ["self","many"] (Hz a K):=by
 refine T.cM.n.fg Wl (XD T) (fun vs H Q E h=>?_) (fun H vs Q E h=>?_)
 ·obtain ⟨x,dx,m,rfl,_⟩:=h;rfl
 ·obtain ⟨x,dx,m,rfl,hx,q⟩:=h
  show Js K _ [some (.ref x),some (.int m)] H
  unfold Js
  walk_at "go"
  refine ⟨x,a.af,dx,[],rfl,hx,T.ay,T.bz,by decide,?_⟩
  walk_at "go"
  refine ⟨by decide,fun pl H2 n2=>?_⟩
  have x2:=n2.same _ _ (cz (H:=H) (a:=x) (o:=.ins a.af dx (fF "many" (.int m) [])))
  refine ⟨x,a.af,dx,_,rfl,x2,T.ay,T.cB,by have:=rO "many" (.int m) [];simp only [Zst] at this;omega,?_⟩
  walk_at "go"
  intro kl H4 n4
  have x4:=n4.same _ _ (cz (H:=H2) (a:=x) (o:=.ins a.af dx (fF "pairs" (.ref pl) (fF "many" (.int m) []))))
  refine ⟨x,a.af,dx,_,rfl,x4,T.ay,T.cC,by have h7:=rO "many" (.int m) [];have h8:=rO "pairs" (.ref pl) (fF "many" (.int m) []);simp only [Zst] at h7;omega,?_⟩
  have Kd:pl≠x:=fun e=>by have:=n2.aH;rw [e,cz] at this;cases this
  have M5:kl≠x:=fun e=>by have:=n4.aH;rw [e,cz] at this;cases this
  have YR:H4 pl=some (.lst []):=n4.same _ _ (by rw [aQ Kd];exact n2.at_)
  have uc:H4 kl=some (.dT []):=n4.at_
  have st:∀ b o,b≠x->H b=some o->H4 b=some o:=fun b o nb e=>n4.same _ _ (by rw [aQ nb];exact n2.same _ _ (by rw [aQ nb];exact e))
  have V0:H pl=none:=by
   have:=n2.aH
   rw [aQ Kd] at this
   exact this
  have nok:H kl=none:=by
   have h1:=n4.aH
   rw [aQ M5] at h1
   have h2:=n2.same.nil h1
   rw [aQ M5] at h2
   exact h2
  refine q _ pl kl (fun b o nb e=>by rw [aQ nb];exact st b o nb e) V0 nok ⟨?_,?_,?_,fun e he=>nomatch he⟩
  ·rw [cz]
   have e1:fF "knots" (.ref kl) (fF "pairs" (.ref pl) (fF "many" (.int m) []))=([("many",V.int m),("pairs",V.ref pl),("knots",V.ref kl)]:List (Str × V)):=by
    have z1:¬ ("many" : Str) = "pairs":=by decide +kernel
    have z2:¬ ("many" : Str) = "knots":=by decide +kernel
    have z3:¬ ("pairs" : Str) = "knots":=by decide +kernel
    simp [fF,z1,z2,z3]
   rw [e1]
  ·rw [aQ Kd];exact YR
  ·rw [aQ M5];exact uc
noncomputable def pD (a:aN) (_:Zrk):Sp:=fun vs H Q _=>∃ (f dx pl kl:Addr) (m:Int) (es:List En),vs=[.ref f]/\aC a.af H f m es dx pl kl/\Q (.int (1+m+es.length)) H
noncomputable def Ka (K:Zrk):TS:=(cn (ag ef (ag ef (tC (.int 1)) (ic K (aa 0) "many")) (dk (iB K) (ah (ic K (aa 0) "pairs") aq))))
theorem WB (T:Txt K mg a):TM P w K mg base 0 "Fold.total" Em N5 a.dX (Ka K) :=
 fun hr=>(aI (cG (aB eC (aB eC ax (iK (cv 0) rfl)) (dU jw (by rfl) T.bj PySem.boot_len (ai (iK (cv 0) rfl) av)))))
theorem qJ (T:Txt K mg a):aK P w K mg base dQ 1 a.dX a.fV ["self"] (pD a K):=by
 refine T.ak.n.fg Zim (WB T) (fun vs H Q E h=>?_) (fun H vs Q E h=>?_)
 ·obtain ⟨f,dx,pl,kl,m,es,rfl,_⟩:=h;rfl
 ·obtain ⟨f,dx,pl,kl,m,es,rfl,hf,q⟩:=h
  show Ka K _ [some (.ref f)] H
  unfold Ka
  walk_at "go"
  refine ⟨f,a.af,dx,_,_,rfl,hf.ins,T.ay,T.bz,rfl,?_⟩
  walk_at "go"
  refine ⟨f,a.af,dx,_,_,rfl,hf.ins,T.ay,T.cB,rfl,?_⟩
  walk_at "go"
  refine .inl ⟨_,.inl (.of hf.ck.lst),?_⟩
  rw [ZrX]
  exact q
noncomputable def JD (a:aN) (_:Zrk):Sp:=fun vs H Q _=>∃ (f dx pl kl:Addr) (m t:Int) (es:List En),vs=[.ref f,.int t]/\aC a.af H f m es dx pl kl/\Q (.bl (decide (0<=t/\t<2 * (1+m+es.length)))) H
noncomputable def Mn (a:aN) (K:Zrk):TS:=(cn (qg (cf fun i j=>.bl (decide (i<=j))) (cf fun i j=>.bl (decide (i<j))) (tC (.int 0)) (aa 1) (ag ju (tC (.int 2)) (gq a.af "total" (pD a K) [] E0 (aa 0) aq))))
theorem Zgg (T:Txt K mg a):TM P w K mg base 1 "Fold.has_tie" Fm QH a.cX (Mn a K) :=
 fun hr=>(aI (cG (QW mY oZ ax (cv 1) (aB jQ ax (qF (cv 0) T.ay T.ak.e (qJ T) (hm hr) T.ak.b .nil bZ)))))
theorem Qd (T:Txt K mg a):aK P w K mg base dQ 2 a.cX a.eG ["self","tie"] (JD a K):=by
 refine T.bO.n.fg VU (Zgg T) (fun vs H Q E h=>?_) (fun H vs Q E h=>?_)
 ·obtain ⟨f,dx,pl,kl,m,t,es,rfl,_⟩:=h;rfl
 ·obtain ⟨f,dx,pl,kl,m,t,es,rfl,hf,q⟩:=h
  show Mn a K _ [some (.ref f),some (.int t)] H
  unfold Mn
  walk_at "go"
  by_cases h0:0<=t
  ·rw [if_pos h0]
   refine ⟨f,dx,_,rfl,hf.ins,rfl,f,dx,pl,kl,m,es,rfl,hf,?_⟩
   walk_at "go"
   refine ⟨.inl ⟨by decide,by decide⟩,?_⟩
   have e:decide (t<2 * (1+m+(es.length:Int)))=decide (0<=t/\t<2 * (1+m+es.length)):=by rw [decide_eq_decide];omega
   rw [e]
   exact q
  ·rw [if_neg h0]
   have e:false=decide (0<=t/\t<2 * (1+m+(es.length:Int))):=by rw [decide_eq_false (by omega)]
   rw [e]
   exact q
noncomputable def Jp (a:aN) (_:Zrk):Sp:=fun vs H Q E=>∃ (f dx pl kl:Addr) (m k:Int) (es:List En),vs=[.ref f,.int k]/\aC a.af H f m es dx pl kl /\
 (0<=k/\k<1+m+es.length->(k<=m->Q .non H)/\(∀ e,m<k->es[(k - m - 1).toNat]? = some e->Q (.ref e.1) H))/\(¬ (0<=k/\k<1+m+es.length)->∀ e,H e=none->E (.ref e) (some a.bg) H)
noncomputable abbrev Uk (a:aN) (K:Zrk) (E:XK):TS:=(cn (ag (bJ K) (ic K (aa 0) "pairs") (ag (cf fun i j=>.int (i - j)) (ag (cf fun i j=>.int (i - j)) (aa 1) (ic K (aa 0) "many")) (tC (.int 1)))))
noncomputable abbrev Zi (a:aN) (K:Zrk) (E:XK):TS:=(aD (cQ (bK (ag (cf fun i j=>.bl (decide (i<=j))) (aa 1) (ic K (aa 0) "many"))) (cn (tC .non)) dI)
  (aO (Uk a K E)))
noncomputable def J4 (a:aN) (K:Zrk) (E:XK):TS:=(aD (cQ (kq (bK (ag (cf fun i j=>.bl (decide (i<j))) (aa 1) (tC (.int 0)))) (bK (ag (cf fun i j=>.bl (decide (j<=i))) (aa 1) (gq a.af "total" (pD a K) [] E0 (aa 0) aq)))) (qt a.bg (ah (tC (.str "no knot of this fold")) aq) E) dI)
  (aO (Zi a K E)))
theorem Zjg (T:Txt K mg a):TX P w K mg base 1 "Fold.pair" Dq Qu a.eP (J4 a K) :=
 fun hr=>(aG (da (PW.pt (lK (cA oZ (cv 1) ax (cw _)) (nI (cA oK (cv 1) (qF (cv 0) T.ay T.ak.e (qJ T) (hm hr) T.ak.b .nil bZ) (cw _))))) (aI (xT ZrS T.xi_NoKnot (by decide) rfl T.eY rfl pP (ai sG av))) d5)
   (aV (aG (da (cA mY (cv 1) (iK (cv 0) rfl) (cw _)) (aI (cG kg)) d5)
   (aV (aI (cG (bP bQ (iK (cv 0) rfl) (aB kE (aB kE (cv 1) (iK (cv 0) rfl)) ax) (fun _ _=>rfl))))))))
theorem Rw (T:Txt K mg a):aK P w K mg base (gZ P w) 2 a.eP a.gM ["self","knot"] (Jp a K):=by
 refine T.cF.n.jg Wz (Zjg T) (fun vs H Q E h=>?_) (fun H vs Q E h=>?_)
 ·obtain ⟨f,dx,pl,kl,m,k,es,rfl,_⟩:=h;rfl
 ·obtain ⟨f,dx,pl,kl,m,k,es,rfl,hf,qi,qo⟩:=h
  show J4 a K E _ [some (.ref f),some (.int k)] H
  unfold J4
  walk_at "go"
  by_cases h0:k<0
  ·rw [if_pos h0]
   exact ⟨by decide,qo (by omega)⟩
  rw [if_neg h0]
  refine ⟨f,dx,_,rfl,hf.ins,rfl,f,dx,pl,kl,m,es,rfl,hf,?_⟩
  walk_at "go"
  by_cases h1:1+m+(es.length:Int)<=k
  ·rw [if_pos h1]
   exact ⟨by decide,qo (by omega)⟩
  rw [if_neg h1]
  obtain ⟨q1,q2⟩:=qi (by omega)
  walk_at "go"
  refine ⟨f,a.af,dx,_,_,rfl,hf.ins,T.ay,T.bz,rfl,?_⟩
  walk_at "go"
  by_cases hk:k<=m
  ·rw [if_pos hk]
   exact q1 hk
  ·rw [if_neg hk]
   walk_at "go"
   refine ⟨f,a.af,dx,_,_,rfl,hf.ins,T.ay,T.cB,rfl,f,a.af,dx,_,_,rfl,hf.ins,T.ay,T.bz,rfl,?_⟩
   walk_at "go"
   have aX:(k - m - 1).toNat<es.length:=by omega
   refine ⟨_,_,.inl (.of hf.ck.lst),oS .non (by omega) (by rw [ZrX];omega),?_⟩
   rw [ZnV es _ aX]
   exact q2 _ (by omega) (ZrY aX)
noncomputable def Pp (a:aN) (_:Zrk):Sp:=fun vs H Q _=>∃ (f dx pl kl tp:Addr) (m:Int) (p:MF.Pr) (es:List En),vs=[.ref f,.ref tp]/\aC a.af H f m es dx pl kl/\H tp=some (.tup [.int p.1,.int p.2])/\es.length<=5000 /\
 ∀ H' es',kj pl kl H H'->aC a.af H' f m es' dx pl kl->ar es'=MF.kp m (ar es) p->Q (.int (MF.kn m (ar es) p)) H'
noncomputable abbrev XI (a:aN) (K:Zrk):TS:=(aD (nK (ic K (aa 0) "knots") (aa 1) (gq a.af "total" (pD a K) [] E0 (aa 0) aq))
  (fW (j8 K "list" kQ (ic K (aa 0) "pairs") (ah (aa 1) aq))))
noncomputable def MK (a:aN) (K:Zrk):TS:=(me (cQ (bK (rC (aa 1) (ic K (aa 0) "knots"))) (aO (XI a K)) dI)
  (cn (pE (ic K (aa 0) "knots") (aa 1))))
theorem Zr (T:Txt K mg a):TM P w K mg base 1 "Fold.and_knot" C1 QA a.cL (MK a K) :=
 fun hr=>(qE (da (rn (zh (gK hr) (cv 1) (iK (cv 0) rfl))) (aV (aG (pT (gK hr) (iK (cv 0) rfl) (cv 1) (qF (cv 0) T.ay T.ak.e (qJ T) (hm hr) T.ak.b .nil bZ) rfl)
   (aI (gB (kK ZrP ZrQ ZrR (kR kS) (iK (cv 0) rfl) (ai (cv 1) av)))))) d5)
   (aI (cG (tj (gK hr) (iK (cv 0) rfl) (cv 1) (fun _ _=>rfl)))))
theorem YM (T:Txt K mg a):aK P w K mg base dQ 2 a.cL a.d9 ["self","ties"] (Pp a K):=by
 refine T.cJ.n.fg ZU (Zr T) (fun vs H Q E h=>?_) (fun H vs Q E h=>?_)
 ·obtain ⟨f,dx,pl,kl,tp,m,p,es,rfl,_⟩:=h;rfl
 ·obtain ⟨f,dx,pl,kl,tp,m,p,es,rfl,hf,ht,hz,q⟩:=h
  show MK a K _ [some (.ref f),some (.ref tp)] H
  unfold MK
  have big:(5001:Nat)<=sizeLine:=by decide
  refine mid (fun σ' H'=>σ'=[some (.ref f),some (.ref tp)]/\kj pl kl H H'/\∃ es',aC a.af H' f m es' dx pl kl/\ar es'=MF.kp m (ar es) p/\MF.fN (m+1) (ar es') p=some (MF.kn m (ar es) p)/\H' tp=some (.tup [.int p.1,.int p.2])) ?_ ?_
  ·intro N hN
   walk_at "go"
   refine ⟨f,a.af,dx,_,_,rfl,hf.ins,T.ay,T.cC,rfl,kl,_,rfl,g9.t (k:=kr p) hf.ck.ig ht,?_⟩
   rw [Gg]
   cases hfd:MF.fN (m+1) (ar es) p with
   | some i =>
    walk_at "go"
    refine hN _ _ ⟨rfl,kj.refl,es,hf,?_,?_,ht⟩
    ·unfold MF.kp;rw [hfd];rfl
    ·unfold MF.kn;rw [hfd];rfl
   | none =>
    walk_at "go"
    refine ⟨f,dx,_,rfl,hf.ins,rfl,f,dx,pl,kl,m,es,rfl,hf,?_⟩
    walk_at "go"
    refine ⟨f,a.af,dx,_,_,rfl,hf.ins,T.ay,T.cC,rfl,?_⟩
    walk_at "go"
    refine ⟨kl,_,rfl,nM.t (k:=kr p) hf.ck.ig ht (by rw [Nl,ZrX];omega),?_⟩
    have e0:(1+m+(es.length:Int))=(m+1)+((ar es).length:Nat):=by rw [ZrX];omega
    rw [e0,UI hfd]
    have nfk:f≠kl:=cZ hf.ins hf.ck.ig (fun z=>nomatch z)
    have Wi:f≠pl:=cZ hf.ins hf.ck.lst (fun z=>nomatch z)
    have i2:upd H kl (.dT (kx (m+1) (ar es ++ [p]))) f=some (.ins a.af dx [("many",.int m),("pairs",.ref pl),("knots",.ref kl)]):=by rw [aQ nfk];exact hf.ins
    have l2:upd H kl (.dT (kx (m+1) (ar es ++ [p]))) pl=some (.lst (es.map fun e=>V.ref e.1)):=by rw [aQ hf.ck.Ec];exact hf.ck.lst
    walk_at "go"
    refine ⟨f,a.af,dx,_,_,rfl,i2,T.ay,T.cB,rfl,?_⟩
    walk_at "go"
    refine ⟨.inl ⟨by trivial,_,.of l2⟩,pl,_,_,rfl,rfl,l2,by rw [ZrX];omega,?_⟩
    refine hN _ _ ⟨rfl,Il.trans Kz,es ++ [(tp,p)],⟨?_,hf.ck.put ht hfd⟩,?_,?_,?_⟩
    ·rw [aQ Wi];exact i2
    ·unfold MF.kp;rw [hfd,ar,Zr4];rfl
    ·unfold MF.kn;rw [hfd,ar,Zr4];exact MF.IW hfd
    ·rw [aQ (cZ ht hf.ck.lst (fun z=>nomatch z)),aQ (cZ ht hf.ck.ig (fun z=>nomatch z))];exact ht
  ·rintro σ' H' ⟨rfl,u,es',hf',hp',hfd,nO⟩
   walk_at "go"
   refine ⟨f,a.af,dx,_,_,rfl,hf'.ins,T.ay,T.cC,rfl,kl,.int (MF.kn m (ar es) p),rfl,?_,q _ es' u hf' hp'⟩
   have:=g9.t (k:=kr p) hf'.ck.ig nO
   rw [Gg,hfd] at this
   exact this
noncomputable def G2 (a:aN) (_:Zrk):Sp:=fun vs H Q E=>∃ (f dx pl kl:Addr) (m s t:Int) (es:List En),vs=[.ref f,.int s,.int t]/\aC a.af H f m es dx pl kl/\es.length<=5000 /\
 (0<=s/\0<=t/\s<2 * (1+m+es.length)/\t<2 * (1+m+es.length)->∀ H' es',kj pl kl H H'->aC a.af H' f m es' dx pl kl->ar es'=MF.bp m (ar es) s t->Q (.int (MF.bt m (ar es) s t)) H') /\
 (¬ (0<=s/\0<=t/\s<2 * (1+m+es.length)/\t<2 * (1+m+es.length))->∀ e,H e=none->E (.ref e) (some a.dY) H)
noncomputable abbrev Zhz (a:aN) (K:Zrk) (E:XK):TS:=(cn (ag ju (tC (.int 2)) (gq a.af "and_knot" (Pp a K) [] E0 (aa 0) (ah (kh (ah (aa 3) (ah (aa 4) aq))) aq))))
noncomputable abbrev Vl (a:aN) (K:Zrk) (E:XK):TS:=(aD (cQ (bK (ag (gU K) (aa 3) (cP (Pw K) [] E0 (ah (aa 4) aq)))) (cn (tC (zI a))) dI)
  (aO (Zhz a K E)))
noncomputable abbrev T8 (a:aN) (K:Zrk) (E:XK):TS:=(aD (cQ (kq (bK (ag (gU K) (aa 3) (tC (G1 a)))) (bK (ag (gU K) (aa 3) (aa 4)))) (cn (aa 4)) dI)
  (aO (Vl a K E)))
noncomputable abbrev X0 (a:aN) (K:Zrk) (E:XK):TS:=(aD (bb (dk mO (ah (aa 1) (ah (aa 2) aq))) (aE 4))
  (aD (cQ (bK (ag (gU K) (aa 3) (tC (zI a)))) (cn (tC (zI a))) dI)
  (aO (T8 a K E))))
noncomputable def KC (a:aN) (K:Zrk) (E:XK):TS:=(aD (cQ (kq (lH (jX K (gq a.af "has_tie" (JD a K) [] E0 (aa 0) (ah (aa 1) aq)))) (lH (jX K (gq a.af "has_tie" (JD a K) [] E0 (aa 0) (ah (aa 2) aq))))) (qt a.dY (ah (tC (.str "no tie of this fold")) aq) E) dI)
  (aD (bb (dk uH (ah (aa 1) (ah (aa 2) aq))) (aE 3))
  (aO (X0 a K E))))
theorem U5 (T:Txt K mg a):TX P w K mg base 2 "Fold.both" Fj Pn a.eW (KC a K) :=
 fun hr=>(aG (da (PW.pt (lK (mC (mf (lg (cv 0) T.ay T.bO.e (Qd T) (hm hr) T.bO.b .nil bZ (ai (cv 1) av)))) (nI (mC (mf (lg (cv 0) T.ay T.bO.e (Qd T) (hm hr) T.bO.b .nil bZ (ai (cv 2) av))))))) (aI (xT ZrS T.xi_NoTie (by decide) rfl T.om rfl pP (ai sG av))) d5)
   (aG (bI (i:=3) JG.nd rfl (by walk_at "o") (dU (CJ rfl) (by rfl) T.iX PyProof.Rows.boot_min (ai (cv 1) (ai (cv 2) av))))
   (aV (aG (bI (i:=4) JG.nd rfl (by walk_at "o") (dU (Hh rfl) (by rfl) T.iR PyProof.Rows.boot_max (ai (cv 1) (ai (cv 2) av))))
   (aG (da (cA (iq (gr hr)) (cv 3) (zW rfl T.iQ) (cw _)) (aI (cG (zW rfl T.iQ))) d5)
   (aV (aG (da (PW.pt (lK (cA (iq (gr hr)) (cv 3) (zW rfl T.nh) (cw _)) (nI (cA (iq (gr hr)) (cv 3) (cv 4) (cw _))))) (aI (cG (cv 4))) d5)
   (aV (aG (da (cA (iq (gr hr)) (cv 3) (dg T.kI (ZX T) (hm hr) bZ (ai (cv 4) av)) (cw _)) (aI (cG (zW rfl T.iQ))) d5)
   (aV (aI (cG (aB jQ ax (lg (cv 0) T.ay T.cJ.e (YM T) (hm hr) T.cJ.b .nil bZ (ai (lj (ai (cv 3) (ai (cv 4) av))) av)))))))))))))))
theorem Kh (T:Txt K mg a):aK P w K mg base (gZ P w) 3 a.eW a.gJ ["self","one","other"] (G2 a K):=by
 refine T.bL.n.jg JG (U5 T) (fun vs H Q E h=>?_) (fun H vs Q E h=>?_)
 ·obtain ⟨f,dx,pl,kl,m,s,t,es,rfl,_⟩:=h;rfl
 ·obtain ⟨f,dx,pl,kl,m,x,y,es,rfl,hf,hz,qi,qo⟩:=h
  show KC a K E _ [some (.ref f),some (.int x),some (.int y),none,none] H
  unfold KC
  try unfold zI
  try unfold G1
  walk_at "go"
  refine ⟨f,dx,_,rfl,hf.ins,rfl,f,dx,pl,kl,m,x,es,rfl,hf,?_⟩
  by_cases gx:0<=x/\x<2 * (1+m+(es.length:Int))
  case neg =>
   rw [decide_eq_false gx]
   walk_at "go"
   exact ⟨by decide,qo (fun ⟨p,_,r,_⟩=>gx ⟨p,r⟩)⟩
  rw [decide_eq_true gx]
  walk_at "go"
  refine ⟨f,dx,_,rfl,hf.ins,rfl,f,dx,pl,kl,m,y,es,rfl,hf,?_⟩
  by_cases gy:0<=y/\y<2 * (1+m+(es.length:Int))
  case neg =>
   rw [decide_eq_false gy]
   walk_at "go"
   exact ⟨by decide,qo (fun ⟨_,p,_,r⟩=>gy ⟨p,r⟩)⟩
  rw [decide_eq_true gy]
  obtain ⟨hx,hx'⟩:=gx
  obtain ⟨hy,hy'⟩:=gy
  have q:=qi ⟨hx,hy,hx',hy'⟩
  walk_at "go"
  have q':=q
  unfold MF.bt MF.bp MF.nW at q'
  have e1:(if y<x then y else x)=MF.lo x y:=rfl
  have e2:(if y > x then y else x)=MF.hi x y:=rfl
  rw [e1,e2]
  by_cases h1:MF.lo x y=0
  ·rw [if_pos h1] at q' ⊢
   exact q' H es kj.refl hf rfl
  rw [if_neg h1] at q' ⊢
  by_cases h2:MF.lo x y=1\/MF.lo x y=MF.hi x y
  ·rw [if_pos h2] at q'
   have fin:=q' H es kj.refl hf rfl
   rcases h2 with h2 | h2
   ·walk_at "go"
    rw [if_pos h2];exact fin
   ·by_cases h3:MF.lo x y=1
    ·walk_at "go"
     rw [if_pos h3];exact fin
    ·walk_at "go"
     rw [if_neg h3,if_pos h2];exact fin
  rw [if_neg h2] at q'
  walk_at "go"
  rw [if_neg (fun z=>h2 (.inl z)),if_neg (fun z=>h2 (.inr z))]
  have rG:0<=MF.hi x y:=by unfold MF.hi;split <;> omega
  walk_at "go"
  refine ⟨MF.hi x y,rfl,rG,?_⟩
  walk_at "go"
  by_cases h3:MF.lo x y=MF.tn (MF.hi x y)
  ·rw [if_pos h3] at q' ⊢
   exact q' H es kj.refl hf rfl
  rw [if_neg h3] at q' ⊢
  walk_at "go"
  refine ⟨f,dx,_,rfl,hf.ins,rfl,by show 2<=sizeLine;decide,fun tp H2 n2=>?_⟩
  have Xg:=hf.same n2.same
  refine ⟨f,dx,pl,kl,tp,m,(MF.lo x y,MF.hi x y),es,rfl,Xg,n2.at_,hz,fun H' es' u hf' hp'=>?_⟩
  walk_at "go"
  refine ⟨.inl ⟨by decide,by decide⟩,q' H' es' (n2.same.un.trans u) hf' hp'⟩
theorem mk_Fold {a:aN}{K:Zrk}{H:Hp}{m:Int}{F:Addr->Hp->Prop}{E:XK} (q:∀ x dx pl kl H',aP H H'->H x=none->H pl=none->H kl=none->aC a.af H' x m [] dx pl kl->F x H') :
  ∀ x dx,H x=none->H dx=none->dx≠x->Hz a K [.ref x,.int m] (upd (upd H dx (.own x)) x (.ins a.af dx [])) (fun v H2=>v=.non/\F x H2) E:=by
 intro x dx hx hd jf
 refine ⟨x,dx,m,rfl,cz,fun H' pl kl st hp hk hf=>⟨rfl,q x dx pl kl H' (fun b o e=>?_) hx ?_ ?_ hf⟩⟩
 ·have n1:b≠x:=cq e hx
  have n2:b≠dx:=cq e hd
  exact st b o n1 (by rw [aQ n1,aQ n2];exact e)
 ·cases e:H pl with
  | none=>rfl
  | some o =>
   rw [aQ (cq e hx),aQ (cq e hd),e] at hp
   cases hp
 ·cases e:H kl with
  | none=>rfl
  | some o =>
   rw [aQ (cq e hx),aQ (cq e hd),e] at hk
   cases hk
noncomputable def Scr (K:Zrk) (H:Hp) (p:Addr) (xs:List V) (L:Addr->Prop):Prop:=(bY K H p xs/\¬ L p)\/∀ H',bY K H' p xs
theorem su {L:List Bool}{i:Int} (h0:0<=i) (h1:i<L.length):fJ (L.map V.bl) i=some (.bl (L.getD i.toNat false)):=by
 rw [oS .non h0 (by rw [ZrX];exact h1)]
 have:i.toNat<L.length:=by omega
 simp [Zsw,this]
theorem Sr {n:Nat}{k:Int} (h0:0<=k) (h1:k<n):pH n k=some k.toNat:=by
 unfold pH
 simp [h0,h1]
theorem OZ (L:List Bool) (t:Int):(L.map V.bl).set (t / 2).toNat (.bl true)=(MF.lI L t).map V.bl:=(List.map_set ..).symm
theorem PB {L:List Bool}{ts:List Int}{i:Nat}{t:Int} (h:ts[i]? = some t):MF.jz L (ts.take (i+1))=MF.lI (MF.jz L (ts.take i)) t:=by
 unfold MF.jz
 rw [Zsj,h,List.foldl_append]
 rfl
theorem XJ {ts:List Int}{i:Nat}{x:V} (h:(ts.map V.int)[i]? = some x):∃ t:Int,x=.int t/\ts[i]? = some t/\t∈ts:=by
 rw [Zsa] at h
 cases e:ts[i]? with
 | none=>rw [e] at h;cases h
 | some t =>
  rw [e] at h
  cases h
  exact ⟨t,rfl,rfl,Zr5 e⟩
theorem ZnF (L:List Bool) (p:MF.Pr):MF.jz L [p.1,p.2]=MF.lI (MF.lI L p.1) p.2:=rfl
theorem Ze {ts:List Int}{i:Nat}{x:V} (h:(ts.map fun t=>V.int (t / 2))[i]? = some x):∃ t:Int,x=.int (t / 2)/\ts[i]? = some t/\t∈ts:=by
 rw [Zsa] at h
 cases e:ts[i]? with
 | none=>rw [e] at h;cases h
 | some t =>
  rw [e] at h
  cases h
  exact ⟨t,rfl,rfl,Zr5 e⟩
noncomputable def mS (kvs:List (Key × V)) (k:Nat):Bool:=(gO kvs (.inl (k:Int))).isSome
noncomputable def KI (k:Nat):V:=.int (k:Int)
noncomputable def Ny (a:aN) (K:Zrk):Sp:=fun vs H Q _=>∃ (f dx pl kl p sd:Addr) (m:Nat) (ts:List Int) (kvs:List (Key × V)) (es:List En),vs=[.ref f,.ref p,.ref sd]/\aC a.af H f m es dx pl kl/\bY K H p (ts.map fun t=>V.int (t / 2))/\H sd=some (.dK kvs)/\MF.Ok m (ar es)/\MF.Tis m (ar es) ts/\m<=10/\es.length<=4000/\ts.length<=4000 /\
 ∀ q H',qq H q (.lst ((MF.dS (mS kvs) m (ar es) ts).map KI)) H'->Q (.ref q) H'
noncomputable abbrev Zo (a:aN) (K:Zrk):TS:=(eD (mx K (gq a.af "pair" (Jp a K) [] E0 (aa 0) (ah (aa 4) aq))) (aE 5) (bb (tC (.bl true)) (qW (aa 3) (ag (bU eA fun i j=>.int (i / j)) (aa 5) (tC (.int 2))) LZ)))
noncomputable abbrev Zjw (a:aN) (K:Zrk):TS:=(cn (jn (jK (ah (gq a.af "total" (pD a K) [] E0 (aa 0) aq) aq)) 1 [3] (aE 0) (jX K (ag (bJ K) (aa 1) (aa 0))) (aa 0)))
noncomputable abbrev Zjv (a:aN) (K:Zrk):TS:=(aD (eD (GD (ah (ag (cf fun i j=>.int (i - j)) (gq a.af "total" (pD a K) [] E0 (aa 0) aq) (tC (.int 1))) (ah (ic K (aa 0) "many") (ah (tu rS (tC (.int 1))) aq)))) (aE 4) (cQ (pU (jX K (ag (bJ K) (aa 3) (aa 4))) (bK (rC (aa 4) (aa 2)))) (aO (Zo a K)) dI))
  (aO (Zjw a K)))
noncomputable def JC (a:aN) (K:Zrk):TS:=(aD (bb (ag G9 (ik (ah (tC (.bl false)) aq)) (gq a.af "total" (pD a K) [] E0 (aa 0) aq)) (aE 3))
  (aD (eD (jt K (aa 1)) (aE 4) (bb (tC (.bl true)) (qW (aa 3) (aa 4) LZ)))
  (aO (Zjv a K))))
theorem Vf (T:Txt K mg a):TM P w K mg base 2 "reached" zk Mb a.gF (JC a K) :=
 fun hr=>(aG (bI (i:=3) AF.nd rfl (by walk_at "o") (aB SY (jo (ai jv av)) (qF (cv 0) T.ay T.ak.e (qJ T) (hm hr) T.ak.b .nil bZ)))
   (aG (iY PassesOwn.never rfl (kM (cv 1)) (dP (i:=4) AF.nd rfl (by walk_at "o")) (aI (Hd jv (Ta (cv 3) (cv 4) Nw))))
   (aV (aG (iY PassesOwn.never rfl (R9 rfl T.aJ (ai (aB kE (qF (cv 0) T.ay T.ak.e (qJ T) (hm hr) T.ak.b .nil bZ) ax) (ai (iK (cv 0) rfl) (ai (zO Ae ax) av)))) (dP (i:=4) AF.nd rfl (by walk_at "o")) (aI (da (PW.pt (sH (mf (bP bQ (cv 3) (cv 4) (fun _ _=>rfl))) (rq (rn (zh (gK hr) (cv 4) (cv 2)))))) (aV (aI (iY PassesOwn.never rfl (uB (lg (cv 0) T.ay T.cF.e (Rw T) (hm hr) T.cF.b .nil oY (ai (cv 4) av))) (dP (i:=5) AF.nd rfl (by walk_at "o")) (aI (Hd jv (Ta (cv 3) (aB eE (cv 5) ax) Nw)))))) d5)))
   (aV (aI (cG (ze (N:=["knot","seen"]) (k:=1) (sel:=[3]) (aT.of (bx zk).names (by decide +kernel)) (bA.of Mb (by decide +kernel)) rfl (lZ rfl T.aJ (ai (qF (cv 0) T.ay T.ak.e (qJ T) (hm hr) T.ak.b .nil bZ) av)) (fun _ _ _ _=>(dP (i:=0) (show Zss (["knot","seen"]:List Str) by decide +kernel) rfl (by walk_at "o"))) (fun _ _ _ _=>(AH (mf (bP bQ (cv 1) (cv 0) (fun _ _=>rfl))))) (fun _ _ _ _=>(cv 0))))))))))
theorem UR (T:Txt K mg a):aK P w K mg base dQ 3 a.gF a.jB ["fold","knots","stops"] (Ny a K):=by
 refine T.jE.n.fg AF (Vf T) (fun vs H Q E h=>?_) (fun H vs Q E h=>?_)
 ·obtain ⟨f,dx,pl,kl,p,sd,m,ts,kvs,es,rfl,_⟩:=h;rfl
 ·obtain ⟨f,dx,pl,kl,p,sd,m,ts,kvs,es,rfl,hf,hT,hS,ok,hin,hm,hz,htz,q⟩:=h
  show JC a K _ [some (.ref f),some (.ref p),some (.ref sd),none,none,none] H
  unfold JC
  have big:(20000:Nat)<=sizeLine:=by decide
  have je:((ar es).length:Int)=es.length:=by rw [ZrX]
  walk_at "gs"
  intro r1 H1 n1
  refine ⟨f,dx,_,rfl,n1.same _ _ hf.ins,rfl,f,dx,pl,kl,m,es,rfl,hf.same n1.same,?_⟩
  walk_at "gs"
  refine ⟨_,n1.at_,by omega,by omega,by simp only [Zsk];omega,fun nq H2 n2=>?_⟩
  have hw:H nq=none:=n1.same.nil n2.aH
  have e0:(ZrZ (1+(m:Int)+(es.length:Int)).toNat [V.bl false]).flatten=(MF.jz (ZrZ (1+m+(ar es).length) false) (ts.take 0)).map V.bl:=by
   rw [O8,show (1+(m:Int)+(es.length:Int)).toNat=1+m+(ar es).length by omega]
   show _=(ZrZ (1+m+(ar es).length) false).map V.bl
   rw [List.map_replicate]
  rw [e0] at n2
  have hlen:∀ xs:List Int,(MF.jz (ZrZ (1+m+(ar es).length) false) xs).length=1+m+(ar es).length:=fun xs=>by rw [MF.D5,Zsb]
  generalize A0:ZrZ (1+m+(ar es).length) false=L0 at *
  walk_at "gs"
  have s2:=n1.same.trans n2.same
  refine ⟨⟨_,s2.seq hT⟩,rD (xs:=ts.map fun t=>V.int (t / 2)) (fun i σ H3=>aP H H3/\H3 nq=some (.lst ((MF.jz L0 (ts.take i)).map V.bl))/\∃ v4,σ=[some (.ref f),some (.ref p),some (.ref sd),some (.ref nq),v4,none]) ⟨s2,n2.at_,_,rfl⟩ ?_ ?_ ?_⟩
  ·rintro i σ H3 _ ⟨s3,_⟩
   exact s3.seq hT
  ·rintro i x σ H3 hx ⟨s3,a3,v4,rfl⟩
   obtain ⟨t,rfl,ht,rp⟩:=Ze hx
   have hb:=hin t rp
   walk_at "gs"
   refine ⟨nq,_,_,_,rfl,rfl,a3,Sr (by omega) (by rw [ZrX,hlen];omega),s3.put hw,?_,_,rfl⟩
   rw [cz,OZ,PB ht]
  ·rintro σ H3 ⟨s3,a3,v4,rfl⟩
   have f3:=hf.same s3
   rw [ZrX,Zsx] at a3
   walk_at "gs"
   refine ⟨f,dx,_,rfl,f3.ins,rfl,f,dx,pl,kl,m,es,rfl,f3,?_⟩
   walk_at "gs"
   refine ⟨f,a.af,dx,_,_,rfl,f3.ins,T.ay,T.bz,rfl,?_⟩
   walk_at "gs"
   refine ⟨_,_,rfl,⟨by omega,by omega,by omega,by omega⟩,?_⟩
   rw [show (1+(m:Int)+(es.length:Int) - 1 - (m:Int)).toNat=(ar es).length by omega]
   have vH:∀ i,(MF.kX (mS kvs) m (ar es) (MF.jz L0 ts) i).length=1+m+(ar es).length:=fun i=>by rw [MF.Hk,hlen]
   refine Qn (fun i σ H4=>aP H H4/\H4 nq=some (.lst ((MF.kX (mS kvs) m (ar es) (MF.jz L0 ts) i).map V.bl))/\∃ v4 v5,σ=[some (.ref f),some (.ref p),some (.ref sd),some (.ref nq),v4,v5]) ⟨s3,a3,_,_,rfl⟩ ?_ ?_
   ·rintro i σ H4 hi ⟨s4,a4,v4,v5,rfl⟩
    have f4:=hf.same s4
    have Rf:(ar es).length - 1 - i<es.length:=by omega
    have IT:es[(ar es).length - 1 - i]? = some es[(ar es).length - 1 - i]:=ZrY Rf
    have sP:(ar es)[(ar es).length - 1 - i]? = some (es[(ar es).length - 1 - i]).2:=by rw [Zsa,IT];rfl
    obtain ⟨o1,o2,o3,o4⟩:=ok _ _ sP
    have te:=f4.ck.tup _ (ZsD Rf)
    have kn:1+(m:Int)+(es.length:Int) - 1 - (i:Int)=((m+1+((ar es).length - 1 - i):Nat):Int):=by omega
    have mK:MF.kX (mS kvs) m (ar es) (MF.jz L0 ts) (i+1)=MF.tX (mS kvs) m (ar es) (MF.kX (mS kvs) m (ar es) (MF.jz L0 ts) i) ((ar es).length - 1 - i):=rfl
    unfold MF.tX at mK
    rw [Zsc (l:=ar es),sP,Option.getD_some] at mK
    generalize hE:es[(ar es).length - 1 - i]=e at *
    have hjb:m+1+((ar es).length - 1 - i)<1+m+(ar es).length:=by omega
    rw [kn]
    walk_at "gs"
    refine ⟨_,_,.inl (.of a4),su (by omega) (by rw [vH];omega),?_⟩
    rw [ZtL]
    cases hnd:(MF.kX (mS kvs) m (ar es) (MF.jz L0 ts) i).getD (m+1+((ar es).length - 1 - i)) false with
    | false =>
     rw [hnd,Bool.false_and,if_neg (by simp)] at mK
     walk_at "go"
     exact ⟨s4,by rw [mK];exact a4,_,_,rfl⟩
    | true =>
     rw [hnd,Bool.true_and] at mK
     walk_at "gs"
     refine ⟨sd,_,rfl,g9.k (k:=.inl ((m+1+((ar es).length - 1 - i):Nat):Int)) (s4 _ _ hS),?_⟩
     have hst:(gO kvs (.inl ((m+1+((ar es).length - 1 - i):Nat):Int))).isSome=mS kvs (m+1+((ar es).length - 1 - i)):=rfl
     rw [hst]
     cases hsx:mS kvs (m+1+((ar es).length - 1 - i)) with
     | true =>
      rw [hsx,if_neg (by simp)] at mK
      walk_at "go"
      exact ⟨s4,by rw [mK];exact a4,_,_,rfl⟩
     | false =>
      rw [hsx,Bool.not_false,if_pos rfl] at mK
      walk_at "gs"
      refine ⟨f,dx,_,rfl,f4.ins,rfl,f,dx,pl,kl,m,_,es,rfl,f4,fun _=>⟨fun z=>absurd z (by omega),fun e' _ he'=>?_⟩,fun z=>absurd ⟨by omega,by omega⟩ z⟩
      rw [show (((m+1+((ar es).length - 1 - i):Nat):Int) - (m:Int) - 1).toNat=(ar es).length - 1 - i by omega,IT] at he'
      cases he'
      walk_at "gs"
      refine ⟨⟨_,.of te⟩,Va (xs:=[.int e.2.1,.int e.2.2]) (fun j σ H5=>aP H H5/\H5 nq=some (.lst ((MF.jz (MF.kX (mS kvs) m (ar es) (MF.jz L0 ts) i) ([e.2.1,e.2.2].take j)).map V.bl))/\∃ v4 v5,σ=[some (.ref f),some (.ref p),some (.ref sd),some (.ref nq),v4,v5]) ⟨s4,a4,_,_,rfl⟩ ?_ ?_ ?_⟩
      ·rintro j σ H5 _ ⟨s5,_⟩
       exact .of ((hf.same s5).ck.tup _ (Zr5 IT))
      ·rintro j x σ H5 hx ⟨s5,a5,v4,v5,rfl⟩
       obtain ⟨t,rfl,ht,rp⟩:=XJ (ts:=[e.2.1,e.2.2]) hx
       have hb:0<=t/\t<2 * (1+(m:Int)+es.length):=by
        rcases Zr7.mp rp with rfl | rp
        ·omega
        ·rw [Zr2] at rp
         subst rp
         omega
       walk_at "gs"
       refine ⟨nq,_,_,_,rfl,rfl,a5,Sr (by omega) (by rw [ZrX,MF.D5,vH];omega),s5.put hw,?_,_,_,rfl⟩
       rw [cz,OZ,PB ht]
      ·rintro σ H5 ⟨s5,a5,v4,v5,rfl⟩
       refine ⟨s5,?_,_,_,rfl⟩
       rw [mK,<- ZnF]
       exact a5
   ·rintro σ H4 ⟨s4,a4,v4,v5,rfl⟩
    have f4:=hf.same s4
    walk_at "gs"
    refine ⟨f,dx,_,rfl,f4.ins,rfl,f,dx,pl,kl,m,es,rfl,f4,?_⟩
    walk_at "gs"
    rw [show (1+(m:Int)+(es.length:Int)).toNat=1+m+(ar es).length by omega]
    refine Xv (MF.il (mS kvs) m (ar es) ts) KI rfl (by omega) ?_ ?_ ?_
    ·intro i H' Q' hi s' q'
     walk_at "gs"
     refine ⟨_,_,.inl (.of (s' _ _ a4)),su (by omega) (by rw [vH];omega),?_⟩
     rw [show ((0:Int)+(i:Int)).toNat=i by omega]
     have e9:(MF.kX (mS kvs) m (ar es) (MF.jz L0 ts) (ar es).length).getD i false=MF.il (mS kvs) m (ar es) ts i:=by rw [<- A0];rfl
     rw [e9]
     walk_at "go"
     exact q'
    ·intro i H' Q' hi _ s' q'
     walk_at "gs"
     rw [show (0:Int)+(i:Int)=(i:Int) by omega]
     exact q'
    ·intro pq H5 n5
     exact q pq H5 ⟨s4.nil n5.aH,n5.at_,s4.trans n5.same⟩
noncomputable def Sw (a:aN) (_:Zrk):Sp:=fun vs H Q E=>∃ (f dx pl kl:Addr) (m:Nat) (k:Int) (es:List En),vs=[.ref f,.int k]/\aC a.af H f m es dx pl kl/\MF.Ok m (ar es)/\m<=10/\es.length<=4000 /\
 (∀ n:Nat,k=n->n<1+m+es.length->∀ q H',qq H q (.lst ((MF.o5 m (ar es) n).map KI)) H'->Q (.ref q) H')/\(¬ (0<=k/\k<1+m+es.length)->∀ e,H e=none->E (.ref e) (some a.bg) H)
noncomputable def IV (a:aN) (K:Zrk) (E:XK):TS:=(aD (cQ (kq (bK (ag (cf fun i j=>.bl (decide (i<j))) (aa 1) (tC (.int 0)))) (bK (ag (cf fun i j=>.bl (decide (j<=i))) (aa 1) (gq a.af "total" (pD a K) [] E0 (aa 0) aq)))) (qt a.bg (ah (tC (.str "no knot of this fold")) aq) E) dI)
  (cn (cP (Ny a K) [] E0 (ah (aa 0) (ah (ik (ah (aa 1) aq)) (ah qv aq))))))
theorem ZZ (T:Txt K mg a):TX P w K mg base 3 "cone" Bc NQ a.lC (IV a K) :=
 fun hr=>(aG (da (PW.pt (lK (cA oZ (cv 1) ax (cw _)) (nI (cA oK (cv 1) (qF (cv 0) T.ay T.ak.e (qJ T) (hm hr) T.ak.b .nil bZ) (cw _))))) (aI (xT ZrS T.xi_NoKnot (by decide) rfl T.eY rfl pP (ai sG av))) d5)
   (aI (cG (dg T.jE (UR T) (hm hr) bZ (ai (cv 0) (ai (jo (ai (cv 1) av)) (ai zx av)))))))
theorem Vg (T:Txt K mg a):aK P w K mg base (gZ P w) 4 a.lC a.ox ["fold","knot"] (Sw a K):=by
 refine T.oE.n.jg Zqm (ZZ T) (fun vs H Q E h=>?_) (fun H vs Q E h=>?_)
 ·obtain ⟨f,dx,pl,kl,m,k,es,rfl,_⟩:=h;rfl
 ·obtain ⟨f,dx,pl,kl,m,k,es,rfl,hf,ok,hm,hz,qi,qo⟩:=h
  show IV a K E _ [some (.ref f),some (.int k)] H
  unfold IV
  walk_at "go"
  by_cases h0:k<0
  ·rw [if_pos h0]
   exact ⟨by decide,qo (by omega)⟩
  rw [if_neg h0]
  refine ⟨f,dx,_,rfl,hf.ins,rfl,f,dx,pl,kl,m,es,rfl,hf,?_⟩
  walk_at "go"
  by_cases h1:1+(m:Int)+(es.length:Int)<=k
  ·rw [if_pos h1]
   exact ⟨by decide,qo (by omega)⟩
  rw [if_neg h1]
  obtain ⟨n,rfl⟩:=ZtM (by omega:0<=k)
  have q:=qi n rfl (by omega)
  walk_at "gs"
  refine ⟨by show 1<=sizeLine;decide,fun r1 H1 n1=>?_⟩
  walk_at "gs"
  intro sd H2 n2
  have e1:([V.int (n:Int)]:List V)=[2 * (n:Int)].map fun t=>V.int (t / 2):=by
   show [V.int (n:Int)]=[V.int (2 * (n:Int) / 2)]
   rw [show 2 * (n:Int) / 2=(n:Int) by omega]
  rw [e1] at n1
  have s2:=n1.same.trans n2.same
  refine ⟨f,dx,pl,kl,r1,sd,m,[2 * (n:Int)],[],es,rfl,hf.same s2,.of (n2.same _ _ n1.at_),n2.at_,ok,?_,hm,hz,by simp,fun pq H3 n3=>?_⟩
  ·intro t ht
   rw [Zr2] at ht
   subst ht
   have:(ar es).length=es.length:=ZrX ..
   omega
  ·exact q pq H3 ⟨s2.nil n3.aH,n3.at_,s2.trans n3.same⟩
noncomputable def nv (c:Nat):V:=.int (c:Nat)
noncomputable def ov:Option Nat->V
 | none=>.non
 | some u=>nv u
noncomputable def enc (x:Nat × Option Nat):Key × V:=(.inl (x.1:Int),ov x.2)
theorem wU (e:Nat):∀ cs:MZ.Cs,gO (cs.map enc) (.inl (e:Int))=(MZ.aL cs e).map ov
 | []=>rfl
 | x :: r=>by
  rw [Zsg]
  by_cases h:x.1=e
  ·rw [tZ (show (enc x).1=.inl (e:Int) by unfold enc;rw [h])]
   unfold MZ.aL
   rw [Ztq (by simpa using h)]
   rfl
  ·rw [vx (show ¬ (enc x).1=.inl (e:Int) from fun z=>h (by have:=Sum.inl.inj z;omega)),wU e r]
   unfold MZ.aL
   rw [Ztr (by simpa using h)]
theorem We (e:Nat) (cs:MZ.Cs):((cs.map enc).any fun kv=>decide (kv.1=(.inl (e:Int):Key)))=(cs.any fun x=>decide (x.1=e)):=by
 rw [Ztg]
 congr 1
 funext x
 show decide ((.inl (x.1:Int):Key)=.inl (e:Int))=decide (x.1=e)
 rw [decide_eq_decide]
 exact ⟨fun z=>by have:=Sum.inl.inj z;omega,fun z=>by rw [z]⟩
theorem Gs (cs:MZ.Cs) (e:Nat) (o:Option Nat):gj (cs.map enc) (.inl (e:Int)) (ov o)=(MZ.nH cs e o).map enc:=by
 unfold gj MZ.nH
 rw [We]
 by_cases h:(cs.any fun x=>decide (x.1=e))=true
 ·rw [if_pos h,if_pos h,Zsd,Zsd]
  refine ZsL fun x _=>?_
  show (if (enc x).1=.inl (e:Int) then ((enc x).1,ov o) else enc x)=enc (if x.1=e then (x.1,o) else x)
  by_cases g:x.1=e
  ·rw [if_pos g,if_pos (show (enc x).1=.inl (e:Int) by unfold enc;rw [g])]
   rfl
  ·rw [if_neg g,if_neg (show ¬ (enc x).1=.inl (e:Int) from fun z=>g (by have:=Sum.inl.inj z;omega))]
 ·rw [if_neg h,if_neg h,Zr4]
  rfl
theorem Zpo (cs:MZ.Cs) (e:Nat):uG (cs.map enc) (.inl (e:Int))=(MZ.zt cs e).map enc:=by
 unfold uG MZ.zt
 rw [Zs8]
 congr 1
 refine List.filter_congr fun x _=>?_
 show decide ((enc x).1≠.inl (e:Int))=decide (x.1≠e)
 rw [decide_eq_decide]
 exact ⟨fun z g=>z (by unfold enc;rw [g]),fun z g=>z (by have:=Sum.inl.inj g;omega)⟩
structure bC (H:Hp) (mp:Addr) (rs:List Addr) (ls:List (List Nat)):Prop where
 lst:H mp=some (.lst (rs.map V.ref))
 len:rs.length=ls.length
 at_:∀ (i:Nat) r l,rs[i]? = some r->ls[i]? = some l->H r=some (.lst (l.map nv))
theorem bC.same {H H':Hp}{mp:Addr}{rs:List Addr}{ls:List (List Nat)} (h:bC H mp rs ls) (s:aP H H'):bC H' mp rs ls:=⟨s _ _ h.lst,h.len,fun i r l hr hl=>s _ _ (h.at_ i r l hr hl)⟩
noncomputable def aW (ls:List (List Nat)) (p:Nat):List Nat:=ls.getD p []
theorem bC.get {H:Hp}{mp:Addr}{rs:List Addr}{ls:List (List Nat)} (h:bC H mp rs ls) {i:Nat} (hi:i<ls.length):∃ r,fJ (rs.map V.ref) (i:Int)=some (.ref r)/\H r=some (.lst ((aW ls i).map nv)):=by
 have hr:rs[i]? = some (rs[i]'(by rw [h.len];exact hi)):=ZrY _
 have hl:ls[i]? = some ls[i]:=ZrY hi
 refine ⟨rs[i]'(by rw [h.len];exact hi),?_,?_⟩
 ·rw [oS .non (by omega) (by rw [ZrX,h.len];omega),ZtL,Zsc,Zsa,hr]
  rfl
 ·have:=h.at_ i _ _ hr hl
  unfold aW
  rw [Zsc,hl]
  exact this
noncomputable def DW (_:Zrk):Sp:=fun vs H Q _=>∃ p:Nat,vs=[.int p]/\Q (nv (2 * p)) H
noncomputable def LO (K:Zrk):TS:=(cn (ag ju (tC (.int 2)) (aa 0)))
theorem Zp7 (T:Txt K mg a):TM P w K mg base 0 "head" FJ QE a.lq (LO K) :=
 fun hr=>(aI (cG (aB jQ ax (cv 0))))
theorem Hc (T:Txt K mg a):aK P w K mg base dQ 1 a.lq a.oV ["place"] (DW K):=by
 refine T.iE.n.fg W0 (Zp7 T) (fun vs H Q E h=>?_) (fun H vs Q E h=>?_)
 ·obtain ⟨p,rfl,_⟩:=h;rfl
 ·obtain ⟨p,rfl,q⟩:=h
  show LO K _ [some (.int p)] H
  unfold LO
  walk_at "gs"
  exact q
noncomputable def sU (_:Zrk):Sp:=fun vs H Q _=>∃ p:Nat,vs=[.int p]/\Q (nv (2 * p+1)) H
noncomputable def MQ (K:Zrk):TS:=(cn (ag ef (ag ju (tC (.int 2)) (aa 0)) (tC (.int 1))))
theorem WQ (T:Txt K mg a):TM P w K mg base 0 "foot" Fd RQ a.ly (MQ K) :=
 fun hr=>(aI (cG (aB eC (aB jQ ax (cv 0)) ax)))
theorem wQ (T:Txt K mg a):aK P w K mg base dQ 1 a.ly a.oy ["place"] (sU K):=by
 refine T.eQ.n.fg ZO (WQ T) (fun vs H Q E h=>?_) (fun H vs Q E h=>?_)
 ·obtain ⟨p,rfl,_⟩:=h;rfl
 ·obtain ⟨p,rfl,q⟩:=h
  show MQ K _ [some (.int p)] H
  unfold MQ
  walk_at "gs"
  exact q
noncomputable def zj (ls:List (List Nat)) (gs:List Int):Prop:=∀ g∈gs,0<=g/\(g<ls.length/\aW ls g.toNat≠[])
noncomputable def NF (a:aN) (_:Zrk):Sp:=fun vs H Q E=>∃ (mp gp:Addr) (rs:List Addr) (ls:List (List Nat)) (gs:List Int),vs=[.ref mp,.ref gp]/\bC H mp rs ls/\H gp=some (.lst (gs.map V.int))/\(zj ls gs->Q .non H)/\(¬ zj ls gs->∀ e,H e=none->E (.ref e) (some a.cc) H)
noncomputable abbrev Ur (a:aN) (K:Zrk) (E:XK):TS:=(cQ (kq (bK (ag (cf fun i j=>.bl (decide (i<j))) (aa 2) (tC (.int 0)))) (kq (bK (ag (cf fun i j=>.bl (decide (j<=i))) (aa 2) (dk (iB K) (ah (aa 0) aq)))) (bK (ag (gU K) (dk (iB K) (ah (ag (bJ K) (aa 0) (aa 2)) aq)) (tC (.int 0)))))) (qt a.cc (ah (tC (.str "a goal is a spring or no place of the maze")) aq) E) dI)
noncomputable def JS (a:aN) (K:Zrk) (E:XK):TS:=(eD (jt K (aa 1)) (aE 2) (aO (Ur a K E)))
theorem Zif (T:Txt K mg a):TX P w K mg base 0 "need_goals" EW Qt a.dW (JS a K) :=
 fun hr=>(aI (iY DR rfl (kM (cv 1)) (dP (i:=2) Qx.nd rfl (by walk_at "o")) (aV (aI (da (PW.pt (lK (cA oZ (cv 2) ax (cw _)) (lK (cA oK (cv 2) (dU jw (by rfl) T.bj PySem.boot_len (ai (cv 0) av)) (cw _)) (nI (cA (iq (gr hr)) (dU jw (by rfl) T.bj PySem.boot_len (ai (bP bQ (cv 0) (cv 2) (fun _ _=>rfl)) av)) ax (cw _)))))) (aI (xT ZrS T.xi_NoGoal (by decide) rfl T.mJ rfl pP (ai sG av))) d5)))))
theorem ZiI (T:Txt K mg a):aK P w K mg base (gZ P w) 1 a.dW a.fR ["maze","goals"] (NF a K):=by
 refine T.cR.n.jg Qx (Zif T) (fun vs H Q E h=>?_) (fun H vs Q E h=>?_)
 ·obtain ⟨mp,gp,rs,ls,gs,rfl,_⟩:=h;rfl
 ·obtain ⟨mp,gp,rs,ls,gs,rfl,hM,hG,q1,q0⟩:=h
  show JS a K E _ [some (.ref mp),some (.ref gp),none] H
  unfold JS
  walk_at "gs"
  refine ⟨⟨_,.of hG⟩,rD (xs:=gs.map V.int) (fun i σ H2=>H2=H/\zj ls (gs.take i)/\∃ v2,σ=[some (.ref mp),some (.ref gp),v2]) ⟨rfl,fun g hg=>by simp at hg,_,rfl⟩ ?_ ?_ ?_⟩
  ·rintro i σ H2 _ ⟨rfl,_⟩
   exact .of hG
  ·rintro i v σ H2 hv ⟨rfl,aF,v2,rfl⟩
   obtain ⟨g,hg,rfl⟩:=xV hv
   have bad:¬ (0<=g/\(g<ls.length/\aW ls g.toNat≠[]))->∀ e,H2 e=none->E (.ref e) (some a.cc) H2:=fun kG=>q0 fun iJ=>kG (iJ g (Zr5 hg))
   walk_at "gs"
   by_cases c0:g<0
   ·rw [if_pos c0]
    walk_at "gs"
    exact fun e he=>bad (by omega) e he
   rw [if_neg c0]
   refine .inl ⟨_,.inl (.of hM.lst),?_⟩
   rw [ZrX,hM.len]
   by_cases c1:(ls.length:Int)<=g
   ·rw [if_pos c1]
    walk_at "gs"
    exact fun e he=>bad (by omega) e he
   rw [if_neg c1]
   obtain ⟨gn,rfl⟩:=ZtM (by omega:0<=g)
   obtain ⟨r,h1,h2⟩:=hM.get (i:=gn) (by omega)
   refine ⟨_,_,.inl (.of hM.lst),h1,?_⟩
   refine .inl ⟨_,.inl (.of h2),?_⟩
   rw [ZrX]
   walk_at "gs"
   by_cases c2:((aW ls gn).length:Int)=0
   ·rw [if_pos c2]
    walk_at "gs"
    refine fun e he=>bad (fun ⟨_,_,z⟩=>z ?_) e he
    rw [ZtL]
    exact Ztm.mp (by omega)
   ·rw [if_neg c2]
    refine ⟨by trivial,fun x hx=>?_,_,rfl⟩
    rw [Zsj,hg] at hx
    rcases Zr3.mp hx with z | z
    ·exact aF x z
    ·simp only [Option.toList_some,Zr2] at z
     subst z
     refine ⟨by omega,by omega,fun z=>c2 ?_⟩
     rw [ZtL] at z
     rw [z]
     rfl
  ·rintro σ H2 ⟨rfl,aF,v2,rfl⟩
   rw [ZrX,Zsx] at aF
   walk_at "gs"
   exact q1 aF
noncomputable def Kr (_:Zrk):Sp:=fun vs H Q _=>∃ (mp ap:Addr) (rs:List Addr) (ls:List (List Nat)) (as:MZ.Cs) (e:Nat),vs=[.ref mp,.ref ap,.int e]/\bC H mp rs ls/\H ap=some (.dK (as.map enc))/\e / 2<ls.length/\ls.length<=1200/\(aW ls (e / 2)).length<=1200 /\
 ∀ l H',qq H l (.lst ((MZ.fY (aW ls) (MZ.aL as) e).map nv)) H'->Q (.ref l) H'
noncomputable abbrev Zhi (K:Zrk):TS:=(cn (ag ef (jn (jt K (ag (bJ K) (aa 0) (aa 3))) 1 [] (aE 0) lx (cP (DW K) [] E0 (ah (aa 0) aq))) (ik (ah (cP (DW K) [] E0 (ah (aa 3) aq)) aq))))
noncomputable abbrev Zhh (K:Zrk):TS:=(cn (Hs (bK (ag vd (pE (aa 1) (aa 3)) (tC .non))) (ik aq) (ik (ah (cP (sU K) [] E0 (ah (pE (aa 1) (aa 3)) aq)) aq))))
noncomputable abbrev Xu (K:Zrk):TS:=(aD (cQ (bK (rC (aa 3) (aa 1))) (cn (ik (ah (cP (sU K) [] E0 (ah (aa 3) aq)) aq))) dI)
  (aO (Zhh K)))
noncomputable abbrev Yj (K:Zrk):TS:=(aD (cQ (bK (ag (gU K) (aa 2) (cP (sU K) [] E0 (ah (aa 3) aq)))) (aO (Zhi K)) dI)
  (aO (Xu K)))
noncomputable def Mv (K:Zrk):TS:=(aD (bb (ag (bU eA fun i j=>.int (i / j)) (aa 2) (tC (.int 2))) (aE 3))
  (aO (Yj K)))
theorem Wu (T:Txt K mg a):TM P w K mg base 1 "next_ends" zC Kf a.eO (Mv K) :=
 fun hr=>(aG (bI (i:=3) OU.nd rfl (by walk_at "o") (aB eE (cv 2) ax))
   (aV (aG (da (cA (iq (gr hr)) (cv 2) (dg T.eQ (wQ T) (hm hr) bZ (ai (cv 3) av)) (cw _)) (aV (aI (cG (aB eC (ze (N:=["lower"]) (k:=1) (sel:=[]) (aT.of (bx zC).names (by decide +kernel)) (bA.of Kf (by decide +kernel)) rfl (kM (bP bQ (cv 0) (cv 3) (fun _ _=>rfl))) (fun _ _ _ _=>(dP (i:=0) (show Zss (["lower"]:List Str) by decide +kernel) rfl (by walk_at "o"))) (fun _ _ _ _=>sR) (fun _ _ _ _=>(dg T.iE (Hc T) (hm hr) bZ (ai (cv 0) av)))) (jo (ai (dg T.iE (Hc T) (hm hr) bZ (ai (cv 3) av)) av)))))) d5)
   (aV (aG (da (rn (zh (gK hr) (cv 3) (cv 1))) (aI (cG (jo (ai (dg T.eQ (wQ T) (hm hr) bZ (ai (cv 3) av)) av)))) d5)
   (aV (aI (cG (Rv (cA og (tj (gK hr) (cv 1) (cv 3) (fun _ _=>rfl)) kg (cw _)) (jo av) (jo (ai (dg T.eQ (wQ T) (hm hr) bZ (ai (tj (gK hr) (cv 1) (cv 3) (fun _ _=>rfl)) av)) av)))))))))))
theorem ZjF (T:Txt K mg a):aK P w K mg base dQ 2 a.eO a.gW ["maze","above","end"] (Kr K):=by
 refine T.gL.n.fg OU (Wu T) (fun vs H Q E h=>?_) (fun H vs Q E h=>?_)
 ·obtain ⟨mp,ap,rs,ls,as,e,rfl,_⟩:=h;rfl
 ·obtain ⟨mp,ap,rs,ls,as,e,rfl,hM,hA,he,hl,Aa,q⟩:=h
  show Mv K _ [some (.ref mp),some (.ref ap),some (.int e),none] H
  unfold Mv
  have big:(20000:Nat)<=sizeLine:=by decide
  have e2:((e:Int) / 2)=((e / 2:Nat):Int):=by omega
  have g1:=g9.k (k:=.inl ((e / 2:Nat):Int)) hA
  rw [wU] at g1
  walk_at "gs"
  rw [e2]
  refine ⟨e / 2,rfl,?_⟩
  unfold nv
  walk_at "gs"
  by_cases c:(e:Int)=((2 * (e / 2)+1:Nat):Int)
  ·rw [if_pos c]
   have HM:e % 2=1:=by omega
   obtain ⟨r,h1,h2⟩:=hM.get he
   walk_at "go"
   refine ⟨_,_,.inl (.of hM.lst),h1,?_⟩
   refine ⟨⟨_,.of h2⟩,PV (fun v=>match v with | .int l=>.int (2 * l) | _=>.non) (.of h2) rfl (by rw [ZrX];omega) ?_ ?_⟩
   ·intro v H' Q' hv s' q'
    obtain ⟨l,_,rfl⟩:=Zr8.mp hv
    walk_at "gs"
    refine ⟨l,rfl,?_⟩
    have:nv (2 * l)=V.int (2 * (l:Int)):=by unfold nv;congr 1
    rw [this]
    exact q'
   intro l1 H1 n1
   have e1:((aW ls (e / 2)).map nv).map (fun v=>match v with | .int l=>V.int (2 * l) | _=>.non)=((aW ls (e / 2)).map fun l=>2 * l).map nv:=by rw [Zsd,Zsd];rfl
   rw [e1] at n1
   walk_at "gs"
   refine ⟨e / 2,rfl,?_⟩
   refine ⟨by show 1<=sizeLine;decide,fun l2 H2 n2=>?_⟩
   refine ⟨_,_,n2.same _ _ n1.at_,n2.at_,by rw [ZrX,ZrX];show _+1<=_;omega,fun l3 LK=>?_⟩
   have e3:((aW ls (e / 2)).map fun l=>2 * l).map nv ++ [nv (2 * (e / 2))]=(MZ.fY (aW ls) (MZ.aL as) e).map nv:=by
    unfold MZ.fY
    rw [if_pos HM,Zr4]
    rfl
   rw [e3]
   have s2:=n1.same.trans n2.same
   exact q l3 _ ⟨s2.nil LK,cz,s2.trans (kz LK)⟩
  rw [if_neg c]
  have Kl:¬ e % 2=1:=by omega
  walk_at "go"
  refine ⟨ap,_,rfl,g1,?_⟩
  cases hc:MZ.aL as (e / 2) with
  | none =>
   rw [hc] at g1
   walk_at "gs"
   refine ⟨e / 2,rfl,?_⟩
   refine ⟨by show 1<=sizeLine;decide,fun l2 H2 n2=>?_⟩
   have e3:[nv (2 * (e / 2)+1)]=(MZ.fY (aW ls) (MZ.aL as) e).map nv:=by
    unfold MZ.fY
    rw [if_neg Kl,hc]
    rfl
   rw [e3] at n2
   exact q l2 H2 n2.KD
  | some o =>
   rw [hc] at g1
   walk_at "gs"
   refine ⟨ap,_,rfl,g1,?_⟩
   cases o with
   | none =>
    show _
    walk_at "gs"
    intro l2 H2 n2
    have e3:([]:List V)=(MZ.fY (aW ls) (MZ.aL as) e).map nv:=by
     unfold MZ.fY
     rw [if_neg Kl,hc]
     rfl
    rw [e3] at n2
    exact q l2 H2 n2.KD
   | some u =>
    show _
    walk_at "gs"
    refine ⟨ap,_,rfl,g1,?_⟩
    refine ⟨u,rfl,?_⟩
    refine ⟨by show 1<=sizeLine;decide,fun l2 H2 n2=>?_⟩
    have e3:[nv (2 * u+1)]=(MZ.fY (aW ls) (MZ.aL as) e).map nv:=by
     unfold MZ.fY
     rw [if_neg Kl,hc]
     rfl
    rw [e3] at n2
    exact q l2 H2 n2.KD
noncomputable def mP (gs:List Nat) (g:Nat):Prop:=g∈gs
theorem qj {n:Nat}:∀ {xs:List Nat},xs.Nodup->(∀ x∈xs,x<n)->xs.length<=n:=fun {xs} nd h=>by
 have:=MZ.wy (R:=fun a b:Nat=>a=b) (fun a a' b h h'=>h.trans h'.symm) (A:=xs) (B:=Zr6 n) nd fun a ha=>⟨a,ZsY.mpr (h a ha),rfl⟩
 rwa [ZsG] at this
structure jZ (ls:List (List Nat)) (gs:List Nat) (as cs:MZ.Cs) (ws:List Nat):Prop where
 oz:MZ.jR (aW ls) (mP gs) (MZ.aL as) cs
 wait:∀ w∈ws,w∈MZ.keys cs
 YJ:ws.Nodup
 bd:∀ e∈MZ.keys cs,e<2 * ls.length
 done:∀ e∈MZ.keys cs,e∈ws\/((∀ t,e=2 * t+1->aW ls t≠[])/\∀ e'∈MZ.fY (aW ls) (MZ.aL as) e,e'∈MZ.keys cs)
theorem jZ.len {ls:List (List Nat)}{gs:List Nat}{as cs:MZ.Cs}{ws:List Nat} (h:jZ ls gs as cs ws):cs.length<=2 * ls.length:=by
 have:=qj h.oz.nd h.bd
 unfold MZ.keys at this
 rwa [ZrX] at this
structure Mz (ls:List (List Nat)):Prop where
 lt:∀ p l,l∈aW ls p->l<p
 nd:∀ p,(aW ls p).Nodup
theorem Mz.len {ls:List (List Nat)} (h:Mz ls) (p:Nat):(aW ls p).length<=p:=qj (h.nd p) (h.lt p)
theorem Lo {ls:List (List Nat)}{p l:Nat} (h:l∈aW ls p):p<ls.length:=by
 refine ZtF fun z=>?_
 unfold aW at h
 rw [Zsc,Zsu z] at h
 simp at h
theorem yx {ls:List (List Nat)} (mz:Mz ls) {as:MZ.Cs} (ab:∀ p q,MZ.aL as p=some (some q)->q<ls.length) {e e':Nat} (he:e<2 * ls.length) (h:e'∈MZ.fY (aW ls) (MZ.aL as) e):e'<2 * ls.length:=by
 rcases (by omega:e=2 * (e / 2)\/e=2 * (e / 2)+1) with z | z
 ·rw [z] at h
  rcases MZ.yH h with ⟨_,rfl⟩ | ⟨q,hq,rfl⟩
  ·omega
  ·have:=ab _ _ hq
   omega
 ·rw [z] at h
  rcases MZ.zR h with ⟨l,hl,rfl⟩ | rfl
  ·have:=mz.lt _ _ hl
   omega
  ·omega
noncomputable def Px (_:Zrk):Sp:=fun vs H Q _=>∃ (mp gp ap:Addr) (rs:List Addr) (ls:List (List Nat)) (gs:List Nat) (as:MZ.Cs),vs=[.ref mp,.ref gp,.ref ap]/\bC H mp rs ls/\H gp=some (.lst (gs.map nv))/\H ap=some (.dK (as.map enc))/\Mz ls/\ls.length<=1200/\(∀ g∈gs,g<ls.length)/\(∀ p q,MZ.aL as p=some (some q)->q<ls.length) /\
 (∀ s cs tp cp H',aP H H'->H cp=none->H' tp=some (.tup [nv s,.ref cp])->H' cp=some (.dK (cs.map enc))->MZ.jR (aW ls) (mP gs) (MZ.aL as) cs->aW ls s=[]->2 * s+1∈MZ.keys cs->s<ls.length->(∀ e∈MZ.keys cs,e<2 * ls.length)->Q (.ref tp) H') /\
 (∀ cs tp cp H',aP H H'->H' tp=some (.tup [.non,.ref cp])->H' cp=some (.dK (cs.map enc))->jZ ls gs as cs []->Q (.ref tp) H')
noncomputable abbrev Pb (K:Zrk):TS:=(cQ (bK (rC (aa 9) (aa 3))) (aD (nK (aa 3) (aa 9) (aa 7))
  (fW (j8 K "list" kQ (aa 6) (ah (aa 9) aq)))) dI)
noncomputable abbrev Ud (K:Zrk):TS:=(aD (cQ (pU (bK (ag (gU K) (aa 7) (cP (sU K) [] E0 (ah (aa 8) aq)))) (bK (ag (gU K) (dk (iB K) (ah (ag (bJ K) (aa 0) (aa 8)) aq)) (tC (.int 0))))) (cn (kh (ah (aa 8) (ah (aa 3) aq)))) dI)
  (eD (jt K (cP (Kr K) [] E0 (ah (aa 0) (ah (aa 2) (ah (aa 7) aq))))) (aE 9) (aO (Pb K))))
noncomputable abbrev Zku (K:Zrk):TS:=(aD (bb (yp K "list" tF (aa 6)) (aE 7))
  (aD (bb (ag (bU eA fun i j=>.int (i / j)) (aa 7) (tC (.int 2))) (aE 8))
  (aO (Ud K))))
noncomputable abbrev Yi (K:Zrk):TS:=(aD (bb (dk (ID K) (ah (aa 3) aq)) (aE 6))
  (aD (wO (jX K (aa 6)) (aO (Zku K)))
  (cn (kh (ah (tC .non) (ah (aa 3) aq))))))
noncomputable abbrev V1 (K:Zrk):TS:=(aD (eD (jt K (aa 1)) (aE 4) (eD (jt K (ag (bJ K) (aa 0) (aa 4))) (aE 5) (nK (aa 3) (cP (DW K) [] E0 (ah (aa 5) aq)) (tC .non))))
  (aO (Yi K)))
noncomputable def L9 (K:Zrk):TS:=(aD (bb qv (aE 3))
  (aO (V1 K)))
theorem W9 (T:Txt K mg a):TM P w K mg base 2 "search" BH Pl a.i6 (L9 K) :=
 fun hr=>(aG (bI (i:=3) sg.nd rfl (by walk_at "o") zx)
   (aV (aG (iY PassesOwn.never rfl (kM (cv 1)) (dP (i:=4) sg.nd rfl (by walk_at "o")) (aI (iY PassesOwn.never rfl (kM (bP bQ (cv 0) (cv 4) (fun _ _=>rfl))) (dP (i:=5) sg.nd rfl (by walk_at "o")) (aI (pT (gK hr) (cv 3) (dg T.iE (Hc T) (hm hr) bZ (ai (cv 5) av)) kg rfl)))))
   (aV (aG (bI (i:=6) sg.nd rfl (by walk_at "o") (IA (Zq4 rfl) (by rfl) T.gf PyProof.Rows.boot_list (ai (cv 3) av)))
   (aG (Ma PassesOwn.never (mf (cv 6)) (aV (aG (bI (i:=7) sg.nd rfl (by walk_at "o") (vq ZrP PySem.F.slot_list_pop PySem.F.type_list_pop (kR uR) (cv 6)))
   (aG (bI (i:=8) sg.nd rfl (by walk_at "o") (aB eE (cv 7) ax))
   (aV (aG (da (PW.pt (sH (cA (iq (gr hr)) (cv 7) (dg T.eQ (wQ T) (hm hr) bZ (ai (cv 8) av)) (cw _)) (rq (cA (iq (gr hr)) (dU jw (by rfl) T.bj PySem.boot_len (ai (bP bQ (cv 0) (cv 8) (fun _ _=>rfl)) av)) ax (cw _))))) (aI (cG (lj (ai (cv 8) (ai (cv 3) av))))) d5)
   (aI (iY PassesOwn.never rfl (kM (dg T.gL (ZjF T) (hm hr) bZ (ai (cv 0) (ai (cv 2) (ai (cv 7) av))))) (dP (i:=9) sg.nd rfl (by walk_at "o")) (aV (aI (da (rn (zh (gK hr) (cv 9) (cv 3))) (aG (pT (gK hr) (cv 3) (cv 9) (cv 7) rfl)
   (aI (gB (kK ZrP ZrQ ZrR (kR kS) (cv 6) (ai (cv 9) av))))) d5)))))))))))
   (aI (cG (lj (ai kg (ai (cv 3) av)))))))))))
theorem Znw (T:Txt K mg a):aK P w K mg base dQ 3 a.i6 a.kC ["maze","goals","above"] (Px K):=by
 refine T.kD.n.fg sg (W9 T) (fun vs H Q E h=>?_) (fun H vs Q E h=>?_)
 ·obtain ⟨mp,gp,ap,rs,ls,gs,as,rfl,_⟩:=h;rfl
 ·obtain ⟨mp,gp,ap,rs,ls,gs,as,rfl,hM,hG,hA,mz,hn,pe,gX,q1,q0⟩:=h
  show L9 K _ [some (.ref mp),some (.ref gp),some (.ref ap),none,none,none,none,none,none,none] H
  unfold L9
  have big:(20000:Nat)<=sizeLine:=by decide
  walk_at "gs"
  intro cp H1 n1
  have fc:H cp=none:=n1.aH
  walk_at "gs"
  refine ⟨⟨_,.of (n1.same _ _ hG)⟩,rD (xs:=gs.map nv) (fun i σ H2=>aP H H2/\∃ (cs:MZ.Cs) (v4 v5:Option V),H2 cp=some (.dK (cs.map enc))/\(MZ.keys cs).Nodup/\(∀ x∈cs,x.2=none)/\(∀ e,e∈MZ.keys cs ↔ ∃ g∈gs.take i,∃ l∈aW ls g,e=2 * l)/\σ=[some (.ref mp),some (.ref gp),some (.ref ap),some (.ref cp),v4,v5,none,none,none,none]) ⟨n1.same,[],_,_,n1.at_,ZsP,fun x hx=>by simp at hx,fun e=>by simp [MZ.keys],rfl⟩ ?_ ?_ ?_⟩
  ·rintro i σ H2 _ ⟨s2,_⟩
   exact .of (s2 _ _ hG)
  ·rintro i v σ H2 hv ⟨s2,cs,v4,v5,h2,nd2,all2,key2,rfl⟩
   obtain ⟨g,hg,rfl⟩:=xV hv
   have zV:=pe g (Zr5 hg)
   obtain ⟨r,hr1,hr2⟩:=(hM.same s2).get zV
   have Aa:=mz.len g
   unfold nv
   walk_at "gs"
   refine ⟨_,_,.inl (.of (s2 _ _ hM.lst)),hr1,?_⟩
   refine ⟨⟨_,.of hr2⟩,rD (xs:=(aW ls g).map nv) (fun j σ H3=>aP H H3/\H3 r=some (.lst ((aW ls g).map nv))/\∃ (cs:MZ.Cs) (v5:Option V),H3 cp=some (.dK (cs.map enc))/\(MZ.keys cs).Nodup/\(∀ x∈cs,x.2=none)/\(∀ e,e∈MZ.keys cs ↔ (∃ g∈gs.take i,∃ l∈aW ls g,e=2 * l)\/∃ l∈(aW ls g).take j,e=2 * l)/\σ=[some (.ref mp),some (.ref gp),some (.ref ap),some (.ref cp),some (.int (g:Nat)),v5,none,none,none,none]) ⟨s2,hr2,cs,_,h2,nd2,all2,fun e=>by rw [key2];simp,rfl⟩ ?_ ?_ ?_⟩
   ·rintro j σ H3 _ ⟨_,h3,_⟩
    exact .of h3
   ·rintro j w σ H3 hw ⟨s3,tf,cs,v5,h3,nd3,all3,key3,rfl⟩
    obtain ⟨l,hl,rfl⟩:=xV hw
    have IH:=Zr5 hl
    have jL:cs.length<=2 * ls.length:=by
     have:=qj (n:=2 * ls.length) nd3 fun e he=>by
      rcases (key3 e).mp he with ⟨g',hg',l',hl',rfl⟩ | ⟨l',hl',rfl⟩
      ·have:=mz.lt _ _ hl'
       have:=Lo hl'
       omega
      ·have:=mz.lt _ _ (ZsS hl')
       omega
     unfold MZ.keys at this
     rwa [ZrX] at this
    unfold nv
    walk_at "gs"
    refine ⟨l,rfl,cp,_,rfl,.k (k:=.inl ((2 * l:Nat):Int)) h3 (by rw [ZrX];omega),s3.put fc,?_,MZ.nH cs (2 * l) none,_,?_,MZ.Bq nd3 _ _,fun x hx=>?_,fun e=>?_,rfl⟩
    ·rw [aQ (cZ tf h3 (fun z=>nomatch z))]
     exact tf
    ·rw [cz]
     exact congrArg (fun z=>some (HO.dK z)) (Gs cs (2 * l) none)
    ·have hx':=(MZ.nX (MZ.Bq nd3 _ _)).mpr (show (x.1,x.2)∈_ from hx)
     rw [MZ.HV nd3] at hx'
     by_cases e:x.1=2 * l
     ·rw [if_pos e] at hx'
      exact (Option.some.inj hx').symm
     ·rw [if_neg e] at hx'
      exact all3 _ ((MZ.nX nd3).mp hx')
    ·rw [MZ.KW]
     have ek:(∃ l'∈(aW ls g).take (j+1),e=2 * l') ↔ (∃ l'∈(aW ls g).take j,e=2 * l')\/e=2 * l:=by
      rw [Zsj,hl]
      constructor
      ·rintro ⟨l',hl',rfl⟩
       rcases Zr3.mp hl' with z | z
       ·exact .inl ⟨l',z,rfl⟩
       ·simp only [Option.toList_some,Zr2] at z
        subst z
        exact .inr rfl
      ·rintro (⟨l',hl',rfl⟩ | rfl)
       ·exact ⟨l',Zsp _ hl',rfl⟩
       ·exact ⟨l,Zsm _ (by simp),rfl⟩
     rw [ek,<- or_assoc,<- key3]
     split
     ·rename_i hin
      constructor
      ·exact .inl
      ·rintro (z | rfl)
       ·exact z
       ·exact hin
     ·rw [Zr3,Zr2]
   ·rintro σ H3 ⟨s3,tf,cs,v5,h3,nd3,all3,key3,rfl⟩
    rw [ZrX,Zsx] at key3
    refine ⟨s3,cs,_,_,h3,nd3,all3,fun e=>?_,rfl⟩
    rw [key3,Zsj,hg]
    constructor
    ·rintro (⟨g',hg',l,hl,rfl⟩ | ⟨l,hl,rfl⟩)
     ·exact ⟨g',Zsp _ hg',l,hl,rfl⟩
     ·exact ⟨g,Zsm _ (by simp),l,hl,rfl⟩
    ·rintro ⟨g',hg',l,hl,rfl⟩
     rcases Zr3.mp hg' with z | z
     ·exact .inl ⟨g',z,l,hl,rfl⟩
     ·simp only [Option.toList_some,Zr2] at z
      subst z
      exact .inr ⟨l,hl,rfl⟩
  ·rintro σ H2 ⟨s2,cs0,v4,v5,h2,nd2,all2,key2,rfl⟩
   rw [ZrX,Zsx] at key2
   have Xd:MZ.jR (aW ls) (mP gs) (MZ.aL as) cs0:=by
    refine ⟨nd2,fun i e u h=>?_,fun e h=>?_,fun g l hg hl=>?_⟩
    ·have:=all2 _ (Zr5 h)
     cases this
    ·obtain ⟨g,hg,l,hl,rfl⟩:=(key2 e).mp (Zr8.mpr ⟨_,h,rfl⟩)
     exact ⟨by omega,g,hg,by rw [show 2 * l / 2=l by omega];exact hl⟩
    ·obtain ⟨x,hx,e⟩:=Zr8.mp ((key2 (2 * l)).mpr ⟨g,hg,l,hl,rfl⟩)
     have:=all2 x hx
     rw [<- e,<- this]
     exact hx
   have Xi:jZ ls gs as cs0 (MZ.keys cs0):=⟨Xd,fun w hw=>hw,nd2,fun e he=>by
    obtain ⟨g,hg,l,hl,rfl⟩:=(key2 e).mp he
    have:=mz.lt _ _ hl
    have:=Lo hl
    omega,fun e he=>.inl he⟩
   walk_at "gs"
   refine ⟨_,.inl h2,fun wp H3 n3=>?_⟩
   have e3:(cs0.map enc).map (fun kv=>kV kv.1)=(MZ.keys cs0).map nv:=by unfold MZ.keys;rw [Zsd,Zsd];rfl
   rw [e3] at n3
   have ke:=s2.trans n3.same
   have fw:H wp=none:=s2.nil n3.aH
   have Kx:cp≠wp:=cq h2 n3.aH
   walk_at "gs"
   refine ⟨fun m σ H4=>∃ (cs:MZ.Cs) (ws:List Nat) (v4 v5 v7 v8 v9:Option V),aP H H4/\H4 cp=some (.dK (cs.map enc))/\H4 wp=some (.lst (ws.map nv))/\jZ ls gs as cs ws/\m=2 * (2 * ls.length - cs.length)+ws.length/\σ=[some (.ref mp),some (.ref gp),some (.ref ap),some (.ref cp),v4,v5,some (.ref wp),v7,v8,v9],⟨_,cs0,MZ.keys cs0,_,_,_,_,_,ke,n3.same _ _ h2,n3.at_,Xi,rfl,rfl⟩,?_⟩
   rintro m σ H4 ⟨cs,ws,v4,v5,v7,v8,v9,s4,h4,D4,sk,rfl,rfl⟩
   simp only [jX,aa,Zs4,ZsJ]
   refine ⟨_,.inl ⟨_,.of D4,rfl⟩,?_⟩
   rcases List.eq_nil_or_concat ws with rfl | ⟨ws',e,hwe⟩
   ·rw [if_neg (by simp)]
    walk_at "gs"
    refine ⟨by show 2<=sizeLine;decide,fun tp H5 n5=>?_⟩
    exact q0 cs tp cp H5 (s4.trans n5.same) n5.at_ (n5.same _ _ h4) sk
   rw [List.concat_eq_append] at hwe
   subst hwe
   rw [if_pos (by simp)]
   have Cf:=sk.wait e (by simp)
   have G4:=sk.bd e Cf
   have jL:=sk.len
   have R0:=Zs5.mp sk.YJ
   refine ⟨fun σ' H'=>∃ (fA:MZ.Cs) (iL:List Nat) (v4 v5 v7 v8 v9:Option V),aP H H'/\H' cp=some (.dK (fA.map enc))/\H' wp=some (.lst (iL.map nv))/\jZ ls gs as fA iL/\2 * (2 * ls.length - fA.length)+iL.length<=2 * (2 * ls.length - cs.length)+ws'.length/\σ'=[some (.ref mp),some (.ref gp),some (.ref ap),some (.ref cp),v4,v5,some (.ref wp),v7,v8,v9],?_,?_⟩
   ·rintro σ' H' ⟨fA,iL,w4,w5,w7,w8,w9,z1,z2,z3,z4,z5,rfl⟩
    exact ⟨_,by rw [Zr0,Zsk];omega,fA,iL,_,_,_,_,_,z1,z2,z3,z4,rfl,rfl⟩
   walk_at "go"
   refine ⟨.inl ⟨by trivial,_,.of D4⟩,wp,_,nv e,rfl,by trivial,D4,by rw [Zr4];simp,?_⟩
   have Ll:upd H4 wp (.lst (((ws' ++ [e]).map nv).dropLast)) wp=some (.lst (ws'.map nv)):=by rw [cz,Zr4];simp
   have h5:upd H4 wp (.lst (((ws' ++ [e]).map nv).dropLast)) cp=some (.dK (cs.map enc)):=by rw [aQ Kx];exact h4
   have s5:aP H (upd H4 wp (.lst (((ws' ++ [e]).map nv).dropLast))):=s4.put fw
   generalize upd H4 wp (.lst (((ws' ++ [e]).map nv).dropLast))=H5 at Ll h5 s5 ⊢
   unfold nv
   walk_at "gs"
   have e2:((e:Int) / 2)=((e / 2:Nat):Int):=by omega
   rw [e2]
   refine ⟨e / 2,rfl,?_⟩
   unfold nv
   have L8:=hM.same s5
   obtain ⟨r,hr1,hr2⟩:=L8.get (i:=e / 2) (by omega)
   have go:(∀ t,e=2 * t+1->aW ls t≠[])->∀ D:Ends,D.nx=(fun σ' H'=>∃ (fA:MZ.Cs) (iL:List Nat) (v4 v5 v7 v8 v9:Option V),aP H H'/\H' cp=some (.dK (fA.map enc))/\H' wp=some (.lst (iL.map nv))/\jZ ls gs as fA iL/\2 * (2 * ls.length - fA.length)+iL.length<=2 * (2 * ls.length - cs.length)+ws'.length/\σ'=[some (.ref mp),some (.ref gp),some (.ref ap),some (.ref cp),v4,v5,some (.ref wp),v7,v8,v9])->Kr K [.ref mp,.ref ap,.int (e:Nat)] H5 (fun x H6=>match x with | .ref p=>(∃ xs,bY K H6 p xs)/\pF (lD K p) (aE 9) (aO (Pb K)) D [some (.ref mp),some (.ref gp),some (.ref ap),some (.ref cp),v4,v5,some (.ref wp),some (.int (e:Nat)),some (.int ((e / 2:Nat):Int)),v9] H6 | _=>False) E0:=fun pR D hD=>by
    refine ⟨mp,ap,rs,ls,as,e,rfl,L8,s5 _ _ hA,by omega,hn,by have:=mz.len (e / 2);omega,fun l6 H6 md=>?_⟩
    obtain ⟨f6,h6,s6⟩:=md
    have Y3:l6≠wp:=(cq Ll f6).symm
    have U0:l6≠cp:=(cq h5 f6).symm
    refine ⟨⟨_,.of h6⟩,rD (xs:=(MZ.fY (aW ls) (MZ.aL as) e).map nv) (fun j σ H7=>∃ (fA:MZ.Cs) (iL:List Nat) (v9:Option V),aP H H7/\H7 l6=some (.lst ((MZ.fY (aW ls) (MZ.aL as) e).map nv))/\H7 cp=some (.dK (fA.map enc))/\H7 wp=some (.lst (iL.map nv))/\MZ.jR (aW ls) (mP gs) (MZ.aL as) fA/\(∀ x∈MZ.keys cs,x∈MZ.keys fA)/\(∀ x∈MZ.keys fA,x<2 * ls.length/\(x∈MZ.keys cs\/x∈iL))/\(∀ x∈iL,x∈MZ.keys fA)/\(∀ x∈ws',x∈iL)/\iL.Nodup/\cs.length<=fA.length/\(∀ x∈(MZ.fY (aW ls) (MZ.aL as) e).take j,x∈MZ.keys fA)/\iL.length+cs.length=ws'.length+fA.length/\σ=[some (.ref mp),some (.ref gp),some (.ref ap),some (.ref cp),v4,v5,some (.ref wp),some (.int (e:Nat)),some (.int ((e / 2:Nat):Int)),v9]) ⟨cs,ws',_,s5.trans s6,h6,s6 _ _ h5,s6 _ _ Ll,sk.oz,fun x hx=>hx,fun x hx=>⟨sk.bd x hx,.inl hx⟩,fun x hx=>sk.wait x (Zsp _ hx),fun x hx=>hx,R0.1,Zts _,fun x hx=>by simp at hx,rfl,rfl⟩ ?_ ?_ ?_⟩
    ·rintro j σ H7 _ ⟨_,_,_,_,h7,_⟩
     exact .of h7
    ·rintro j v σ H7 hv ⟨fA,iL,w9,s7,EE,h7,hw7,cm7,sub7,bd7,wt7,ws7,wn7,le7,nx7,ln7,rfl⟩
     obtain ⟨x,hx,rfl⟩:=xV hv
     have GV:=Zr5 hx
     have Su:=yx mz gX G4 GV
     have hcl':fA.length<=2 * ls.length:=by
      have:=qj cm7.nd fun y hy=>(bd7 y hy).1
      unfold MZ.keys at this
      rwa [ZrX] at this
     have hwl':iL.length<=2 * ls.length:=qj wn7 fun y hy=>(bd7 y (wt7 y hy)).1
     have g1:=g9.k (k:=.inl (x:Int)) h7
     rw [wU] at g1
     unfold nv
     walk_at "gs"
     refine ⟨cp,_,rfl,g1,?_⟩
     have SM:∀ y∈(MZ.fY (aW ls) (MZ.aL as) e).take (j+1),y∈(MZ.fY (aW ls) (MZ.aL as) e).take j\/y=x:=fun y hy=>by
      rw [Zsj,hx] at hy
      rcases Zr3.mp hy with z | z
      ·exact .inl z
      ·exact .inr (by simpa using z)
     cases hc:MZ.aL fA x with
     | some f =>
      have hin:=MZ.qP.mp (by rw [hc];simp)
      walk_at "go"
      refine ⟨fA,iL,_,s7,EE,h7,hw7,cm7,sub7,bd7,wt7,ws7,wn7,le7,fun y hy=>?_,ln7,rfl⟩
      rcases SM y hy with z | rfl
      ·exact nx7 y z
      ·exact hin
     | none =>
      have kG:=MZ.zB.mp hc
      walk_at "gs"
      refine ⟨cp,_,rfl,.k (k:=.inl (x:Int)) h7 (by rw [ZrX];omega),?_⟩
      have RI:upd H7 cp (.dK (gj (fA.map enc) (.inl (x:Int)) (.int (e:Nat)))) wp=some (.lst (iL.map nv)):=by rw [aQ Kx.symm];exact hw7
      walk_at "gs"
      refine ⟨.inl ⟨by trivial,_,.of RI⟩,wp,_,_,rfl,rfl,RI,by rw [ZrX];omega,?_⟩
      have Lj:gj (fA.map enc) (.inl (x:Int)) (.int (e:Nat))=(fA ++ [(x,some e)]).map enc:=by
       have:=Gs fA x (some e)
       unfold MZ.nH at this
       rw [if_neg (fun z=>kG ((MZ.BY fA x).mp z))] at this
       exact this
      have ek:MZ.keys (fA ++ [(x,some e)])=MZ.keys fA ++ [x]:=by unfold MZ.keys;rw [Zr4];rfl
      refine ⟨fA ++ [(x,some e)],iL ++ [x],_,(s7.put fc).put fw,?_,?_,?_,cm7.snoc (sub7 e Cf) kG GV pR,fun y hy=>?_,fun y hy=>?_,fun y hy=>?_,fun y hy=>Zsp _ (ws7 y hy),?_,by rw [Zr0];omega,fun y hy=>?_,by rw [Zr0,Zr0];simp only [Zsk];omega,rfl⟩
      ·rw [aQ Y3,aQ U0];exact EE
      ·rw [aQ Kx,cz,Lj]
      ·rw [cz,Zr4];rfl
      ·rw [ek];exact Zsp _ (sub7 y hy)
      ·rw [ek] at hy
       rcases Zr3.mp hy with z | z
       ·exact ⟨(bd7 y z).1,(bd7 y z).2.elim .inl fun w=>.inr (Zsp _ w)⟩
       ·rw [Zr2] at z
        subst z
        exact ⟨Su,.inr (by simp)⟩
      ·rw [ek]
       rcases Zr3.mp hy with z | z
       ·exact Zsp _ (wt7 y z)
       ·exact Zsm _ z
      ·rw [Zs5]
       refine ⟨wn7,by simp,fun y hy z hz w=>?_⟩
       rw [Zr2] at hz
       subst hz w
       exact kG (wt7 y hy)
      ·rw [ek]
       rcases SM y hy with z | rfl
       ·exact Zsp _ (nx7 y z)
       ·simp
    ·rintro σ H7 ⟨fA,iL,w9,s7,EE,h7,hw7,cm7,sub7,bd7,wt7,ws7,wn7,le7,nx7,ln7,rfl⟩
     rw [ZrX,Zsx] at nx7
     have hcl':fA.length<=2 * ls.length:=by
      have:=qj cm7.nd fun y hy=>(bd7 y hy).1
      unfold MZ.keys at this
      rwa [ZrX] at this
     rw [hD]
     refine ⟨fA,iL,_,_,_,_,_,s7,h7,hw7,⟨cm7,wt7,wn7,fun y hy=>(bd7 y hy).1,fun y hy=>?_⟩,by omega,rfl⟩
     ·rcases (bd7 y hy).2 with z | z
      ·rcases sk.done y z with w | ⟨w1,w2⟩
       ·rcases Zr3.mp w with u | u
        ·exact .inl (ws7 y u)
        ·rw [Zr2] at u
         subst u
         exact .inr ⟨pR,fun e' he'=>nx7 e' he'⟩
       ·exact .inr ⟨w1,fun e' he'=>sub7 e' (w2 e' he')⟩
      ·exact .inl z
   walk_at "gs"
   by_cases c:(e:Int)=((2 * (e / 2)+1:Nat):Int)
   ·rw [if_pos c]
    refine ⟨_,_,.inl (.of L8.lst),hr1,?_⟩
    refine .inl ⟨_,.inl (.of hr2),?_⟩
    rw [ZrX]
    by_cases c0:((aW ls (e / 2)).length:Int)=0
    ·rw [if_pos c0]
     refine ⟨by show 2<=sizeLine;decide,fun tp H6 n6=>?_⟩
     refine q1 (e / 2) cs tp cp H6 (s5.trans n6.same) fc n6.at_ (n6.same _ _ h5) sk.oz (Ztm.mp (by omega)) (by rw [show 2 * (e / 2)+1=e by omega];exact Cf) (by omega) sk.bd
    ·rw [if_neg c0]
     refine go (fun t ht z=>c0 (by rw [show e / 2=t by omega,z];rfl)) _ ?_
     rfl
   ·rw [if_neg c]
    refine go (fun t ht z=>c (by omega)) _ ?_
    rfl
theorem LX {as:MZ.Cs} (nd:(MZ.keys as).Nodup) {n:Nat} (h:∀ p∈MZ.keys as,p<n):as.length<=n:=by
 have:=qj nd h
 unfold MZ.keys at this
 rwa [ZrX] at this
noncomputable def Q2 (_:Zrk):Sp:=fun vs H Q _=>∃ (ap cp:Addr) (lo:Nat->List Nat) (goal:Nat->Prop) (as cs:MZ.Cs) (s n:Nat),vs=[.ref ap,.ref cp,.int s]/\H ap=some (.dK (as.map enc))/\H cp=some (.dK (cs.map enc))/\ap≠cp/\(MZ.keys as).Nodup/\(∀ p∈MZ.keys as,p<n)/\(∀ e∈MZ.keys cs,e<2 * n)/\n<=1200/\MZ.Flow lo goal (MZ.aL as)/\MZ.Path lo goal (MZ.aL as) (MZ.aL cs) (MZ.On (MZ.aL cs) (2 * s+1)) s /\
 ∀ js H',(∀ b o,b≠ap->H b=some o->H' b=some o)->H' ap=some (.dK (js.map enc))->(MZ.keys js).Nodup->(∀ p∈MZ.keys js,p<n)->MZ.aL js=MZ.lead (MZ.aL as) (MZ.aL cs) (MZ.On (MZ.aL cs) (2 * s+1))->Q .non H'
noncomputable abbrev Yc (K:Zrk):TS:=(cQ (bK (ag (gU K) (aa 5) (cP (sU K) [] E0 (ah (aa 4) aq)))) (fW (LB (aa 0) (aa 4))) (nK (aa 0) (aa 4) (ag (bU eA fun i j=>.int (i / j)) (aa 5) (tC (.int 2)))))
noncomputable abbrev Yv (K:Zrk):TS:=(me (cQ (bK (ag (gU K) (aa 3) (cP (DW K) [] E0 (ah (aa 4) aq)))) (cQ (bK (ag vd (aa 5) (tC .non))) (nK (aa 0) (aa 4) (tC .non)) (aO (Yc K))) dI)
  (bb (aa 5) (aE 3)))
noncomputable abbrev Uz (K:Zrk):TS:=(aD (bb (ag (bU eA fun i j=>.int (i / j)) (aa 3) (tC (.int 2))) (aE 4))
  (aD (bb (pE (aa 1) (aa 3)) (aE 5))
  (aO (Yv K))))
noncomputable def Lc (K:Zrk):TS:=(aD (bb (cP (sU K) [] E0 (ah (aa 2) aq)) (aE 3))
  (wO (bK (ag wJ (aa 3) (tC .non))) (aO (Uz K))))
theorem Zp6 (T:Txt K mg a):TM P w K mg base 1 "lead" DH Tv a.lE (Lc K) :=
 fun hr=>(aG (bI (i:=3) Fo.nd rfl (by walk_at "o") (dg T.eQ (wQ T) (hm hr) bZ (ai (cv 2) av)))
   (aI (Ma PassesOwn.never (cA B3 (cv 3) kg (cw _)) (aV (aG (bI (i:=4) Fo.nd rfl (by walk_at "o") (aB eE (cv 3) ax))
   (aG (bI (i:=5) Fo.nd rfl (by walk_at "o") (tj (gK hr) (cv 1) (cv 3) (fun _ _=>rfl)))
   (aV (qE (da (cA (iq (gr hr)) (cv 3) (dg T.iE (Hc T) (hm hr) bZ (ai (cv 4) av)) (cw _)) (aI (da (cA og (cv 5) kg (cw _)) (aI (pT (gK hr) (cv 0) (cv 4) kg rfl)) (aV (aI (da (cA (iq (gr hr)) (cv 5) (dg T.eQ (wQ T) (hm hr) bZ (ai (cv 4) av)) (cw _)) (aI (gB (V5 (cv 0) (cv 4) ⟨rfl,rfl,rfl,rfl⟩))) (aI (pT (gK hr) (cv 0) (cv 4) (aB eE (cv 5) ax) rfl))))))) d5)
   (aI (bI (i:=3) Fo.nd rfl (by walk_at "o") (cv 5)))))))))))
theorem U9 (T:Txt K mg a):aK P w K mg base dQ 2 a.lE a.oO ["above","came","spring"] (Q2 K):=by
 refine T.oa.n.fg Fo (Zp6 T) (fun vs H Q E h=>?_) (fun H vs Q E h=>?_)
 ·obtain ⟨ap,cp,lo,goal,as,cs,s,n,rfl,_⟩:=h;rfl
 ·obtain ⟨ap,cp,lo,goal,as,cs,s,n,rfl,hA,hC,J9,nda,ba,bc,hn,F,P,q⟩:=h
  show Lc K _ [some (.ref ap),some (.ref cp),some (.int s),none,none,none] H
  unfold Lc
  have big:(20000:Nat)<=sizeLine:=by decide
  obtain ⟨r,hr⟩:=P.rk
  have Ua:∀ {i e},MZ.it (MZ.aL cs) (2 * s+1) i=some e->MZ.On (MZ.aL cs) (2 * s+1) e:=fun {i}=>by
   induction i with
   | zero=>intro e he;cases he;exact .here
   | succ i ih =>
    intro e he
    have he:(MZ.it (MZ.aL cs) (2 * s+1) i).bind (fun e=>(MZ.aL cs e).join)=some e:=he
    cases hj:MZ.it (MZ.aL cs) (2 * s+1) i with
    | none=>rw [hj] at he;cases he
    | some b =>
     rw [hj] at he
     have he:(MZ.aL cs b).join=some e:=he
     refine (ih hj).up ?_
     cases hc:MZ.aL cs b with
     | none=>rw [hc] at he;cases he
     | some o=>rw [hc] at he;rw [show o=some e from he]
  walk_at "gs"
  refine ⟨s,rfl,?_⟩
  refine ⟨fun m σ H2=>∃ (i:Nat) (js:MZ.Cs) (v4 v5:Option V),(∀ b o,b≠ap->H b=some o->H2 b=some o)/\H2 ap=some (.dK (js.map enc))/\(MZ.keys js).Nodup/\(∀ p∈MZ.keys js,p<n)/\MZ.aL js=MZ.lead (MZ.aL as) (MZ.aL cs) (MZ.nG (MZ.aL cs) (2 * s+1) i)/\m=(match MZ.it (MZ.aL cs) (2 * s+1) i with | some e=>r e+1 | none=>0)/\σ=[some (.ref ap),some (.ref cp),some (.int s),some (ov (MZ.it (MZ.aL cs) (2 * s+1) i)),v4,v5],⟨_,0,as,_,_,fun _ _ _ e=>e,hA,nda,ba,MZ.Yo.symm,rfl,rfl⟩,?_⟩
  rintro m σ H2 ⟨i,js,v4,v5,s2,h2,nd2,ba2,cm2,rfl,rfl⟩
  cases hi:MZ.it (MZ.aL cs) (2 * s+1) i with
  | none =>
   show _
   walk_at "gs"
   refine q js H2 s2 h2 nd2 ba2 (cm2.trans (MZ.Zmk fun e=>MZ.Zp5 hi))
  | some e =>
   have NO:=Ua hi
   have Pu:=LX nd2 ba2
   show _
   walk_at "gs"
   obtain ⟨f,hf⟩:∃ f,MZ.aL cs e=some f:=by
    rcases P.pred e NO with z | ⟨u,_,z⟩
    ·exact ⟨_,z⟩
    ·exact ⟨_,z⟩
   have Cf:e∈MZ.keys cs:=MZ.qP.mp (by rw [hf];simp)
   have G4:=bc e Cf
   have e2:((e:Int) / 2)=((e / 2:Nat):Int):=by omega
   have G3:MZ.it (MZ.aL cs) (2 * s+1) (i+1)=f:=by
    show (MZ.it (MZ.aL cs) (2 * s+1) i).bind (fun e=>(MZ.aL cs e).join)=f
    rw [hi]
    show (MZ.aL cs e).join=f
    rw [hf]
    rfl
   have hC2:H2 cp=some (.dK (cs.map enc)):=s2 _ _ J9.symm hC
   have g1:=g9.k (k:=.inl (e:Int)) hC2
   rw [wU,hf] at g1
   have oN:¬ MZ.nG (MZ.aL cs) (2 * s+1) i e:=fun ⟨j,hj,hj2⟩=>by
    have:=MZ.Iz hr hj hj2 hi
    omega
   refine ⟨fun σ' H'=>∃ (jY:MZ.Cs) (v4 v5:Option V),(∀ b o,b≠ap->H b=some o->H' b=some o)/\H' ap=some (.dK (jY.map enc))/\(MZ.keys jY).Nodup/\(∀ p∈MZ.keys jY,p<n)/\MZ.aL jY=MZ.lead (MZ.aL as) (MZ.aL cs) (MZ.nG (MZ.aL cs) (2 * s+1) (i+1))/\σ'=[some (.ref ap),some (.ref cp),some (.int s),some (ov f),v4,v5],?_,?_⟩
   ·rintro σ' H' ⟨jY,w4,w5,z1,z2,z3,z4,z5,rfl⟩
    refine ⟨_,?_,i+1,jY,w4,w5,z1,z2,z3,z4,z5,rfl,by rw [G3]⟩
    rw [G3]
    cases f with
    | none=>exact Nat.succ_pos _
    | some u=>have:=hr e u hf;show r u+1<r e+1;omega
   rw [show ov (some e)=V.int (e:Nat) from rfl]
   walk_at "gs"
   rw [e2]
   refine ⟨cp,_,rfl,g1,?_⟩
   walk_at "go"
   refine mid (fun σ' H'=>∃ jY:MZ.Cs,(∀ b o,b≠ap->H b=some o->H' b=some o)/\H' ap=some (.dK (jY.map enc))/\(MZ.keys jY).Nodup/\(∀ p∈MZ.keys jY,p<n)/\MZ.aL jY=MZ.lead (MZ.aL as) (MZ.aL cs) (MZ.nG (MZ.aL cs) (2 * s+1) (i+1))/\σ'=[some (.ref ap),some (.ref cp),some (.int s),some (.int (e:Nat)),some (.int ((e / 2:Nat):Int)),some (ov f)]) ?_ ?_
   ·intro N hN
    walk_at "gs"
    refine ⟨e / 2,rfl,?_⟩
    unfold nv
    walk_at "gs"
    by_cases c:(e:Int)=((2 * (e / 2):Nat):Int)
    ·rw [if_pos c]
     have ee:2 * (e / 2)=e:=by omega
     have key:∀ jY:MZ.Cs,(MZ.keys jY).Nodup->(∀ p,MZ.aL jY p=if p=e / 2 then MZ.lead (MZ.aL as) (MZ.aL cs) (MZ.nG (MZ.aL cs) (2 * s+1) (i+1)) (e / 2) else MZ.aL js p)->∀ H',(∀ b o,b≠ap->H b=some o->H' b=some o)->H' ap=some (.dK (jY.map enc))->N [some (.ref ap),some (.ref cp),some (.int s),some (.int (e:Nat)),some (.int ((e / 2:Nat):Int)),some (ov f)] H':=fun jY nd3 hcm H' s3 h3=>by
      refine hN _ _ ⟨jY,s3,h3,nd3,fun p hp=>?_,funext fun p=>?_,rfl⟩
      ·by_cases z:p=e / 2
       ·omega
       ·have:=MZ.qP.mpr hp
        rw [hcm,if_neg z] at this
        exact ba2 p (MZ.qP.mp this)
      ·rw [hcm]
       by_cases z:p=e / 2
       ·rw [if_pos z,z]
       ·rw [if_neg z,cm2,MZ.Q0 hi (by omega)]
     have self:=MZ.Ui hi
     cases f with
     | none =>
      walk_at "gs"
      refine ⟨ap,_,rfl,.k (k:=.inl ((e / 2:Nat):Int)) h2 (by rw [ZrX];omega),?_⟩
      refine key (MZ.nH js (e / 2) none) (MZ.Bq nd2 _ _) (fun p=>?_) _ (fun b o nb z=>by rw [aQ nb];exact s2 b o nb z) ?_
      ·rw [MZ.HV nd2]
       by_cases z:p=e / 2
       ·rw [if_pos z,if_pos z,MZ.tE (by rw [ee];exact self) (by rw [ee];exact hf)]
       ·rw [if_neg z,if_neg z]
      ·rw [cz]
       exact congrArg (fun z=>some (HO.dK z)) (Gs js (e / 2) none)
     | some u =>
      rw [show ov (some u)=V.int (u:Nat) from rfl] at key ⊢
      walk_at "gs"
      refine ⟨e / 2,rfl,?_⟩
      unfold nv
      walk_at "gs"
      by_cases cu:(u:Int)=((2 * (e / 2)+1:Nat):Int)
      ·rw [if_pos cu]
       have eu:u=2 * (e / 2)+1:=by omega
       walk_at "gs"
       have jf:MZ.aL js (e / 2)≠none:=by
        rw [cm2,MZ.pC (by rw [ee];exact oN)]
        have YB:MZ.On (MZ.aL cs) (2 * s+1) (2 * (e / 2)+1):=eu ▸ NO.up hf
        rcases MZ.Hj P YB with ⟨_,z2,_⟩ | ⟨p',_,_,z⟩
        ·exact (MZ.OO P (p:=e / 2) (by rw [ee,hf,show u=e+1 by omega]) z2).elim
        ·exact (F.up _ _ z).2
       obtain ⟨o,ho⟩:=Option.ne_none_iff_exists'.mp jf
       refine ⟨ap,rfl,.inl ⟨_,.inl h2⟩,?_⟩
       refine ⟨_,.inl ((e / 2:Nat):Int),ov o,h2,rfl,by rw [wU,ho];rfl,?_⟩
       refine key (MZ.zt js (e / 2)) (MZ.NN nd2 _) (fun p=>?_) _ (fun b o nb z=>by rw [aQ nb];exact s2 b o nb z) ?_
       ·rw [MZ.VH nd2]
        by_cases z:p=e / 2
        ·rw [if_pos z,if_pos z,MZ.CU (by rw [ee];exact self) (by rw [ee,hf,show u=e+1 by omega])]
        ·rw [if_neg z,if_neg z]
       ·rw [cz,Zpo]
      ·rw [if_neg cu]
       have Vy:((u:Int) / 2)=((u / 2:Nat):Int):=by omega
       walk_at "gs"
       rw [Vy]
       refine ⟨ap,_,rfl,.k (k:=.inl ((e / 2:Nat):Int)) h2 (by rw [ZrX];omega),?_⟩
       refine key (MZ.nH js (e / 2) (some (u / 2))) (MZ.Bq nd2 _ _) (fun p=>?_) _ (fun b o nb z=>by rw [aQ nb];exact s2 b o nb z) ?_
       ·rw [MZ.HV nd2]
        by_cases z:p=e / 2
        ·rw [if_pos z,if_pos z,MZ.qH (u:=u) (by rw [ee];exact self) (by rw [ee];exact hf) (by omega)]
        ·rw [if_neg z,if_neg z]
       ·rw [cz]
        exact congrArg (fun z=>some (HO.dK z)) (Gs js (e / 2) (some (u / 2)))
    ·rw [if_neg c]
     refine hN _ _ ⟨js,s2,h2,nd2,ba2,?_,rfl⟩
     rw [cm2]
     funext p
     exact (MZ.Q0 hi (by omega)).symm
   ·rintro σ' H' ⟨jY,z1,z2,z3,z4,z5,rfl⟩
    walk_at "gs"
    exact ⟨jY,_,_,z1,z2,z3,z4,z5,rfl⟩
structure iU (ab:MZ.Ab) (s:Nat) (w:List Nat):Prop where
 hd:∃ r,w=s :: r
 st:∀ (i a b:Nat),w[i]? = some a->w[i+1]? = some b->ab a=some (some b)
 tp:∃ v x,w=v ++ [x]/\ab x=some none
theorem GX {v:List Nat}{x:Nat}:fJ ((v ++ [x]).map nv) (-1)=some (nv x):=by
 rw [Zr4]
 unfold fJ pH
 simp
 rw [if_pos (by omega),show (-1+((v.length:Int)+1)).toNat=v.length by omega]
 simp
noncomputable def OW (_:Zrk):Sp:=fun vs H Q _=>∃ (ap:Addr) (lo:Nat->List Nat) (goal:Nat->Prop) (as:MZ.Cs) (s n:Nat),vs=[.ref ap,.int s]/\H ap=some (.dK (as.map enc))/\(∀ p∈MZ.keys as,p<n)/\n<=1200/\MZ.Flow lo goal (MZ.aL as)/\(∀ p l,l∈lo p->l<p)/\MZ.aL as s≠none /\
 ∀ l w H',qq H l (.lst (w.map nv)) H'->iU (MZ.aL as) s w->Q (.ref l) H'
noncomputable abbrev UG (K:Zrk):TS:=(aD (wO (bK (ag wJ (pE (aa 0) (ag (bJ K) (aa 2) (tu rS (tC (.int 1))))) (tC .non))) (fW (j8 K "list" kQ (aa 2) (ah (pE (aa 0) (ag (bJ K) (aa 2) (tu rS (tC (.int 1))))) aq))))
  (cn (aa 2)))
noncomputable def M3 (K:Zrk):TS:=(aD (bb (ik (ah (aa 1) aq)) (aE 2))
  (aO (UG K)))
theorem Xr (T:Txt K mg a):TM P w K mg base 0 "way_from" EA OA a.fI (M3 K) :=
 fun hr=>(aG (bI (i:=2) Oi.nd rfl (by walk_at "o") (jo (ai (cv 1) av)))
   (aV (aG (Ma PassesOwn.never (cA B3 (tj (gK hr) (cv 0) (bP bQ (cv 2) (zO Ae ax) (fun _ _=>rfl)) (fun _ _=>rfl)) kg (cw _)) (aI (gB (kK ZrP ZrQ ZrR (kR kS) (cv 2) (ai (tj (gK hr) (cv 0) (bP bQ (cv 2) (zO Ae ax) (fun _ _=>rfl)) (fun _ _=>rfl)) av)))))
   (aI (cG (cv 2))))))
theorem ZkH (T:Txt K mg a):aK P w K mg base dQ 1 a.fI a.i5 ["above","spring"] (OW K):=by
 refine T.i8.n.fg Oi (Xr T) (fun vs H Q E h=>?_) (fun H vs Q E h=>?_)
 ·obtain ⟨ap,lo,goal,as,s,n,rfl,_⟩:=h;rfl
 ·obtain ⟨ap,lo,goal,as,s,n,rfl,hA,ba,hn,F,aX,hs,q⟩:=h
  show M3 K _ [some (.ref ap),some (.int s),none] H
  unfold M3
  have big:(20000:Nat)<=sizeLine:=by decide
  walk_at "gs"
  refine ⟨by show 1<=sizeLine;decide,fun l H1 n1=>?_⟩
  walk_at "gs"
  refine ⟨fun m σ H2=>∃ (v:List Nat) (x:Nat),aP H H2/\H2 l=some (.lst ((v ++ [x]).map nv))/\(∃ r,v ++ [x]=s :: r)/\(∀ (i a b:Nat),(v ++ [x])[i]? = some a->(v ++ [x])[i+1]? = some b->MZ.aL as a=some (some b))/\MZ.aL as x≠none/\v.length<=x/\m=n - x/\σ=[some (.ref ap),some (.int s),some (.ref l)],⟨_,[],s,n1.same,n1.at_,⟨[],rfl⟩,fun i a b h1 h2=>by simp at h2,hs,Ztx _,rfl,rfl⟩,?_⟩
  rintro m σ H2 ⟨v,x,s2,h2,hd2,st2,uF,oj,rfl,rfl⟩
  have Su:=ba x (MZ.qP.mp uF)
  obtain ⟨o,ho⟩:=Option.ne_none_iff_exists'.mp uF
  have g1:=g9.k (k:=.inl (x:Int)) (s2 _ _ hA)
  rw [wU,ho] at g1
  walk_at "gs"
  refine ⟨_,_,.inl (.of h2),GX,?_⟩
  refine ⟨ap,_,rfl,g1,?_⟩
  cases o with
  | none =>
   show _
   walk_at "gs"
   exact q l (v ++ [x]) H2 ⟨n1.aH,h2,s2⟩ ⟨hd2,st2,v,x,rfl,ho⟩
  | some y =>
   have hxy:=aX _ _ (F.up _ _ ho).1
   have g1:g9 H2 ap (kV (.inl (x:Int))) (some (V.int (y:Nat))):=g1
   rw [if_pos (fun z=>nomatch z)]
   refine ⟨fun σ' H'=>∃ H3,H3=upd H2 l (.lst ((v ++ [x]).map nv ++ [nv y]))/\H'=H3/\σ'=[some (.ref ap),some (.int s),some (.ref l)],?_,?_⟩
   ·rintro σ' H' ⟨H3,rfl,rfl,rfl⟩
    refine ⟨n - y,by omega,v ++ [x],y,s2.put n1.aH,by rw [cz,Zr4 (l₁:=v ++ [x])];rfl,?_,fun i a b h1 h2=>?_,(F.up _ _ ho).2,by rw [Zr0];simp;omega,rfl,rfl⟩
    ·obtain ⟨r,hr⟩:=hd2
     exact ⟨r ++ [y],by rw [hr];rfl⟩
    ·rcases Ztt (i+1) (v ++ [x]).length with g | g
     ·rw [Zse (by omega)] at h1
      rw [Zse g] at h2
      exact st2 i a b h1 h2
     ·have Pt:i+1<(v ++ [x] ++ [y]).length:=(Zr1.mp h2).1
      rw [Zr0] at Pt
      simp only [Zsk] at Pt
      have hi:i+1=(v ++ [x]).length:=by omega
      rw [hi,Zsi (Zts _),Zty] at h2
      rw [Zse (by omega),show i=v.length by rw [Zr0] at hi;simp at hi;omega,Zsi (Zts _),Zty] at h1
      cases h1
      cases h2
      exact ho
   ·refine ⟨.inl ⟨by trivial,_,.of h2⟩,?_⟩
    refine ⟨_,_,.inl (.of h2),GX,?_⟩
    refine ⟨ap,_,rfl,g1,?_⟩
    refine ⟨l,_,_,rfl,rfl,h2,by rw [ZrX,Zr0];simp;omega,?_⟩
    exact ⟨_,rfl,rfl,rfl⟩
noncomputable def jc (xs:List Nat):List Int:=xs.map fun x:Nat=>(x:Int)
theorem GA (xs:List Nat):(jc xs).map V.int=xs.map nv:=by unfold jc;rw [Zsd];rfl
theorem Ro (cs:MZ.Cs):(cs.map enc).map (·.1)=(jc (MZ.keys cs)).map Sum.inl:=by unfold jc MZ.keys;rw [Zsd,Zsd,Zsd];rfl
theorem PF {fP:List Int}{ks:List Nat} (hp:fP.Perm (jc ks)) (hs:fP.Pairwise (· <= ·)) (nd:ks.Nodup):∃ xs:List Nat,fP=jc xs/\xs.Perm ks/\xs.Pairwise (· < ·):=by
 have h1:fP=jc (fP.map ZtQ):=by
  unfold jc
  rw [Zsd]
  refine (ZsX _).symm.trans (ZsL fun x hx=>?_)
  obtain ⟨k,_,rfl⟩:=Zr8.mp (hp.mem_iff.mp hx)
  rfl
 have h2:(fP.map ZtQ).Perm ks:=by
  have:=hp.map ZtQ
  unfold jc at this
  rw [Zsd] at this
  have e:ks.map (ZtQ ∘ fun x:Nat=>(x:Int))=ks:=by
   refine (ZsL fun x _=>?_).trans (ZsX _)
   rfl
  rwa [e] at this
 refine ⟨_,h1,h2,?_⟩
 have hle:(fP.map ZtQ).Pairwise (· <= ·):=by
  rw [List.pairwise_map]
  exact hs.imp fun h=>by omega
 exact Zte.imp₂ (fun a b g1 g2=>by omega) hle (h2.nodup_iff.mpr nd)
noncomputable def RX (_:Zrk):Sp:=fun vs H Q _=>∃ (cp:Addr) (cs:MZ.Cs),vs=[.ref cp]/\H cp=some (.dK (cs.map enc))/\(MZ.keys cs).Nodup/\cs.length<=3000 /\
 ∀ l (es:List Nat) H',qq H l (.lst ((es.map fun e:Nat=>e / 2).map nv)) H'->es.Pairwise (· < ·)->(∀ e,e∈es ↔ e∈MZ.keys cs/\2 * (e / 2)+1 ∉ MZ.keys cs)->Q (.ref l) H'
noncomputable def K7 (K:Zrk):TS:=(cn (jn (jt K (dk (Gw K) (ah (aa 0) aq))) 1 [0] (aE 0) (bK (rC (cP (sU K) [] E0 (ah (ag (bU eA fun i j=>.int (i / j)) (aa 0) (tC (.int 2))) aq)) (aa 1))) (ag (bU eA fun i j=>.int (i / j)) (aa 0) (tC (.int 2)))))
theorem Ue (T:Txt K mg a):TM P w K mg base 1 "stops_of" zN Kp a.fO (K7 K) :=
 fun hr=>(aI (cG (ze (N:=["end","came"]) (k:=1) (sel:=[0]) (aT.of (bx zN).names (by decide +kernel)) (bA.of Kp (by decide +kernel)) rfl (kM (dU (PH rfl) (by rfl) T.jC PyProof.Rows.boot_sorted (ai (cv 0) av))) (fun _ _ _ _=>(dP (i:=0) (show Zss (["end","came"]:List Str) by decide +kernel) rfl (by walk_at "o"))) (fun _ _ _ _=>(AH (rn (zh (gK hr) (dg T.eQ (wQ T) (hm hr) bZ (ai (aB eE (cv 0) ax) av)) (cv 1))))) (fun _ _ _ _=>(aB eE (cv 0) ax)))))
theorem VZ (T:Txt K mg a):aK P w K mg base dQ 2 a.fO a.iT ["came"] (RX K):=by
 refine T.iV.n.fg T9 (Ue T) (fun vs H Q E h=>?_) (fun H vs Q E h=>?_)
 ·obtain ⟨cp,cs,rfl,_⟩:=h;rfl
 ·obtain ⟨cp,cs,rfl,hC,nd,p9,q⟩:=h
  show K7 K _ [some (.ref cp)] H
  unfold K7
  have big:(20000:Nat)<=sizeLine:=by decide
  have qz:(MZ.keys cs).length=cs.length:=by unfold MZ.keys;rw [ZrX]
  walk_at "gs"
  refine ⟨_,jc (MZ.keys cs),.inl hC,Ro cs,by unfold jc;rw [ZrX];omega,fun fP l H1 hp hs n1=>?_⟩
  obtain ⟨xs,rfl,hxp,qK⟩:=PF hp hs nd
  rw [GA] at n1
  have QP:xs.length<=3000:=by rw [hxp.length_eq];omega
  refine ⟨⟨_,n1.sq⟩,GF (fun v=>match v with | .int e=>decide (2 * (e.toNat / 2)+1 ∉ MZ.keys cs) | _=>false) (fun v=>match v with | .int e=>nv (e.toNat / 2) | _=>.non) n1.sq rfl (by rw [ZrX];omega) ?_ ?_ ?_⟩
  ·intro v H' Q' hv s' q'
   obtain ⟨e,he,rfl⟩:=Zr8.mp hv
   have e2:((e:Int) / 2)=((e / 2:Nat):Int):=by omega
   have g1:=g9.k (k:=.inl ((2 * (e / 2)+1:Nat):Int)) (s' _ _ (n1.same _ _ hC))
   rw [wU] at g1
   unfold nv
   walk_at "gs"
   rw [e2]
   refine ⟨e / 2,rfl,?_⟩
   refine ⟨cp,_,rfl,g1,?_⟩
   have q':Q' (decide (2 * (e / 2)+1 ∉ MZ.keys cs)) H':=q'
   have:(!((MZ.aL cs (2 * (e / 2)+1)).map ov).isSome)=decide (2 * (e / 2)+1 ∉ MZ.keys cs):=by
    cases hc:MZ.aL cs (2 * (e / 2)+1) with
    | none=>rw [decide_eq_true (MZ.zB.mp hc)];rfl
    | some f=>rw [decide_eq_false (fun z=>z (MZ.qP.mp (by rw [hc];simp)))];rfl
   rw [this]
   exact q'
  ·intro v H' Q' hv _ s' q'
   obtain ⟨e,he,rfl⟩:=Zr8.mp hv
   have e2:((e:Int) / 2)=((e / 2:Nat):Int):=by omega
   unfold nv
   walk_at "gs"
   rw [e2]
   exact q'
  intro l2 H2 n2
  have e3:(((xs.map nv).filter fun v=>match v with | .int e=>decide (2 * (e.toNat / 2)+1 ∉ MZ.keys cs) | _=>false).map fun v=>match v with | .int e=>nv (e.toNat / 2) | _=>.non)=((xs.filter fun e=>decide (2 * (e / 2)+1 ∉ MZ.keys cs)).map fun e:Nat=>e / 2).map nv:=by
   rw [Zs8,Zsd,Zsd]
   rfl
  rw [e3] at n2
  refine q l2 _ H2 ⟨n1.same.nil n2.aH,n2.at_,n1.same.trans n2.same⟩ (qK.filter _) fun e=>?_
  rw [Zsy,hxp.mem_iff,decide_eq_true_iff]
structure bX (H:Hp) (l:Addr) (rs:List Addr) (ws:List (List Nat)):Prop where
 lst:H l=some (.lst (rs.map V.ref))
 len:rs.length=ws.length
 at_:∀ (i:Nat) r w,rs[i]? = some r->ws[i]? = some w->H r=some (.lst (w.map nv))
noncomputable def Im (_:Zrk):Sp:=fun vs H Q _=>∃ (mp ap:Addr) (rs:List Addr) (ls:List (List Nat)) (goal:Nat->Prop) (as:MZ.Cs),vs=[.ref mp,.ref ap]/\bC H mp rs ls/\H ap=some (.dK (as.map enc))/\(MZ.keys as).Nodup/\as.length<=3000/\(∀ p∈MZ.keys as,p<ls.length)/\ls.length<=1200/\MZ.Flow (aW ls) goal (MZ.aL as)/\Mz ls /\
 ∀ l us (ss:List Nat) ws H',aP H H'->H l=none->bX H' l us ws->(∀ u∈us,H u=none/\u≠l)->ss.Pairwise (· < ·)->(∀ t,t∈ss ↔ aW ls t=[]/\MZ.aL as t≠none)->ws.length=ss.length->(∀ (i:Nat) t w,ss[i]? = some t->ws[i]? = some w->iU (MZ.aL as) t w)->Q (.ref l) H'
noncomputable def IL (K:Zrk):TS:=(aD (bb (jn (jt K (dk (Gw K) (ah (aa 1) aq))) 1 [0] (aE 0) (bK (ag (gU K) (dk (iB K) (ah (ag (bJ K) (aa 1) (aa 0)) aq)) (tC (.int 0)))) (aa 0)) (aE 2))
  (cn (jn (jt K (aa 2)) 1 [1] (aE 0) lx (cP (OW K) [] E0 (ah (aa 1) (ah (aa 0) aq))))))
theorem VR (T:Txt K mg a):TM P w K mg base 1 "ways_of" tH G7 a.gv (IL K) :=
 fun hr=>(aG (xE (i:=2) (N:=["place","maze"]) (k:=1) (sel:=[0]) (aT.of (bx tH).names (by decide +kernel)) (bA.of G7 (by decide +kernel)) rfl (kM (dU (PH rfl) (by rfl) T.jC PyProof.Rows.boot_sorted (ai (cv 1) av))) (fun _ _ _ _=>(dP (i:=0) (show Zss (["place","maze"]:List Str) by decide +kernel) rfl (by walk_at "o"))) (fun _ _ _ _=>(AH (cA (iq (gr hr)) (dU jw (by rfl) T.bj PySem.boot_len (ai (bP bQ (cv 1) (cv 0) (fun _ _=>rfl)) av)) ax (cw _)))) (fun _ _ _ _=>(cv 0)) Pe.nd rfl (by walk_at "o") rfl)
   (aI (cG (ze (N:=["spring","above"]) (k:=1) (sel:=[1]) (aT.of (bx tH).names (by decide +kernel)) (bA.of G7 (by decide +kernel)) rfl (kM (cv 2)) (fun _ _ _ _=>(dP (i:=0) (show Zss (["spring","above"]:List Str) by decide +kernel) rfl (by walk_at "o"))) (fun _ _ _ _=>sR) (fun _ _ _ _=>(dg T.i8 (ZkH T) (hm hr) bZ (ai (cv 1) (ai (cv 0) av))))))))
theorem Om (T:Txt K mg a):aK P w K mg base dQ 2 a.gv a.jG ["maze","above"] (Im K):=by
 refine T.gA.n.fg Pe (VR T) (fun vs H Q E h=>?_) (fun H vs Q E h=>?_)
 ·obtain ⟨mp,ap,rs,ls,goal,as,rfl,_⟩:=h;rfl
 ·obtain ⟨mp,ap,rs,ls,goal,as,rfl,hM,hA,nd,p9,ba,hn,F,mz,q⟩:=h
  show IL K _ [some (.ref mp),some (.ref ap),none] H
  unfold IL
  have big:(20000:Nat)<=sizeLine:=by decide
  have qz:(MZ.keys as).length=as.length:=by unfold MZ.keys;rw [ZrX]
  walk_at "gs"
  refine ⟨_,jc (MZ.keys as),.inl hA,Ro as,by unfold jc;rw [ZrX];omega,fun fP l1 H1 hp hs n1=>?_⟩
  obtain ⟨xs,rfl,hxp,qK⟩:=PF hp hs nd
  rw [GA] at n1
  have QP:xs.length<=3000:=by rw [hxp.length_eq];omega
  refine ⟨⟨_,n1.sq⟩,GF (fun v=>match v with | .int e=>decide ((aW ls e.toNat).length=0) | _=>false) id n1.sq rfl (by rw [ZrX];omega) ?_ ?_ ?_⟩
  ·intro v H' Q' hv s' q'
   obtain ⟨e,he,rfl⟩:=Zr8.mp hv
   have G4:=ba e (hxp.mem_iff.mp he)
   obtain ⟨r,h1,h2⟩:=(hM.same (n1.same.trans s')).get G4
   unfold nv
   walk_at "gs"
   refine ⟨_,_,.inl (.of (s' _ _ (n1.same _ _ hM.lst))),h1,?_⟩
   refine .inl ⟨_,.inl (.of h2),?_⟩
   rw [ZrX]
   walk_at "gs"
   have q':Q' (decide ((aW ls e).length=0)) H':=q'
   rw [show decide (((aW ls e).length:Int)=0)=decide ((aW ls e).length=0) by rw [decide_eq_decide];omega]
   exact q'
  ·intro v H' Q' hv _ s' q'
   walk_at "gs"
   exact q'
  intro l2 H2 n2
  have e3:(((xs.map nv).filter fun v=>match v with | .int e=>decide ((aW ls e.toNat).length=0) | _=>false).map id)=(xs.filter fun e=>decide ((aW ls e).length=0)).map nv:=by
   rw [ZsX,Zs8]
   rfl
  rw [e3] at n2
  have kO:=n1.same.trans n2.same
  obtain ⟨ss,hss⟩:∃ ss,ss=xs.filter fun e=>decide ((aW ls e).length=0):=⟨_,rfl⟩
  rw [<- hss] at n2
  have Hy:∀ t,t∈ss ↔ aW ls t=[]/\MZ.aL as t≠none:=fun t=>by
   rw [hss,Zsy,hxp.mem_iff,<- MZ.qP,decide_eq_true_iff,Ztm,and_comm]
  have xF:ss.length<=3000:=by rw [hss];exact Ztv (Zs1 ..) QP
  walk_at "gs"
  refine ⟨⟨_,n2.sq⟩,fun cp hcp=>OH (n:=(ss.map nv).length) (item:=fun i=>(ss.map nv).getD i .non) (fun σ=>∃ v0,σ=[v0,some (.ref ap)]) (fun i H3=>aP H2 H3/\∃ (us:List Addr) (ws:List (List Nat)),H3 cp=some (.lst (us.map V.ref))/\us.length=i/\ws.length=i/\(∀ u∈us,H2 u=none/\u≠cp)/\(∀ (j:Nat) u w,us[j]? = some u->ws[j]? = some w->H3 u=some (.lst (w.map nv)))/\∀ (j:Nat) t w,ss[j]? = some t->ws[j]? = some w->iU (MZ.aL as) t w) ⟨_,rfl⟩ ⟨kz hcp,[],[],cz,rfl,rfl,fun u hu=>by simp at hu,fun j u w hu=>by simp at hu,fun j t w _ hw=>by simp at hw⟩ (HA (xs:=ss.map nv) ?_) ?_ ?_ ?_⟩
  ·rintro i H3 _ ⟨s3,_⟩
   exact .of (s3 _ _ n2.at_)
  ·rintro H3 ⟨s3,_⟩
   exact ⟨_,.of (s3 _ _ n2.at_),Zts _⟩
  ·rintro i σ3 H3 R hi ⟨v0,rfl⟩ ⟨s3,us,ws,h3,nR,kW,hun,jV,hway⟩ hR
   rw [ZrX] at hi
   have PY:ss[i]? = some ss[i]:=ZrY hi
   have rp:=(Hy _).mp (ZsD hi)
   rw [show (ss.map nv).getD i .non=nv ss[i] by rw [Zsc,Zsa,PY];rfl]
   generalize ss[i]=t at *
   unfold nv
   walk_at "gs"
   refine ⟨ap,aW ls,goal,as,t,ls.length,rfl,s3 _ _ (kO _ _ hA),ba,hn,F,mz.lt,rp.2,fun l4 w H4 md hw=>?_⟩
   obtain ⟨f4,h4,s4⟩:=md
   have Fi:l4≠cp:=(cq h3 f4).symm
   refine ⟨_,s4 _ _ h3,by rw [ZrX];omega,hR _ _ ⟨_,rfl⟩ ⟨(s3.trans s4).put hcp,us ++ [l4],ws ++ [w],by rw [cz,Zr4];rfl,by rw [Zr0,nR];rfl,by rw [Zr0,kW];rfl,fun u hu=>?_,fun j u w' hu hw'=>?_,fun j t' w' nO hw'=>?_⟩⟩
   ·rcases Zr3.mp hu with z | z
    ·exact hun u z
    ·rw [Zr2] at z
     subst z
     exact ⟨s3.nil f4,Fi⟩
   ·by_cases hji:j<i
    ·rw [Zse (by omega)] at hu hw'
     rw [aQ (hun u (Zr5 hu)).2]
     exact s4 _ _ (jV j u w' hu hw')
    ·have zU:j<us.length+1:=by have:=(Zr1.mp hu).1;rwa [Zr0] at this
     have hj:j=us.length:=by omega
     subst hj
     rw [Zsi (Zts _),Zty] at hu
     rw [show us.length=ws.length by omega,Zsi (Zts _),Zty] at hw'
     cases hu
     cases hw'
     rw [aQ Fi]
     exact h4
   ·by_cases hji:j<i
    ·rw [Zse (by omega)] at hw'
     exact hway j t' w' nO hw'
    ·have zU:j<ws.length+1:=by have:=(Zr1.mp hw').1;rwa [Zr0] at this
     have hj:j=i:=by omega
     subst hj
     rw [PY] at nO
     rw [<- kW,Zsi (Zts _),Zty] at hw'
     cases nO
     cases hw'
     exact hw
  rintro H3 ⟨s3,us,ws,h3,nR,kW,hun,jV,hway⟩
  rw [ZrX] at nR kW
  exact q cp us ss ws H3 (kO.trans s3) (kO.nil hcp) ⟨h3,by omega,jV⟩ (fun u hu=>⟨kO.nil (hun u hu).1,(hun u hu).2⟩) (by rw [hss];exact qK.filter _) Hy kW hway
noncomputable def Ig (ls:List (List Nat)) (as:MZ.Cs) (i:Nat):Prop:=∃ A:List Nat,A.Nodup/\(∀ t,t∈A ↔ aW ls t=[]/\MZ.aL as t≠none)/\A.length=i
theorem Ig.eq {ls:List (List Nat)}{as:MZ.Cs}{i:Nat} (h:Ig ls as i) {B:List Nat} (nB:B.Nodup) (hB:∀ t,t∈B ↔ aW ls t=[]/\MZ.aL as t≠none):B.length=i:=by
 obtain ⟨A,nA,hA,rfl⟩:=h
 exact Nat.le_antisymm (MZ.wy (R:=fun a b:Nat=>a=b) (fun a a' b h h'=>h.trans h'.symm) nB fun b hb=>⟨b,(hA b).mpr ((hB b).mp hb),rfl⟩) (MZ.wy (R:=fun a b:Nat=>a=b) (fun a a' b h h'=>h.trans h'.symm) nA fun b hb=>⟨b,(hB b).mpr ((hA b).mp hb),rfl⟩)
theorem GZ {xs:List Nat} (h:xs.Pairwise (· < ·)):xs.Nodup:=h.imp fun h=>Ztu h
theorem Zm1 {ls:List (List Nat)}{gs:List Nat}{as cs:MZ.Cs} (h:jZ ls gs as cs []):MZ.j7 (aW ls) (mP gs) (MZ.aL as) (fun e=>e∈MZ.keys cs):=by
 refine ⟨fun g l hg hl=>Zr8.mpr ⟨_,h.oz.all g l hg hl,rfl⟩,fun e e' he hn=>?_,fun t ht=>?_⟩
 ·rcases h.done e he with z | z
  ·simp at z
  ·exact z.2 e' hn
 ·rcases h.done _ ht with z | z
  ·simp at z
  ·exact z.1 t rfl
structure Told (ls:List (List Nat)) (gs:List Nat) (most:Nat) (H:Hp) (wl:Addr) (v:V) (us:List Addr) (ss:List Nat) (ws:List (List Nat)) (as:MZ.Cs):Prop where
 cW:bX H wl us ws
 qm:MZ.Flow (aW ls) (mP gs) (MZ.aL as)
 bd:∀ p∈MZ.keys as,p<ls.length
 kf:ss.Pairwise (· < ·)
 mem:∀ t,t∈ss ↔ aW ls t=[]/\MZ.aL as t≠none
 len:ws.length=ss.length
 way:∀ (i:Nat) t w,ss[i]? = some t->ws[i]? = some w->iU (MZ.aL as) t w
 rest:(v=.non/\ss.length=most+1)\/∃ (sl:Addr) (es:List Nat) (cs:MZ.Cs),v=.ref sl/\H sl=some (.lst ((es.map fun e:Nat=>e / 2).map nv))/\sl≠wl/\sl ∉ us/\jZ ls gs as cs []/\es.Pairwise (· < ·)/\(∀ e,e∈es ↔ e∈MZ.keys cs/\2 * (e / 2)+1 ∉ MZ.keys cs)/\ss.length<=most
noncomputable def O9 (a:aN) (_:Zrk):Sp:=fun vs H Q E=>∃ (mp gp:Addr) (rs:List Addr) (ls:List (List Nat)) (gi:List Int) (most:Nat),vs=[.ref mp,.ref gp,.int most]/\bC H mp rs ls/\H gp=some (.lst (gi.map V.int))/\Mz ls/\ls.length<=1200/\most<=10 /\
 (∀ gs tp wl v us ss ws as H',gi=jc gs->zj ls gi->aP H H'->H tp=none->H wl=none->(∀ u∈us,H u=none)->(∀ b,v=.ref b->H b=none)->H' tp=some (.tup [.ref wl,v])->Told ls gs most H' wl v us ss ws as->Q (.ref tp) H')/\(¬ zj ls gi->∀ e,H e=none->E (.ref e) (some a.cc) H)
noncomputable abbrev Zmb (a:aN) (K:Zrk) (E:XK):TS:=(cn (kh (ah (cP (Im K) [] E0 (ah (aa 0) (ah (aa 3) aq))) (ah (cP (RX K) [] E0 (ah (ag (bJ K) (aa 5) (tC (.int 1))) aq)) aq))))
noncomputable abbrev Zma (a:aN) (K:Zrk) (E:XK):TS:=(aD (cQ (bK (ag vd (ag (bJ K) (aa 5) (tC (.int 0))) (tC .non))) (aO (Zmb a K E)) dI)
  (fW (cP (Q2 K) [] E0 (ah (aa 3) (ah (ag (bJ K) (aa 5) (tC (.int 1))) (ah (ag (bJ K) (aa 5) (tC (.int 0))) aq))))))
noncomputable abbrev Yk (a:aN) (K:Zrk) (E:XK):TS:=(aD (eD (jK (ah (ag ef (aa 2) (tC (.int 1))) aq)) (aE 4) (aD (bb (cP (Px K) [] E0 (ah (aa 0) (ah (aa 1) (ah (aa 3) aq)))) (aE 5))
  (aO (Zma a K E))))
  (cn (kh (ah (cP (Im K) [] E0 (ah (aa 0) (ah (aa 3) aq))) (ah (tC .non) aq)))))
noncomputable def Jb (a:aN) (K:Zrk) (E:XK):TS:=(aD (fW (cP (NF a K) [] E (ah (aa 0) (ah (aa 1) aq))))
  (aD (bb qv (aE 3))
  (aO (Yk a K E))))
theorem Zoz (T:Txt K mg a):TX P w K mg base 3 "apart" CT P6 a.jM (Jb a K) :=
 fun hr=>(aG (gB (MX (ZiI T) (hm hr) rfl T.cR.m T.cR.n.kp T.cR.b .nil (MD pP) (ai (cv 0) (ai (cv 1) av))))
   (aG (bI (i:=3) Gj.nd rfl (by walk_at "o") zx)
   (aV (aG (PS.qh (iY PassesOwn.never rfl (lZ rfl T.aJ (ai (aB eC (cv 2) ax) av)) (dP (i:=4) Gj.nd rfl (by walk_at "o")) (aG (bI (i:=5) Gj.nd rfl (by walk_at "o") (dg T.kD (Znw T) (hm hr) bZ (ai (cv 0) (ai (cv 1) (ai (cv 3) av)))))
   (aV (aG (da (cA og (bP bQ (cv 5) ax (fun _ _=>rfl)) kg (cw _)) (aV (aI (cG (lj (ai (dg T.gA (Om T) (hm hr) bZ (ai (cv 0) (ai (cv 3) av))) (ai (dg T.iV (VZ T) (hm hr) bZ (ai (bP bQ (cv 5) ax (fun _ _=>rfl)) av)) av)))))) d5)
   (aI (gB (dg T.oa (U9 T) (hm hr) bZ (ai (cv 3) (ai (bP bQ (cv 5) ax (fun _ _=>rfl)) (ai (bP bQ (cv 5) ax (fun _ _=>rfl)) av)))))))))))
   (aI (cG (lj (ai (dg T.gA (Om T) (hm hr) bZ (ai (cv 0) (ai (cv 3) av))) (ai kg av)))))))))
theorem Zo0 (T:Txt K mg a):aK P w K mg base (gZ P w) 4 a.jM a.mq ["maze","goals","most"] (O9 a K):=by
 refine T.lN.n.jg Gj (Zoz T) (fun vs H Q E h=>?_) (fun H vs Q E h=>?_)
 ·obtain ⟨mp,gp,rs,ls,gi,most,rfl,_⟩:=h;rfl
 ·obtain ⟨mp,gp,rs,ls,gi,most,rfl,hM,hG,mz,hn,hmo,q1,q0⟩:=h
  show Jb a K E _ [some (.ref mp),some (.ref gp),some (.int most),none,none,none] H
  unfold Jb
  have big:(20000:Nat)<=sizeLine:=by decide
  walk_at "gs"
  refine ⟨mp,gp,rs,ls,gi,rfl,hM,hG,fun aF=>?_,q0⟩
  obtain ⟨gs,pe⟩:∃ gs,gi=jc gs:=⟨gi.map ZtQ,by
   unfold jc
   rw [Zsd]
   refine (ZsX _).symm.trans (ZsL fun x hx=>?_)
   have:=(aF x hx).1
   show x=((x.toNat:Nat):Int)
   omega⟩
  have hG':=hG
  rw [pe,GA] at hG'
  have Rm:∀ g∈gs,g<ls.length/\aW ls g≠[]:=fun g hg=>by
   obtain ⟨_,h2,h3⟩:=aF (g:Int) (by rw [pe];exact Zr8.mpr ⟨g,hg,rfl⟩)
   rw [ZtL] at h3
   exact ⟨by omega,h3⟩
  walk_at "gs"
  intro ap H1 n1
  have fa:H ap=none:=n1.aH
  have AA:MZ.Flow (aW ls) (mP gs) (MZ.aL []):=⟨fun p q h=>(nomatch h),fun p h=>(nomatch h),fun p p' q h=>(nomatch h),fun p h=>absurd rfl h,fun p h=>absurd rfl h⟩
  walk_at "gs"
  rw [show ((most:Int)+1).toNat=most+1 by omega]
  refine nQ (fun i σ H2=>aP H H2/\∃ (as:MZ.Cs) (v4 v5:Option V),H2 ap=some (.dK (as.map enc))/\(MZ.keys as).Nodup/\(∀ p∈MZ.keys as,p<ls.length)/\MZ.Flow (aW ls) (mP gs) (MZ.aL as)/\Ig ls as i/\σ=[some (.ref mp),some (.ref gp),some (.int most),some (.ref ap),v4,v5]) ⟨n1.same,[],_,_,n1.at_,ZsP,fun p hp=>by simp [MZ.keys] at hp,AA,⟨[],ZsP,fun t=>⟨fun z=>by simp at z,fun z=>absurd rfl z.2⟩,rfl⟩,rfl⟩ ?_ ?_
  ·rintro i σ H2 hi ⟨s2,as,v4,v5,h2,nd2,ba2,F2,c2,rfl⟩
   have Xz:=LX nd2 ba2
   walk_at "gs"
   refine ⟨mp,gp,ap,rs,ls,gs,as,rfl,hM.same s2,s2 _ _ hG',h2,mz,by omega,fun g hg=>(Rm g hg).1,fun p q hpq=>ba2 q (MZ.qP.mp (F2.up p q hpq).2),fun s cs tp cp H3 s3 fc3 h3 hc3 cm3 hls nD hsb hcb=>?_,fun cs tp cp H3 s3 h3 hc3 sk=>?_⟩
   ·-- a d0 aH come to
    have P:=cm3.path F2 (fun g hg=>(Rm g hg).2) hls nD
    have J9:ap≠cp:=cq h2 fc3
    walk_at "gs"
    refine ⟨_,_,.inr (.of h3),rfl,?_⟩
    unfold nv
    walk_at "gs"
    refine ⟨_,_,.inr (.of h3),rfl,?_⟩
    refine ⟨_,_,.inr (.of h3),rfl,?_⟩
    refine ⟨ap,cp,aW ls,mP gs,as,cs,s,ls.length,rfl,s3 _ _ h2,hc3,J9,nd2,ba2,hcb,by omega,F2,P,fun js H4 s4 h4 nd4 ba4 cm4=>?_⟩
    ·have F4:=MZ.WS F2 P mz.lt
     rw [<- cm4] at F4
     obtain ⟨l1,l2,l3⟩:=MZ.Xp F2 P mz.lt
     rw [<- cm4] at l2 l3
     refine ⟨fun b o e=>?_,js,_,_,h4,nd4,ba4,F4,?_,rfl⟩
     ·exact s4 b o (cq e fa) (s3 _ _ (s2 _ _ e))
     ·obtain ⟨A,nA,hA,rfl⟩:=c2
      refine ⟨s :: A,ZsI.mpr ⟨fun z=>((hA s).mp z).2 l1,nA⟩,fun t=>?_,rfl⟩
      rw [Zr7,hA]
      constructor
      ·rintro (rfl | ⟨z1,z2⟩)
       ·exact ⟨hls,l2⟩
       ·refine ⟨z1,?_⟩
        by_cases e:t=s
        ·subst e;exact l2
        ·exact (l3 t z1 e).mpr z2
      ·rintro ⟨z1,z2⟩
       by_cases e:t=s
       ·exact .inl e
       ·exact .inr ⟨z1,(l3 t z1 e).mp z2⟩
   ·walk_at "gs"
    refine ⟨_,_,.inr (.of h3),rfl,?_⟩
    walk_at "gs"
    refine ⟨mp,ap,rs,ls,mP gs,as,rfl,hM.same (s2.trans s3),s3 _ _ h2,nd2,by omega,ba2,by omega,F2,mz,fun wl us ss ws H4 s4 f4 hW hun kf mem len way=>?_⟩
    refine ⟨_,_,.inr (.of (s4 _ _ h3)),rfl,?_⟩
    refine ⟨cp,cs,rfl,s4 _ _ hc3,sk.oz.nd,by have:=sk.len;omega,fun sl es H5 md hes hem=>?_⟩
    obtain ⟨f5,h5,s5⟩:=md
    refine ⟨by show 2<=sizeLine;decide,fun tp' H6 n6=>?_⟩
    have ke:=s2.trans s3
    have uQ:=ke.trans s4
    have A2:=uQ.trans s5
    have O2:=s5.trans n6.same
    refine q1 gs tp' wl (.ref sl) us ss ws as H6 pe aF (A2.trans n6.same) (A2.nil n6.aH) (ke.nil f4) (fun u hu=>ke.nil (hun u hu).1) (fun b e=>by cases e;exact uQ.nil f5) n6.at_ ⟨⟨O2 _ _ hW.lst,hW.len,fun i r w hr hw=>O2 _ _ (hW.at_ i r w hr hw)⟩,F2,ba2,kf,mem,len,way,.inr ⟨sl,es,cs,rfl,n6.same _ _ h5,(cq hW.lst f5).symm,fun z=>?_,sk,hes,hem,?_⟩⟩
    ·obtain ⟨j,hj⟩:=Zsr.mp z
     have zU:j<ws.length:=by rw [<- hW.len];exact (Zr1.mp hj).1
     have:=hW.at_ j sl _ hj (ZrY zU)
     rw [f5] at this
     cases this
    ·have:=c2.eq (GZ kf) mem
     omega
  ·rintro σ H2 ⟨s2,as,v4,v5,h2,nd2,ba2,F2,c2,rfl⟩
   have Xz:=LX nd2 ba2
   walk_at "gs"
   refine ⟨mp,ap,rs,ls,mP gs,as,rfl,hM.same s2,h2,nd2,by omega,ba2,by omega,F2,mz,fun wl us ss ws H4 s4 f4 hW hun kf mem len way=>?_⟩
   refine ⟨by show 2<=sizeLine;decide,fun tp' H6 n6=>?_⟩
   have uQ:=s2.trans s4
   exact q1 gs tp' wl .non us ss ws as H6 pe aF (uQ.trans n6.same) (uQ.nil n6.aH) (s2.nil f4) (fun u hu=>s2.nil (hun u hu).1) (fun b e=>nomatch e) n6.at_ ⟨⟨n6.same _ _ hW.lst,hW.len,fun i r w hr hw=>n6.same _ _ (hW.at_ i r w hr hw)⟩,F2,ba2,kf,mem,len,way,.inl ⟨rfl,c2.eq (GZ kf) mem⟩⟩
noncomputable def qC (H:Hp):V->Prop
 | .int _=>True
 | .bl _=>True
 | .str _=>True
 | .non=>True
 | .ref a=>(∃ xs,H a=some (.lst xs))\/∃ xs,H a=some (.tup xs)
 | _=>False
noncomputable def whole:V->Bool
 | .int _=>true
 | _=>false
noncomputable def Oh (_:Zrk):Sp:=fun vs H Q _=>∃ v:V,vs=[v]/\qC H v/\Q (.bl (whole v)) H
noncomputable def KU (K:Zrk):TS:=(cn (sD (dk (rH K) (ah (aa 0) (ah (tC (.ty "int")) aq))) (zM (dk (rH K) (ah (aa 0) (ah (tC (.ty "bool")) aq))))))
theorem UA (T:Txt K mg a):TM P w K mg base 0 "is_whole" FE To a.fL (KU K) :=
 fun hr=>(aI (cG (GP (dU zq (by rfl) T.bE PyProof.Rows.boot_isinstance (ai (cv 0) (ai (zm (v:=.ty "int") rfl T.lB PyProof.Rows.boot_int rfl) av))) (GO (sM (dU zq (by rfl) T.bE PyProof.Rows.boot_isinstance (ai (cv 0) (ai (zm (v:=.ty "bool") rfl T.lW PyProof.Rows.boot_bool rfl) av))))))))
theorem Zc (T:Txt K mg a):aK P w K mg base dQ 1 a.fL a.iA ["thing"] (Oh K):=by
 refine T.iH.n.fg Vz (UA T) (fun vs H Q E h=>?_) (fun H vs Q E h=>?_)
 ·obtain ⟨v,rfl,_⟩:=h;rfl
 ·obtain ⟨v,rfl,hv,q⟩:=h
  show KU K _ [some v] H
  unfold KU
  walk_at "gs"
  cases v with
  | int i =>
   refine ⟨_,true,.int _,rfl,?_⟩
   walk_at "gs"
   refine ⟨_,false,.int _,rfl,?_⟩
   walk_at "gs"
   exact q
  | bl x =>
   refine ⟨_,true,.bl _,rfl,?_⟩
   walk_at "gs"
   refine ⟨_,true,.bl _,rfl,?_⟩
   walk_at "gs"
   exact q
  | str z =>
   refine ⟨_,false,.str _,rfl,?_⟩
   walk_at "gs"
   exact q
  | non =>
   refine ⟨_,false,.non,rfl,?_⟩
   walk_at "gs"
   exact q
  | ref r =>
   rcases hv with ⟨xs,e⟩ | ⟨xs,e⟩
   ·refine ⟨_,false,.lst e,rfl,?_⟩
    walk_at "gs"
    exact q
   ·refine ⟨_,false,.tup e,rfl,?_⟩
    walk_at "gs"
    exact q
  | _=>exact hv.elim
noncomputable def zg (v:V) (l g:Int):Bool:=match v with
 | .int i=>decide (l<=i/\i<=g)
 | _=>false
theorem YN {v:V} (h:whole v=false) (l g:Int):zg v l g=false:=by
 cases v with
 | int i=>cases h
 | _=>rfl
theorem vo {v:V} (h:whole v=true):∃ i,v=.int i:=by
 cases v with
 | int i=>exact ⟨i,rfl⟩
 | _=>cases h
noncomputable def Nv (_:Zrk):Sp:=fun vs H Q _=>∃ (v:V) (l g:Int),vs=[v,.int l,.int g]/\qC H v/\Q (.bl (zg v l g)) H
noncomputable def Lp (K:Zrk):TS:=(cn (sD (cP (Oh K) [] E0 (ah (aa 0) aq)) (qg (cf fun i j=>.bl (decide (i<=j))) (cf fun i j=>.bl (decide (i<=j))) (aa 1) (aa 0) (aa 2))))
theorem Uh (T:Txt K mg a):TM P w K mg base 1 "is_between" Di NS a.dZ (Lp K) :=
 fun hr=>(aI (cG (GP (dg T.iH (Zc T) (hm hr) bZ (ai (cv 0) av)) (GO (QW mY mY (cv 1) (cv 0) (cv 2))))))
theorem Vq (T:Txt K mg a):aK P w K mg base dQ 2 a.dZ a.gc ["thing","least","greatest"] (Nv K):=by
 refine T.fS.n.fg Zil (Uh T) (fun vs H Q E h=>?_) (fun H vs Q E h=>?_)
 ·obtain ⟨v,l,g,rfl,_⟩:=h;rfl
 ·obtain ⟨v,l,g,rfl,hv,q⟩:=h
  show Lp K _ [some v,some (.int l),some (.int g)] H
  unfold Lp
  walk_at "gs"
  refine ⟨v,rfl,hv,?_⟩
  cases hw:whole v with
  | false =>
   rw [YN hw] at q
   walk_at "gs"
   exact q
  | true =>
   obtain ⟨i,rfl⟩:=vo hw
   have q:Q (.bl (decide (l<=i/\i<=g))) H:=q
   walk_at "gs"
   by_cases h:l<=i
   ·rw [if_pos h]
    rw [show decide (l<=i/\i<=g)=decide (i<=g) by rw [decide_eq_decide];omega] at q
    exact q
   ·rw [if_neg h]
    rw [decide_eq_false (fun z=>h z.1)] at q
    exact q
noncomputable def yc (v:V):Bool:=zg v 2 6
noncomputable def OP (a:aN) (_:Zrk):Sp:=fun vs H Q E=>∃ v:V,vs=[v]/\qC H v/\(yc v=true->Q .non H)/\(yc v=false->∀ e,H e=none->E (.ref e) (some a.cD) H)
noncomputable def LI (a:aN) (K:Zrk) (E:XK):TS:=(cQ (lH (jX K (cP (Nv K) [] E0 (ah (aa 0) (ah (tC (GK a)) (ah (tC (Hw a)) aq)))))) (qt a.cD (ah (tC (.str "not a whole number from 2 to 6")) aq) E) dI)
theorem Zjb (T:Txt K mg a):TX P w K mg base 2 "need_size" B5 Ov a.eJ (LI a K) :=
 fun hr=>(aI (da (mC (mf (dg T.fS (Vq T) (hm hr) bZ (ai (cv 0) (ai (zW rfl T.jk) (ai (zW rfl T.gw) av)))))) (aI (xT ZrS T.xi_NoSize (by decide) rfl T.nF rfl pP (ai sG av))) d5))
theorem X1 (T:Txt K mg a):aK P w K mg base (gZ P w) 3 a.eJ a.gS ["size"] (OP a K):=by
 refine T.dw.n.jg WG (Zjb T) (fun vs H Q E h=>?_) (fun H vs Q E h=>?_)
 ·obtain ⟨v,rfl,_⟩:=h;rfl
 ·obtain ⟨v,rfl,hv,q1,q0⟩:=h
  show LI a K E _ [some v] H
  unfold LI
  try unfold GK
  try unfold Hw
  walk_at "gs"
  refine ⟨v,_,_,rfl,hv,?_⟩
  have e:zg v 2 6=yc v:=rfl
  rw [e]
  cases h:yc v with
  | true =>
   walk_at "gs"
   exact q1 h
  | false =>
   walk_at "gs"
   exact q0 h
noncomputable def dh (m:Nat) (P:List MF.Pr):List (List Nat):=ZrZ (m+1) [] ++ P.map fun p=>[(p.1 / 2).toNat,(p.2 / 2).toNat]
theorem r6 (m:Nat) (P:List MF.Pr):(dh m P).length=m+1+P.length:=by
 unfold dh
 rw [Zr0,Zsb,ZrX]
theorem N1 {m:Nat}{P:List MF.Pr}{k:Nat} (h:k<=m):(dh m P)[k]? = some []:=by
 unfold dh
 rw [Zse (by rw [Zsb];omega),ZsM,if_pos (by omega)]
theorem Rz {m:Nat}{P:List MF.Pr}{j:Nat}{p:MF.Pr} (h:P[j]? = some p):(dh m P)[m+1+j]? = some [(p.1 / 2).toNat,(p.2 / 2).toNat]:=by
 unfold dh
 rw [Zsi (by rw [Zsb];omega),Zsb,show m+1+j - (m+1)=j by omega,Zsa,h]
 rfl
theorem Gv {m:Nat}{P:List MF.Pr}{k:Nat} (h:k<=m):aW (dh m P) k=[]:=by
 unfold aW
 rw [Zsc,N1 h]
 rfl
theorem pJ {m:Nat}{P:List MF.Pr}{j:Nat}{p:MF.Pr} (h:P[j]? = some p):aW (dh m P) (m+1+j)=[(p.1 / 2).toNat,(p.2 / 2).toNat]:=by
 unfold aW
 rw [Zsc,Rz h]
 rfl
theorem GI {m:Nat}{P:List MF.Pr}{k l:Nat} (h:l∈aW (dh m P) k):∃ j p,k=m+1+j/\P[j]? = some p/\(l=(p.1 / 2).toNat\/l=(p.2 / 2).toNat):=by
 have hk:=Lo h
 rw [r6] at hk
 rcases Ztt m k with z | z
 ·have hj:k - m - 1<P.length:=by omega
  refine ⟨k - m - 1,P[k - m - 1],by omega,ZrY hj,?_⟩
  rw [show k=m+1+(k - m - 1) by omega,pJ (ZrY hj)] at h
  simpa using h
 ·rw [Gv z] at h
  simp at h
theorem Ah {m:Nat}{P:List MF.Pr} (ok:MF.Ok m P):Mz (dh m P):=by
 refine ⟨fun k l h=>?_,fun k=>?_⟩
 ·obtain ⟨j,p,rfl,hp,e⟩:=GI h
  have:=ok j p hp
  omega
 ·rcases Ztt m k with z | z
  ·rcases Ztt (k - m - 1) P.length with y | y
   ·rw [show k=m+1+(k - m - 1) by omega,pJ (ZrY y)]
    have:=ok _ _ (ZrY y)
    simp
    omega
   ·unfold aW
    rw [Zsc,Zsu (by rw [r6];omega)]
    exact ZsP
  ·rw [Gv z];exact ZsP
theorem bC.snoc {H:Hp}{mp bp:Addr}{rs:List Addr}{ls:List (List Nat)}{bs:List Nat} (h:bC H mp rs ls) (hb:H bp=some (.lst (bs.map nv))) (nr:mp ∉ rs) (nb:mp≠bp):bC (upd H mp (.lst (rs.map V.ref ++ [.ref bp]))) mp (rs ++ [bp]) (ls ++ [bs]):=by
 refine ⟨by rw [cz,Zr4];rfl,by rw [Zr0,Zr0,h.len];rfl,fun i r l hr hl=>?_⟩
 have jf:mp≠r:=fun z=>by
  have:=Zr5 hr
  rcases Zr3.mp this with g | g
  ·exact nr (z ▸ g)
  ·rw [Zr2] at g;exact nb (z.trans g)
 rw [aQ jf.symm]
 rcases ZtK i ls.length with z | z | z
 ·rw [Zse (by rw [h.len];exact z)] at hr
  rw [Zse z] at hl
  exact h.at_ i r l hr hl
 ·subst z
  rw [Zsi (by rw [h.len];exact Zts _),h.len,Zty] at hr
  rw [Zsi (Zts _),Zty] at hl
  cases hr;cases hl
  exact hb
 ·rw [Zsu (by rw [Zr0,Zsk];omega)] at hl
  cases hl
noncomputable def Rc (a:aN) (_:Zrk):Sp:=fun vs H Q _=>∃ (f dx pl kl:Addr) (m:Nat) (es:List En),vs=[.ref f]/\aC a.af H f m es dx pl kl/\MF.Ok m (ar es)/\m<=10/\es.length<=4000 /\
 ∀ mp rs H',aP H H'->H mp=none->(∀ r∈rs,H r=none/\mp≠r)->bC H' mp rs (dh m (ar es))->Q (.ref mp) H'
noncomputable abbrev W8 (a:aN) (K:Zrk):TS:=(aD (bb (gq a.af "pair" (Jp a K) [] E0 (aa 0) (ah (aa 2) aq)) (aE 3))
  (fW (j8 K "list" kQ (aa 1) (ah (Hs (bK (ag vd (aa 3) (tC .non))) (ik aq) (ik (ah (ag (bU eA fun i j=>.int (i / j)) (ag (bJ K) (aa 3) (tC (.int 0))) (tC (.int 2))) (ah (ag (bU eA fun i j=>.int (i / j)) (ag (bJ K) (aa 3) (tC (.int 1))) (tC (.int 2))) aq)))) aq))))
noncomputable abbrev Zjy (a:aN) (K:Zrk):TS:=(aD (eD (jK (ah (gq a.af "total" (pD a K) [] E0 (aa 0) aq) aq)) (aE 2) (aO (W8 a K)))
  (cn (aa 1)))
noncomputable def KH (a:aN) (K:Zrk):TS:=(aD (bb (ik aq) (aE 1))
  (aO (Zjy a K)))
theorem X8 (T:Txt K mg a):TM P w K mg base 2 "maze_of" Cq PR a.gG (KH a K) :=
 fun hr=>(aG (bI (i:=1) Hq.nd rfl (by walk_at "o") (jo av))
   (aV (aG (iY PassesOwn.never rfl (lZ rfl T.aJ (ai (qF (cv 0) T.ay T.ak.e (qJ T) (hm hr) T.ak.b .nil bZ) av)) (dP (i:=2) Hq.nd rfl (by walk_at "o")) (aV (aG (bI (i:=3) Hq.nd rfl (by walk_at "o") (lg (cv 0) T.ay T.cF.e (Rw T) (hm hr) T.cF.b .nil oY (ai (cv 2) av)))
   (aI (gB (kK ZrP ZrQ ZrR (kR kS) (cv 1) (ai (Rv (cA og (cv 3) kg (cw _)) (jo av) (jo (ai (aB eE (bP bQ (cv 3) ax (fun _ _=>rfl)) ax) (ai (aB eE (bP bQ (cv 3) ax (fun _ _=>rfl)) ax) av)))) av)))))))
   (aI (cG (cv 1))))))
theorem T2 (T:Txt K mg a):aK P w K mg base dQ 3 a.gG a.jH ["fold"] (Rc a K):=by
 refine T.jI.n.fg Hq (X8 T) (fun vs H Q E h=>?_) (fun H vs Q E h=>?_)
 ·obtain ⟨f,dx,pl,kl,m,es,rfl,_⟩:=h;rfl
 ·obtain ⟨f,dx,pl,kl,m,es,rfl,hf,ok,hm,hz,q⟩:=h
  show KH a K _ [some (.ref f),none,none,none] H
  unfold KH
  have big:(20000:Nat)<=sizeLine:=by decide
  have je:(ar es).length=es.length:=ZrX ..
  walk_at "gs"
  intro mp H1 n1
  have f1:=hf.same n1.same
  walk_at "gs"
  refine ⟨f,dx,_,rfl,f1.ins,rfl,f,dx,pl,kl,m,es,rfl,f1,?_⟩
  walk_at "gs"
  rw [show (1+(m:Int)+(es.length:Int)).toNat=m+1+es.length by omega]
  refine nQ (fun i σ H2=>aP H H2/\∃ (rs:List Addr) (v2 v3:Option V),(∀ r∈rs,H r=none/\mp≠r)/\bC H2 mp rs ((dh m (ar es)).take i)/\σ=[some (.ref f),some (.ref mp),v2,v3]) ⟨n1.same,[],_,_,fun r hr=>by simp at hr,⟨n1.at_,rfl,fun i r l hr=>by simp at hr⟩,rfl⟩ ?_ ?_
  ·rintro i σ H2 hi ⟨s2,rs,v2,v3,hrs,hM,rfl⟩
   have f2:=hf.same s2
   have hrl:rs.length=i:=by rw [hM.len,Zsq,r6];omega
   have nr:mp ∉ rs:=fun z=>(hrs mp z).2 rfl
   walk_at "gs"
   refine ⟨f,dx,_,rfl,f2.ins,rfl,f,dx,pl,kl,m,_,es,rfl,f2,fun _=>⟨fun hle=>?_,fun e aX he=>?_⟩,fun z=>absurd ⟨by omega,by omega⟩ z⟩
   ·walk_at "gs"
    refine ⟨.inl ⟨by trivial,_,.of hM.lst⟩,by show 0<=sizeLine;omega,fun r3 H3 n3=>?_⟩
    have Ac:=hM.same n3.same
    have nm:mp≠r3:=cq hM.lst n3.aH
    refine ⟨mp,_,_,rfl,rfl,Ac.lst,by rw [ZrX];omega,(s2.trans n3.same).put n1.aH,rs ++ [r3],_,_,fun r hr=>?_,?_,rfl⟩
    ·rcases Zr3.mp hr with z | z
     ·exact hrs r z
     ·rw [Zr2] at z;subst z;exact ⟨s2.nil n3.aH,nm⟩
    ·rw [Zsj,N1 (by omega)]
     exact Ac.snoc (bs:=[]) n3.at_ nr nm
   ·obtain ⟨j,hj⟩:∃ j,i=m+1+j:=⟨i - m - 1,by omega⟩
    have he':es[j]? = some e:=by rw [<- he];congr 1;omega
    have hp:(ar es)[j]? = some e.2:=by rw [Zsa,he'];rfl
    obtain ⟨o1,o2,o3,o4⟩:=ok _ _ hp
    have te:=f2.ck.tup _ (Zr5 he')
    walk_at "gs"
    refine ⟨.inl ⟨by trivial,_,.of hM.lst⟩,?_⟩
    refine ⟨_,_,.inr (.of te),rfl,?_⟩
    walk_at "gs"
    refine ⟨_,_,.inr (.of te),rfl,?_⟩
    walk_at "gs"
    refine ⟨by show 2<=sizeLine;decide,fun r3 H3 n3=>?_⟩
    have Ac:=hM.same n3.same
    have nm:mp≠r3:=cq hM.lst n3.aH
    refine ⟨mp,_,_,rfl,rfl,Ac.lst,by rw [ZrX];omega,(s2.trans n3.same).put n1.aH,rs ++ [r3],_,_,fun r hr=>?_,?_,rfl⟩
    ·rcases Zr3.mp hr with z | z
     ·exact hrs r z
     ·rw [Zr2] at z;subst z;exact ⟨s2.nil n3.aH,nm⟩
    ·rw [Zsj,hj,Rz hp,<- hj]
     refine Ac.snoc (bs:=[(e.2.1 / 2).toNat,(e.2.2 / 2).toNat]) ?_ nr nm
     rw [n3.at_]
     show some (HO.lst [V.int (e.2.1 / 2),V.int (e.2.2 / 2)])=some (HO.lst [nv _,nv _])
     unfold nv
     rw [show ((e.2.1 / 2).toNat:Int)=e.2.1 / 2 by omega,show ((e.2.2 / 2).toNat:Int)=e.2.2 / 2 by omega]
  ·rintro σ H2 ⟨s2,rs,v2,v3,hrs,hM,rfl⟩
   rw [ZsR (by rw [r6];omega)] at hM
   walk_at "gs"
   exact q mp rs H2 s2 n1.aH hrs hM
theorem QF {m:Nat}{P:List MF.Pr} (ok:MF.Ok m P) {n:Nat} (hn:n<1+m+P.length) {k:Nat}:k∈MF.o5 m P n ↔ ML.Dn (aW (dh m P)) n k:=by
 unfold MF.o5
 rw [MF.HQ]
 constructor
 ·intro h
  refine MF.M7 (S:=ML.Dn (aW (dh m P)) n) (fun t ht=>?_) (fun j p hp hS _=>?_) h
  ·rw [Zr2] at ht
   subst ht
   rw [MF.tJ]
   exact .here
  ·exact ⟨hS.low (by rw [pJ hp];simp),hS.low (by rw [pJ hp];simp)⟩
 ·intro h
  induction h with
  | here=>exact MF.Ln hn
  | low h hx ih =>
   obtain ⟨j,p,rfl,hp,e⟩:=GI hx
   have:=MF.Zm7 ok [2 * (n:Int)] hp ih rfl
   rcases e with rfl | rfl
   ·exact this.1
   ·exact this.2
theorem XM {m:Nat}{P:List MF.Pr} (ok:MF.Ok m P) {n:Nat} (hn:n<1+m+P.length):∃ v,MF.o5 m P n=v ++ [n]:=by
 rw [MF.YL ok hn,Zs3,ZsQ]
 refine ⟨(Zr6 n).filter (MF.il (fun _=>false) m P [2 * (n:Int)]),?_⟩
 rw [ZsF,if_pos (MF.Ln hn)]
 rfl
theorem ZE (m:Nat) (P:List MF.Pr) (n:Nat):(MF.o5 m P n).length<=1+m+P.length:=by
 unfold MF.o5 MF.dS
 refine Ztv (Zs1 ..) ?_
 rw [ZsG]
 exact Zts _
noncomputable def gu:Nat->List Addr->List (Key × V)
 | _,[]=>[]
 | n,c :: r=>(.inl (n:Int),.ref c) :: gu (n+1) r
theorem GW:∀ (n:Nat) (cs:List Addr) (k:Int),gO (gu n cs) (.inl k)=if (n:Int)<=k then (cs[(k - n).toNat]?).map V.ref else none
 | n,[],k=>by
  show none=_
  split <;> simp
 | n,c :: r,k=>by
  show gO ((.inl (n:Int),.ref c) :: gu (n+1) r) (.inl k)=_
  by_cases e:k=n
  ·subst e
   rw [tZ rfl,if_pos (ZtN _),show ((n:Int) - (n:Int)).toNat=0 by omega]
   rfl
  ·rw [vx (fun z=>e (by have:=Sum.inl.inj z;omega)),GW (n+1) r k]
   by_cases h:(n:Int)<=k
   ·rw [if_pos (by omega),if_pos h,show (k - (n:Int)).toNat=(k - ((n+1:Nat):Int)).toNat+1 by omega,ZsJ]
   ·rw [if_neg (by omega),if_neg h]
theorem Nk:∀ (n:Nat) (cs:List Addr) (c:Addr),gu n (cs ++ [c])=gu n cs ++ [(.inl ((n+cs.length:Nat):Int),.ref c)]
 | n,[],c=>rfl
 | n,x :: r,c=>by
  show (.inl (n:Int),.ref x) :: gu (n+1) (r ++ [c])=(.inl (n:Int),.ref x) :: (gu (n+1) r ++ _)
  rw [Nk (n+1) r c,Zsf,show n+1+r.length=n+(r.length+1) by omega]
theorem P1:∀ (n:Nat) (cs:List Addr) (k:Nat),n+cs.length<=k->((gu n cs).any fun kv=>decide (kv.1=(.inl (k:Int):Key)))=false
 | n,[],k,_=>rfl
 | n,c :: r,k,h=>by
  rw [Zsf] at h
  show (decide ((.inl (n:Int):Key)=.inl (k:Int)) || _)=false
  rw [decide_eq_false (fun z=>by have:=Sum.inl.inj z;omega),Zt9]
  exact P1 (n+1) r k (by omega)
theorem Oq (n:Nat) (cs:List Addr) (c:Addr):gj (gu n cs) (.inl ((n+cs.length:Nat):Int)) (.ref c)=gu n (cs ++ [c]):=by
 unfold gj
 rw [P1 n cs _ (Zts _),if_neg (by simp),Nk]
theorem Ko:∀ (n:Nat) (cs:List Addr),(gu n cs).length=cs.length
 | _,[]=>rfl
 | n,c :: r=>by
  show (gu (n+1) r).length+1=r.length+1
  rw [Ko]
structure fC (C:Addr) (H:Hp) (x dx ll fc fw:Addr) (m:Nat) (az:List Nat) (aY aH:List Addr):Prop where
 ins:H x=some (.ins C dx [("levels",.ref ll),("found_cuts",.ref fc),("found_ways",.ref fw)])
 lst:H ll=some (.lst (az.map nv))
 fX:H fc=some (.dK (gu (m+1) aY))
 cW:H fw=some (.dK (gu (m+1) aH))
noncomputable def lP (ll fc fw:Addr) (H H':Hp):Prop:=∀ b o,b≠ll->b≠fc->b≠fw->H b=some o->H' b=some o
theorem lP.trans {ll fc fw:Addr}{H H' H1:Hp} (u:lP ll fc fw H H') (v:lP ll fc fw H' H1):lP ll fc fw H H1:=fun b o n1 n2 n3 e=>v b o n1 n2 n3 (u b o n1 n2 n3 e)
theorem Gf {ll fc fw:Addr}{H H':Hp} (s:aP H H'):lP ll fc fw H H':=fun b o _ _ _ e=>s b o e
theorem fC.same {C:Addr}{H H':Hp}{x dx ll fc fw:Addr}{m:Nat}{az:List Nat}{aY aH:List Addr} (h:fC C H x dx ll fc fw m az aY aH) (s:aP H H'):fC C H' x dx ll fc fw m az aY aH:=⟨s _ _ h.ins,s _ _ h.lst,s _ _ h.fX,s _ _ h.cW⟩
noncomputable def GG (a:aN) (_:Zrk):Sp:=fun vs H Q _=>∃ (x dx ll fc fw c w:Addr) (m k fG:Nat) (az:List Nat) (aY aH:List Addr),vs=[.ref x,.int k,.int fG,.ref c,.ref w]/\fC a.ae H x dx ll fc fw m az aY aH/\k=m+1+aY.length/\aY.length=aH.length/\az.length<=10000/\k<=10000/\fc≠fw /\
 ∀ H',lP ll fc fw H H'->fC a.ae H' x dx ll fc fw m (az ++ [fG]) (aY ++ [c]) (aH ++ [w])->Q .non H'
noncomputable def K9 (K:Zrk):TS:=(aD (fW (j8 K "list" kQ (ic K (aa 0) "levels") (ah (aa 2) aq)))
  (aD (nK (ic K (aa 0) "found_cuts") (aa 1) (aa 3))
  (nK (ic K (aa 0) "found_ways") (aa 1) (aa 4))))
theorem UX (T:Txt K mg a):TM P w K mg base 0 "Labels.keep" ET Tr a.dC (K9 K) :=
 fun hr=>(aG (gB (kK ZrP ZrQ ZrR (kR kS) (iK (cv 0) rfl) (ai (cv 2) av)))
   (aG (pT (gK hr) (iK (cv 0) rfl) (cv 1) (cv 3) rfl)
   (aI (pT (gK hr) (iK (cv 0) rfl) (cv 1) (cv 4) rfl))))
theorem Ms (T:Txt K mg a):aK P w K mg base dQ 1 a.dC a.fD ["self","knot","level","cut","ways"] (GG a K):=by
 refine T.br.n.fg VP (UX T) (fun vs H Q E h=>?_) (fun H vs Q E h=>?_)
 ·obtain ⟨x,dx,ll,fc,fw,c,w,m,k,fG,az,aY,aH,rfl,_⟩:=h;rfl
 ·obtain ⟨x,dx,ll,fc,fw,c,w,m,k,fG,az,aY,aH,rfl,hL,hk,hcw,hz,hkz,nf,q⟩:=h
  show K9 K _ [some (.ref x),some (.int k),some (.int fG),some (.ref c),some (.ref w)] H
  unfold K9
  have big:(20000:Nat)<=sizeLine:=by decide
  have n1:ll≠x:=cZ hL.lst hL.ins (fun z=>nomatch z)
  have n2:fc≠x:=cZ hL.fX hL.ins (fun z=>nomatch z)
  have n3:fw≠x:=cZ hL.cW hL.ins (fun z=>nomatch z)
  have n4:ll≠fc:=cZ hL.lst hL.fX (fun z=>nomatch z)
  have n5:ll≠fw:=cZ hL.lst hL.cW (fun z=>nomatch z)
  walk_at "gs"
  refine ⟨x,a.ae,dx,_,_,rfl,hL.ins,T.aA,T.aM,rfl,?_⟩
  walk_at "gs"
  refine ⟨.inl ⟨by trivial,_,.of hL.lst⟩,ll,_,_,rfl,rfl,hL.lst,by rw [ZrX];omega,?_⟩
  have RZ:upd H ll (.lst (az.map nv ++ [.int fG])) x=some (.ins a.ae dx [("levels",.ref ll),("found_cuts",.ref fc),("found_ways",.ref fw)]):=by rw [aQ n1.symm];exact hL.ins
  have hc1:upd H ll (.lst (az.map nv ++ [.int fG])) fc=some (.dK (gu (m+1) aY)):=by rw [aQ n4.symm];exact hL.fX
  have Ri:upd H ll (.lst (az.map nv ++ [.int fG])) fw=some (.dK (gu (m+1) aH)):=by rw [aQ n5.symm];exact hL.cW
  have Qq:upd H ll (.lst (az.map nv ++ [.int fG])) ll=some (.lst ((az ++ [fG]).map nv)):=by rw [cz,Zr4];rfl
  have u1:lP ll fc fw H (upd H ll (.lst (az.map nv ++ [.int fG]))):=fun b o g1 _ _ e=>by rw [aQ g1];exact e
  generalize upd H ll (.lst (az.map nv ++ [.int fG]))=H1 at *
  walk_at "gs"
  refine ⟨x,a.ae,dx,_,_,rfl,RZ,T.aA,T.bM,rfl,fc,_,rfl,nM.k (k:=.inl (k:Int)) hc1 (by rw [Ko];omega),?_⟩
  have e2:gj (gu (m+1) aY) (.inl (k:Int)) (.ref c)=gu (m+1) (aY ++ [c]):=by rw [hk];exact Oq _ _ _
  rw [e2]
  walk_at "gs"
  have uF:upd H1 fc (.dK (gu (m+1) (aY ++ [c]))) x=some (.ins a.ae dx [("levels",.ref ll),("found_cuts",.ref fc),("found_ways",.ref fw)]):=by rw [aQ n2.symm];exact RZ
  have hw2:upd H1 fc (.dK (gu (m+1) (aY ++ [c]))) fw=some (.dK (gu (m+1) aH)):=by rw [aQ nf.symm];exact Ri
  refine ⟨x,a.ae,dx,_,_,rfl,uF,T.aA,T.bh,rfl,fw,_,rfl,nM.k (k:=.inl (k:Int)) hw2 (by rw [Ko];omega),?_⟩
  have e3:gj (gu (m+1) aH) (.inl (k:Int)) (.ref w)=gu (m+1) (aH ++ [w]):=by rw [hk,hcw];exact Oq _ _ _
  rw [e3]
  refine q _ (fun b o g1 g2 g3 e=>?_) ⟨?_,?_,?_,cz⟩
  ·rw [aQ g3,aQ g2];exact u1 b o g1 g2 g3 e
  ·rw [aQ n3.symm];exact uF
  ·rw [aQ n5,aQ n4];exact Qq
  ·rw [aQ nf,cz]
noncomputable def NL (a:aN) (_:Zrk):Sp:=fun vs H Q E=>∃ (x dx ll fc fw:Addr) (m:Nat) (k:Int) (az:List Nat) (aY aH:List Addr),vs=[.ref x,.int k]/\fC a.ae H x dx ll fc fw m az aY aH/\(∀ n:Nat,k=n->n<az.length->Q (nv (az.getD n 0)) H)/\(¬ (0<=k/\k<az.length)->∀ e,H e=none->E (.ref e) (some a.bg) H)
theorem vD {xs:List Nat}{n:Nat} (h:n<xs.length):fJ (xs.map nv) (n:Int)=some (nv (xs.getD n 0)):=by
 rw [oS .non (by omega) (by rw [ZrX];omega),ZtL,Zsc,Zsc,Zsa,ZrY h]
 rfl
noncomputable def JA (a:aN) (K:Zrk) (E:XK):TS:=(aD (cQ (kq (bK (ag (cf fun i j=>.bl (decide (i<j))) (aa 1) (tC (.int 0)))) (bK (ag (cf fun i j=>.bl (decide (j<=i))) (aa 1) (dk (iB K) (ah (ic K (aa 0) "levels") aq))))) (qt a.bg (ah (tC (.str "no knot of these labels")) aq) E) dI)
  (cn (ag (bJ K) (ic K (aa 0) "levels") (aa 1))))
theorem Vc (T:Txt K mg a):TX P w K mg base 0 "Labels.label" DV QZ a.cY (JA a K) :=
 fun hr=>(aG (da (PW.pt (lK (cA oZ (cv 1) ax (cw _)) (nI (cA oK (cv 1) (dU jw (by rfl) T.bj PySem.boot_len (ai (iK (cv 0) rfl) av)) (cw _))))) (aI (xT ZrS T.xi_NoKnot (by decide) rfl T.eY rfl pP (ai sG av))) d5)
   (aI (cG (bP bQ (iK (cv 0) rfl) (cv 1) (fun _ _=>rfl)))))
theorem WA (T:Txt K mg a):aK P w K mg base (gZ P w) 1 a.cY a.eV ["self","knot"] (NL a K):=by
 refine T.cV.n.jg Zgr (Vc T) (fun vs H Q E h=>?_) (fun H vs Q E h=>?_)
 ·obtain ⟨x,dx,ll,fc,fw,m,k,az,aY,aH,rfl,_⟩:=h;rfl
 ·obtain ⟨x,dx,ll,fc,fw,m,k,az,aY,aH,rfl,hL,q1,q0⟩:=h
  show JA a K E _ [some (.ref x),some (.int k)] H
  unfold JA
  walk_at "gs"
  by_cases h0:k<0
  ·rw [if_pos h0]
   exact ⟨by show 1<=sizeLine;decide,q0 (by omega)⟩
  rw [if_neg h0]
  refine ⟨x,a.ae,dx,_,_,rfl,hL.ins,T.aA,T.aM,rfl,.inl ⟨_,.inl (.of hL.lst),?_⟩⟩
  rw [ZrX]
  by_cases h1:(az.length:Int)<=k
  ·rw [if_pos h1]
   exact ⟨by show 1<=sizeLine;decide,q0 (by omega)⟩
  rw [if_neg h1]
  obtain ⟨n,rfl⟩:=ZtM (by omega:0<=k)
  refine ⟨x,a.ae,dx,_,_,rfl,hL.ins,T.aA,T.aM,rfl,_,_,.inl (.of hL.lst),vD (by omega),q1 n rfl (by omega)⟩
noncomputable def Pz (a:aN) (_:Zrk):Sp:=fun vs H Q E=>∃ (x dx ll fc fw:Addr) (m:Nat) (k:Int) (az:List Nat) (aY aH:List Addr),vs=[.ref x,.int k]/\fC a.ae H x dx ll fc fw m az aY aH/\(m<k/\k<m+1+aY.length->Q .non H)/\(¬ (m<k/\k<m+1+aY.length)->∀ e,H e=none->E (.ref e) (some a.bg) H)
theorem ZqV {m:Nat}{aY:List Addr}{k:Int}:(gO (gu (m+1) aY) (.inl k)).isSome=decide (m<k/\k<m+1+aY.length):=by
 rw [GW]
 by_cases h:((m+1:Nat):Int)<=k
 ·rw [if_pos h,Option.isSome_map]
  by_cases g:(k - ((m+1:Nat):Int)).toNat<aY.length
  ·rw [ZrY g,decide_eq_true (by omega)];rfl
  ·rw [Zsu (by omega),decide_eq_false (by omega)];rfl
 ·rw [if_neg h,decide_eq_false (by omega)];rfl
noncomputable def JZ (a:aN) (K:Zrk) (E:XK):TS:=(cQ (bK (rC (aa 1) (ic K (aa 0) "found_cuts"))) (qt a.bg (ah (tC (.str "no and-knot of these labels")) aq) E) dI)
theorem Zc2 (T:Txt K mg a):TX P w K mg base 0 "Labels.need_and_knot" DX QR a.bD (JZ a K) :=
 fun hr=>(aI (da (rn (zh (gK hr) (cv 1) (iK (cv 0) rfl))) (aI (xT ZrS T.xi_NoKnot (by decide) rfl T.eY rfl pP (ai sG av))) d5))
theorem UT (T:Txt K mg a):aK P w K mg base (gZ P w) 1 a.bD a.cg ["self","knot"] (Pz a K):=by
 refine T.bB.n.jg VJ (Zc2 T) (fun vs H Q E h=>?_) (fun H vs Q E h=>?_)
 ·obtain ⟨x,dx,ll,fc,fw,m,k,az,aY,aH,rfl,_⟩:=h;rfl
 ·obtain ⟨x,dx,ll,fc,fw,m,k,az,aY,aH,rfl,hL,q1,q0⟩:=h
  show JZ a K E _ [some (.ref x),some (.int k)] H
  unfold JZ
  walk_at "gs"
  refine ⟨x,a.ae,dx,_,_,rfl,hL.ins,T.aA,T.bM,rfl,fc,_,rfl,g9.k (k:=.inl k) hL.fX,?_⟩
  rw [ZqV]
  by_cases h:m<k/\k<m+1+aY.length
  ·rw [decide_eq_true h]
   walk_at "gs"
   exact q1 h
  ·rw [decide_eq_false h]
   walk_at "gs"
   exact q0 h
noncomputable def lR (lo:Nat->List Nat) (lv:Nat->Nat) (s k:Nat) (ws:List (List Nat)):Prop :=
 (lv k=1/\ws=[])\/(2<=lv k/\ws.length=s+1/\∃ (goal:Nat->Prop) (ab:MZ.Ab) (ss:List Nat),MZ.Flow lo goal ab/\(∀ z,goal z->ML.Dn lo k z/\lv k<=lv z+1)/\(∀ p,ab p≠none->ML.Dn lo k p/\lv p+2<=lv k)/\ss.Pairwise (· < ·)/\(∀ t,t∈ss ↔ lo t=[]/\ab t≠none)/\ws.length=ss.length/\∀ (i:Nat) t w,ss[i]? = some t->ws[i]? = some w->iU ab t w)
theorem lR.pos {lo:Nat->List Nat}{lv:Nat->Nat}{s k:Nat}{ws:List (List Nat)} (h:lR lo lv s k ws):0<ws.length ↔ 1<lv k:=by
 rcases h with ⟨h1,h2⟩ | ⟨h1,h2,_⟩
 ·rw [h2,h1];simp
 ·omega
theorem lR.ext {lo:Nat->List Nat}{lv Al:Nat->Nat}{s k:Nat}{ws:List (List Nat)} (aX:∀ p l,l∈lo p->l<p) (h:lR lo lv s k ws) (he:∀ x,x<=k->Al x=lv x):lR lo Al s k ws:=by
 have ek:=he k (Zts _)
 rcases h with ⟨h1,h2⟩ | ⟨h1,h2,goal,ab,ss,F,hg,hp,r1,r2,r3,r4⟩
 ·exact .inl ⟨by rw [ek];exact h1,h2⟩
 ·exact .inr ⟨by rw [ek];exact h1,h2,goal,ab,ss,F,fun z hz=>⟨(hg z hz).1,by rw [ek,he z ((hg z hz).1.le aX)];exact (hg z hz).2⟩,fun p hd=>⟨(hp p hd).1,by rw [ek,he p ((hp p hd).1.le aX)];exact (hp p hd).2⟩,r1,r2,r3,r4⟩
theorem lR.up {lo:Nat->List Nat}{lv:Nat->Nat}{s k l:Nat}{ws:List (List Nat)} (h:lR lo lv s l ws) (hl:l∈lo k) (e:lv k=lv l):lR lo lv s k ws:=by
 have d:ML.Dn lo k l:=.low .here hl
 rcases h with ⟨h1,h2⟩ | ⟨h1,h2,goal,ab,ss,F,hg,hp,r1,r2,r3,r4⟩
 ·exact .inl ⟨by rw [e];exact h1,h2⟩
 ·exact .inr ⟨by rw [e];exact h1,h2,goal,ab,ss,F,fun z hz=>⟨d.trans (hg z hz).1,by rw [e];exact (hg z hz).2⟩,fun p hd=>⟨d.trans (hp p hd).1,by rw [e];exact (hp p hd).2⟩,r1,r2,r3,r4⟩
structure dN (C:Addr) (S:Addr->Prop) (H:Hp) (x dx ll fc fw:Addr) (m:Nat) (P:List MF.Pr) (s:Nat) (az:List Nat) (aY aH:List Addr) (eZ:List (List Nat)) (dG:List (List (List Nat))):Prop where
 at_:fC C H x dx ll fc fw m az aY aH
 nf:fc≠fw
 Gk:S ll
 qR:∀ b,S b->∃ o,H b=some o
 len:az.length=m+1+aY.length
 wl:aY.length=aH.length
 cl:aY.length=eZ.length
 sl:aH.length=dG.length
 low:∀ k,k<=m->az.getD k 0=0
 cut:∀ (i:Nat) c C,aY[i]? = some c->eZ[i]? = some C->H c=some (.lst (C.map nv))/\¬ S c
 way:∀ (i:Nat) w ws,aH[i]? = some w->dG[i]? = some ws->∃ us,bX H w us ws/\¬ S w/\∀ u∈us,¬ S u
 sh:∀ (i:Nat) C,eZ[i]? = some C->ML.pd (aW (dh m P)) (fun k=>az.getD k 0) s (m+1+i) C
 zS:∀ (i:Nat) ws,dG[i]? = some ws->lR (aW (dh m P)) (fun k=>az.getD k 0) s (m+1+i) ws
theorem lP.lst {ll fc fw b:Addr}{H H':Hp}{xs:List V}{ks BX:List (Key × V)} (u:lP ll fc fw H H') (hc:H fc=some (.dK ks)) (hw:H fw=some (.dK BX)) (e:H b=some (.lst xs)) (n:b≠ll):H' b=some (.lst xs) :=
 u b _ n (cZ e hc (fun z=>nomatch z)) (cZ e hw (fun z=>nomatch z)) e
theorem bX.C6 {ll fc fw w:Addr}{H H':Hp}{us:List Addr}{ws:List (List Nat)}{ks BX:List (Key × V)} (h:bX H w us ws) (u:lP ll fc fw H H') (hc:H fc=some (.dK ks)) (hw:H fw=some (.dK BX)) (n:w≠ll) (nu:∀ u∈us,u≠ll):bX H' w us ws :=
 ⟨u.lst hc hw h.lst n,h.len,fun i r y hr hy=>u.lst hc hw (h.at_ i r y hr hy) (nu r (Zr5 hr))⟩
theorem bC.C6 {ll fc fw w:Addr}{H H':Hp}{us:List Addr}{ws:List (List Nat)}{ks BX:List (Key × V)} (h:bC H w us ws) (u:lP ll fc fw H H') (hc:H fc=some (.dK ks)) (hw:H fw=some (.dK BX)) (n:w≠ll) (nu:∀ u∈us,u≠ll):bC H' w us ws :=
 ⟨u.lst hc hw h.lst n,h.len,fun i r y hr hy=>u.lst hc hw (h.at_ i r y hr hy) (nu r (Zr5 hr))⟩
theorem bX.same {H H':Hp}{w:Addr}{us:List Addr}{ws:List (List Nat)} (h:bX H w us ws) (s:aP H H'):bX H' w us ws :=
 ⟨s _ _ h.lst,h.len,fun i r y hr hy=>s _ _ (h.at_ i r y hr hy)⟩
theorem ou {xs:List Nat}{y k:Nat} (h:k<xs.length):(xs ++ [y]).getD k 0=xs.getD k 0:=by
 rw [Zsc,Zsc,Zse h]
theorem Vh {xs:List Nat}{y k:Nat} (h:k=xs.length):(xs ++ [y]).getD k 0=y:=by
 subst h
 rw [Zsc,Zsi (Zts _),Zty]
 rfl
theorem Qk {xs:List Nat}{y k:Nat}:xs.getD k 0<=(xs ++ [y]).getD k 0:=by
 rcases Ztt k xs.length with z | z
 ·rw [ou z];exact Zts _
 ·rw [Zsc,Zsu z];exact Ztx _
theorem ra {α:Type}{xs:List α}{y z:α}{i:Nat} (h:(xs ++ [y])[i]? = some z):xs[i]? = some z\/(i=xs.length/\z=y):=by
 rcases ZtK i xs.length with w | w | w
 ·rw [Zse w] at h;exact .inl h
 ·subst w
  rw [Zsi (Zts _),Zty] at h
  cases h
  exact .inr ⟨rfl,rfl⟩
 ·rw [Zsu (by rw [Zr0,Zsk];omega)] at h
  cases h
theorem dN.same {C:Addr}{S:Addr->Prop}{H H':Hp}{x dx ll fc fw:Addr}{m:Nat}{P:List MF.Pr}{s:Nat}{az:List Nat}{aY aH:List Addr}{eZ:List (List Nat)}{dG:List (List (List Nat))} (h:dN C S H x dx ll fc fw m P s az aY aH eZ dG) (st:aP H H'):dN C S H' x dx ll fc fw m P s az aY aH eZ dG :=
 ⟨h.at_.same st,h.nf,h.Gk,fun b hb=>by obtain ⟨o,ho⟩:=h.qR b hb;exact ⟨o,st _ _ ho⟩,h.len,h.wl,h.cl,h.sl,h.low,fun i c C hc hC=>⟨st _ _ (h.cut i c C hc hC).1,(h.cut i c C hc hC).2⟩,fun i w ws hw hs=>by
  obtain ⟨us,h1,h2,h3⟩:=h.way i w ws hw hs
  exact ⟨us,h1.same st,h2,h3⟩,h.sh,h.zS⟩
theorem dN.more {C:Addr}{S:Addr->Prop}{H H':Hp}{x dx ll fc fw c w:Addr}{m:Nat}{P:List MF.Pr}{s fG:Nat}{az:List Nat}{aY aH:List Addr}{eZ:List (List Nat)}{dG:List (List (List Nat))}{Cn:List Nat}{ws:List (List Nat)} (h:dN C S H x dx ll fc fw m P s az aY aH eZ dG) (ok:MF.Ok m P)
  (u:lP ll fc fw H H') (h':fC C H' x dx ll fc fw m (az ++ [fG]) (aY ++ [c]) (aH ++ [w])) (hc:H' c=some (.lst (Cn.map nv))) (nc:¬ S c) (hw:∃ us,bX H' w us ws/\¬ S w/\∀ u∈us,¬ S u)
  (MG:ML.pd (aW (dh m P)) (fun k=>(az ++ [fG]).getD k 0) s (m+1+aY.length) Cn) (Ju:lR (aW (dh m P)) (fun k=>(az ++ [fG]).getD k 0) s (m+1+aY.length) ws) :
  dN C S H' x dx ll fc fw m P s (az ++ [fG]) (aY ++ [c]) (aH ++ [w]) (eZ ++ [Cn]) (dG ++ [ws]):=by
 have mz:=Ah ok
 have hl:=h.len
 have jL:=h.cl
 have kW:=h.wl
 have xF:=h.sl
 have nl:∀ {b:Addr},¬ S b->b≠ll:=fun nb e=>nb (e ▸ h.Gk)
 refine ⟨h',h.nf,h.Gk,fun b hb=>?_,?_,?_,?_,?_,fun k hk=>?_,fun i c' C' hc' hC'=>?_,fun i w' ws' hw' dD=>?_,fun i C' hC'=>?_,fun i ws' dD=>?_⟩
 ·by_cases e1:b=ll
  ·exact ⟨_,e1 ▸ h'.lst⟩
  by_cases e2:b=fc
  ·exact ⟨_,e2 ▸ h'.fX⟩
  by_cases e3:b=fw
  ·exact ⟨_,e3 ▸ h'.cW⟩
  obtain ⟨o,ho⟩:=h.qR b hb
  exact ⟨o,u b o e1 e2 e3 ho⟩
 ·simp only [Zr0,Zsk];omega
 ·simp only [Zr0,Zsk];omega
 ·simp only [Zr0,Zsk];omega
 ·simp only [Zr0,Zsk];omega
 ·rw [ou (by omega)];exact h.low k hk
 ·rcases ra hc' with z | ⟨z,rfl⟩
  ·have:=(Zr1.mp z).1
   rcases ra hC' with y | ⟨y,_⟩
   ·have:=h.cut i c' C' z y
    exact ⟨u.lst h.at_.fX h.at_.cW this.1 (nl this.2),this.2⟩
   ·omega
  ·rcases ra hC' with y | ⟨_,rfl⟩
   ·have:=(Zr1.mp y).1;omega
   ·exact ⟨hc,nc⟩
 ·rcases ra hw' with z | ⟨z,rfl⟩
  ·have:=(Zr1.mp z).1
   rcases ra dD with y | ⟨y,_⟩
   ·obtain ⟨us,h1,h2,h3⟩:=h.way i w' ws' z y
    exact ⟨us,h1.C6 u h.at_.fX h.at_.cW (nl h2) (fun u hu=>nl (h3 u hu)),h2,h3⟩
   ·omega
  ·rcases ra dD with y | ⟨_,rfl⟩
   ·have:=(Zr1.mp y).1;omega
   ·exact hw
 ·rcases ra hC' with y | ⟨rfl,rfl⟩
  ·have:=(Zr1.mp y).1
   exact (h.sh i C' y).ext mz.lt (fun k hk=>ou (by omega)) (fun k=>Qk)
  ·rw [<- jL];exact MG
 ·rcases ra dD with y | ⟨rfl,rfl⟩
  ·have:=(Zr1.mp y).1
   exact (h.zS i ws' y).ext mz.lt (fun k hk=>ou (by omega))
  ·rw [<- xF,<- kW];exact Ju
theorem dN.less {C:Addr}{S S':Addr->Prop}{H:Hp}{x dx ll fc fw:Addr}{m:Nat}{P:List MF.Pr}{s:Nat}{az:List Nat}{aY aH:List Addr}{eZ:List (List Nat)}{dG:List (List (List Nat))} (h:dN C S H x dx ll fc fw m P s az aY aH eZ dG) (hl:S' ll) (hs:∀ b,S' b->S b):dN C S' H x dx ll fc fw m P s az aY aH eZ dG :=
 ⟨h.at_,h.nf,hl,fun b hb=>h.qR b (hs b hb),h.len,h.wl,h.cl,h.sl,h.low,fun i c C hc hC=>⟨(h.cut i c C hc hC).1,fun z=>(h.cut i c C hc hC).2 (hs _ z)⟩,fun i w ws hw dD=>by
  obtain ⟨us,h1,h2,h3⟩:=h.way i w ws hw dD
  exact ⟨us,h1,fun z=>h2 (hs _ z),fun u hu z=>h3 u hu (hs _ z)⟩,h.sh,h.zS⟩
noncomputable def GJ (a:aN) (_:Zrk):Sp:=fun vs H Q E=>∃ (x dx ll fc fw:Addr) (m:Nat) (k:Int) (az:List Nat) (aY aH:List Addr) (dG:List (List (List Nat))),vs=[.ref x,.int k]/\fC a.ae H x dx ll fc fw m az aY aH/\aY.length=aH.length/\aH.length=dG.length/\(∀ (i:Nat) w ws,aH[i]? = some w->dG[i]? = some ws->ws.length<=100/\∃ us,bX H w us ws) /\
 (∀ (i:Nat) ws,k=((m+1+i:Nat):Int)->dG[i]? = some ws->∀ q us H',aP H H'->H q=none->(∀ u∈us,H u=none/\u≠q)->bX H' q us ws->Q (.ref q) H')/\(¬ (m<k/\k<m+1+aY.length)->∀ e,H e=none->E (.ref e) (some a.bg) H)
noncomputable def Mi (a:aN) (K:Zrk) (E:XK):TS:=(aD (fW (gq a.ae "need_and_knot" (Pz a K) [] E (aa 0) (ah (aa 1) aq)))
  (cn (jn (jt K (pE (ic K (aa 0) "found_ways") (aa 1))) 1 [] (aE 0) lx (dk (Hu K) (ah (aa 0) aq)))))
theorem XZ (T:Txt K mg a):TX P w K mg base 1 "Labels.ways" yY I0 a.dE (Mi a K) :=
 fun hr=>(aG (gB (lg (cv 0) T.aA T.bB.e (UT T) (hm hr) T.bB.b .nil (MD pP) (ai (cv 1) av)))
   (aI (cG (ze (N:=["way"]) (k:=1) (sel:=[]) (aT.of (bx yY).names (by decide +kernel)) (bA.of I0 (by decide +kernel)) rfl (kM (tj (gK hr) (iK (cv 0) rfl) (cv 1) (fun _ _=>rfl))) (fun _ _ _ _=>(dP (i:=0) (show Zss (["way"]:List Str) by decide +kernel) rfl (by walk_at "o"))) (fun _ _ _ _=>sR) (fun _ _ _ _=>(IA xB (by rfl) T.gf PyProof.Rows.boot_list (ai (cv 0) av)))))))
theorem Tg (T:Txt K mg a):aK P w K mg base (gZ P w) 2 a.dE a.fE ["self","knot"] (GJ a K):=by
 refine T.bV.n.jg UQ (XZ T) (fun vs H Q E h=>?_) (fun H vs Q E h=>?_)
 ·obtain ⟨x,dx,ll,fc,fw,m,k,az,aY,aH,dG,rfl,_⟩:=h;rfl
 ·obtain ⟨x,dx,ll,fc,fw,m,k,az,aY,aH,dG,rfl,hL,jL,kW,jV,q1,q0⟩:=h
  show Mi a K E _ [some (.ref x),some (.int k)] H
  unfold Mi
  have big:(20000:Nat)<=sizeLine:=by decide
  walk_at "gs"
  refine ⟨x,dx,_,rfl,hL.ins,rfl,x,dx,ll,fc,fw,m,k,az,aY,aH,rfl,hL,fun hk=>?_,q0⟩
  obtain ⟨i,rfl⟩:∃ i:Nat,k=((m+1+i:Nat):Int):=⟨(k - m - 1).toNat,by omega⟩
  have hi:i<aH.length:=by omega
  have hv:gO (gu (m+1) aH) (.inl ((m+1+i:Nat):Int))=some (.ref aH[i]):=by
   rw [GW,if_pos (by omega),show (((m+1+i:Nat):Int) - ((m+1:Nat):Int)).toNat=i by omega,ZrY hi]
   rfl
  obtain ⟨ws,hws⟩:∃ ws,dG[i]? = some ws:=⟨_,ZrY (by omega)⟩
  obtain ⟨Ri,us,hW⟩:=jV i _ _ (ZrY hi) hws
  have q:=q1 i ws rfl hws
  have g:=g9.k (k:=.inl ((m+1+i:Nat):Int)) hL.cW
  rw [hv] at g
  walk_at "gs"
  refine ⟨x,a.ae,dx,_,_,rfl,hL.ins,T.aA,T.bh,rfl,fw,_,rfl,g,?_⟩
  generalize aH[i]=w at hW
  walk_at "gs"
  refine ⟨⟨_,.of hW.lst⟩,fun cp hcp=>OH (n:=(us.map V.ref).length) (item:=fun i=>(us.map V.ref).getD i .non) (fun σ=>∃ v0,σ=[v0]) (fun i H3=>aP H H3/\∃ qs:List Addr,H3 cp=some (.lst (qs.map V.ref))/\qs.length=i/\(∀ u∈qs,H u=none/\u≠cp)/\∀ (j:Nat) u y,qs[j]? = some u->ws[j]? = some y->H3 u=some (.lst (y.map nv))) ⟨_,rfl⟩ ⟨kz hcp,[],cz,rfl,fun u hu=>by simp at hu,fun j u y hu=>by simp at hu⟩ (HA (xs:=us.map V.ref) ?_) ?_ ?_ ?_⟩
  ·rintro i H3 _ ⟨s3,_⟩
   exact .of (s3 _ _ hW.lst)
  ·rintro H3 ⟨s3,_⟩
   exact ⟨_,.of (s3 _ _ hW.lst),Zts _⟩
  ·rintro j σ3 H3 R hj ⟨v0,rfl⟩ ⟨s3,qs,h3,nR,hun,hq⟩ hR
   rw [ZrX] at hj
   have RU:us[j]? = some us[j]:=ZrY hj
   have NZ:ws[j]? = some (ws[j]'(by have:=hW.len;omega)):=ZrY _
   have hu:=s3 _ _ (hW.at_ j _ _ RU NZ)
   rw [show (us.map V.ref).getD j .non=.ref us[j] by rw [Zsc,Zsa,RU];rfl]
   walk_at "gs"
   refine ⟨_,.inl (.of hu),fun l4 H4 n4=>?_⟩
   have Fi:l4≠cp:=(cq h3 n4.aH).symm
   have R0:=hW.len
   refine ⟨_,n4.same _ _ h3,by rw [ZrX];omega,hR _ _ ⟨_,rfl⟩ ⟨(s3.trans n4.same).put hcp,qs ++ [l4],by rw [cz,Zr4];rfl,by rw [Zr0,nR];rfl,fun u hu=>?_,fun t u y hu hy=>?_⟩⟩
   ·rcases Zr3.mp hu with z | z
    ·exact hun u z
    ·rw [Zr2] at z
     rw [z];exact ⟨s3.nil n4.aH,Fi⟩
   ·by_cases ht:t<j
    ·rw [Zse (by omega)] at hu
     rw [aQ (hun u (Zr5 hu)).2]
     exact n4.same _ _ (hq t u y hu hy)
    ·have htl:t<qs.length+1:=by have:=(Zr1.mp hu).1;rwa [Zr0] at this
     have Uw:t=qs.length:=by omega
     subst Uw
     rw [Zsi (Zts _),Zty] at hu
     cases hu
     rw [nR,NZ] at hy
     cases hy
     rw [aQ Fi]
     exact n4.at_
  rintro H3 ⟨s3,qs,h3,nR,hun,hq⟩
  rw [ZrX] at nR
  exact q cp qs H3 s3 hcp hun ⟨h3,by rw [nR];exact hW.len,hq⟩
theorem Up {v:Nat}{r:List Nat}:fJ ((v :: r).map nv) 0=some (nv v):=by
 rw [oS .non (by omega) (by rw [ZrX,Zsf];omega)]
 rfl
theorem Lr:∀ l:List Nat,(jc l).map ZtQ=l
 | []=>rfl
 | x :: r=>by
  show (ZtQ (x:Int)) :: (jc r).map ZtQ=x :: r
  rw [Lr r,ZtL]
theorem Zo3 {xs ys:List Nat} (h:jc xs=jc ys):xs=ys:=by rw [<- Lr xs,h,Lr]
theorem dN.mono {C:Addr}{S:Addr->Prop}{H:Hp}{x dx ll fc fw:Addr}{m:Nat}{P:List MF.Pr}{s:Nat}{az:List Nat}{aY aH:List Addr}{eZ:List (List Nat)}{dG:List (List (List Nat))} (h:dN C S H x dx ll fc fw m P s az aY aH eZ dG):∀ y,y<m+1+aY.length->∀ l∈aW (dh m P) y,az.getD l 0<=az.getD y 0:=by
 intro y hy l hl
 obtain ⟨j,p,rfl,hp,_⟩:=GI hl
 have hj:j<eZ.length:=by have:=h.cl;omega
 exact (h.sh j _ (ZrY hj)).mono l hl
noncomputable def R7 (a:aN) (_:Zrk):Sp:=fun vs H Q _=>∃ (S:Addr->Prop) (x dx ll fc fw mp ip:Addr) (rs:List Addr) (m s:Nat) (P:List MF.Pr) (az:List Nat) (aY aH:List Addr) (eZ:List (List Nat)) (dG:List (List (List Nat))),vs=[.ref x,.ref mp,.ref ip,.int s]/\dN a.ae S H x dx ll fc fw m P s az aY aH eZ dG/\aY.length<P.length/\MF.Ok m P/\m+1+P.length<=1000/\2<=s/\s<=6/\bC H mp rs (dh m P)/\mp≠ll/\(∀ r∈rs,¬ S r)/\H ip=some (.lst ((MF.o5 m P (m+1+aY.length)).map nv)) /\
 ∀ H' lvs' cas' was' css' wss',lP ll fc fw H H'->dN a.ae S H' x dx ll fc fw m P s lvs' cas' was' css' wss'->cas'.length=aY.length+1->Q .non H'
noncomputable abbrev Z8 (a:aN) (K:Zrk):TS:=(aD (fW (gq a.ae "keep" (GG a K) [] E0 (aa 0) (ah (aa 4) (ah (tC (.int 1)) (ah (aa 5) (ah (ik aq) aq))))))
  JV)
noncomputable abbrev Zn (a:aN) (K:Zrk):TS:=(aD (bb (jn (jt K (aa 5)) 1 [0,6] (aE 0) (bK (ag (gU K) (ag (bJ K) (ic K (aa 1) "levels") (aa 0)) (aa 2))) (aa 0)) (aE 9))
  (fW (gq a.ae "keep" (GG a K) [] E0 (aa 0) (ah (aa 4) (ah (aa 6) (ah (ag (bJ K) (aa 8) (tC (.int 1))) (ah (pE (ic K (aa 0) "found_ways") (ag (bJ K) (aa 9) (tC (.int 0)))) aq)))))))
noncomputable abbrev Uy (a:aN) (K:Zrk):TS:=(cQ (bK (ag vd (ag (bJ K) (aa 8) (tC (.int 1))) (tC .non))) (fW (gq a.ae "keep" (GG a K) [] E0 (aa 0) (ah (aa 4) (ah (ag ef (aa 6) (tC (.int 1))) (ah (aa 5) (ah (ag (bJ K) (aa 8) (tC (.int 0))) aq)))))) (aO (Zn a K)))
noncomputable abbrev Ze0 (a:aN) (K:Zrk):TS:=(aD (bb (cP (O9 a K) [] E0 (ah (aa 1) (ah (aa 7) (ah (aa 3) aq)))) (aE 8))
  (aO (Uy a K)))
noncomputable abbrev VN (a:aN) (K:Zrk):TS:=(aD (bb (jn (jt K (aa 2)) 1 [4,0,6] (aE 0) (kq (bK (ag (gU K) (aa 0) (aa 1))) (bK (ag (gU K) (ag (bJ K) (ic K (aa 2) "levels") (aa 0)) (aa 3)))) (aa 0)) (aE 7))
  (aO (Ze0 a K)))
noncomputable abbrev ZeY (a:aN) (K:Zrk):TS:=(aD (bb (dk (Nd K) (ah (jn (jt K (aa 5)) 1 [0] (aE 0) lx (ag (bJ K) (ic K (aa 1) "levels") (aa 0))) aq)) (aE 6))
  (aD (cQ (bK (ag (gU K) (aa 6) (tC (.int 0)))) (aO (Z8 a K)) dI)
  (aO (VN a K))))
noncomputable def Mj (a:aN) (K:Zrk):TS:=(aD (bb (ag (bJ K) (aa 2) (tu rS (tC (.int 1)))) (aE 4))
  (aD (bb (ag (bJ K) (aa 1) (aa 4)) (aE 5))
  (aO (ZeY a K))))
theorem Zk (T:Txt K mg a):TM P w K mg base 4 "Labels.settle" sO F3 a.cO (Mj a K) :=
 fun hr=>(aG (bI (i:=4) yF.nd rfl (by walk_at "o") (bP bQ (cv 2) (zO Ae ax) (fun _ _=>rfl)))
   (aG (bI (i:=5) yF.nd rfl (by walk_at "o") (bP bQ (cv 1) (cv 4) (fun _ _=>rfl)))
   (aV (aG (bI (i:=6) yF.nd rfl (by walk_at "o") (dU (wM rfl) (by rfl) T.iR PyProof.Rows.boot_max (ai (ze (N:=["lower","self"]) (k:=1) (sel:=[0]) (aT.of (bx sO).names (by decide +kernel)) (bA.of F3 (by decide +kernel)) rfl (kM (cv 5)) (fun _ _ _ _=>(dP (i:=0) (show Zss (["lower","self"]:List Str) by decide +kernel) rfl (by walk_at "o"))) (fun _ _ _ _=>sR) (fun _ _ _ _=>(bP bQ (iK (cv 1) rfl) (cv 0) (fun _ _=>rfl)))) av)))
   (aG (da (cA (iq (gr hr)) (cv 6) ax (cw _)) (aV (aG (gB (lg (cv 0) T.aA T.br.e (Ms T) (hm hr) T.br.b .nil bZ (ai (cv 4) (ai ax (ai (cv 5) (ai (jo av) av))))))
   (aI XG))) d5)
   (aV (aG (xE (i:=7) (N:=["lower","knot","self","greatest"]) (k:=1) (sel:=[4,0,6]) (aT.of (bx sO).names (by decide +kernel)) (bA.of F3 (by decide +kernel)) rfl (kM (cv 2)) (fun _ _ _ _=>(dP (i:=0) (show Zss (["lower","knot","self","greatest"]:List Str) by decide +kernel) rfl (by walk_at "o"))) (fun _ _ _ _=>(AH (PW.pt (lK (cA (iq (gr hr)) (cv 0) (cv 1) (cw _)) (nI (cA (iq (gr hr)) (bP bQ (iK (cv 2) rfl) (cv 0) (fun _ _=>rfl)) (cv 3) (cw _))))))) (fun _ _ _ _=>(cv 0)) yF.nd rfl (by walk_at "o") rfl)
   (aV (aG (bI (i:=8) yF.nd rfl (by walk_at "o") (dg T.lN (Zo0 T) (hm hr) oY (ai (cv 1) (ai (cv 7) (ai (cv 3) av)))))
   (aV (aI (da (cA og (bP bQ (cv 8) ax (fun _ _=>rfl)) kg (cw _)) (aI (gB (lg (cv 0) T.aA T.br.e (Ms T) (hm hr) T.br.b .nil bZ (ai (cv 4) (ai (aB eC (cv 6) ax) (ai (cv 5) (ai (bP bQ (cv 8) ax (fun _ _=>rfl)) av))))))) (aV (aG (xE (i:=9) (N:=["lower","self","greatest"]) (k:=1) (sel:=[0,6]) (aT.of (bx sO).names (by decide +kernel)) (bA.of F3 (by decide +kernel)) rfl (kM (cv 5)) (fun _ _ _ _=>(dP (i:=0) (show Zss (["lower","self","greatest"]:List Str) by decide +kernel) rfl (by walk_at "o"))) (fun _ _ _ _=>(AH (cA (iq (gr hr)) (bP bQ (iK (cv 1) rfl) (cv 0) (fun _ _=>rfl)) (cv 2) (cw _)))) (fun _ _ _ _=>(cv 0)) yF.nd rfl (by walk_at "o") rfl)
   (aI (gB (lg (cv 0) T.aA T.br.e (Ms T) (hm hr) T.br.b .nil bZ (ai (cv 4) (ai (cv 6) (ai (bP bQ (cv 8) ax (fun _ _=>rfl)) (ai (tj (gK hr) (iK (cv 0) rfl) (bP bQ (cv 9) ax (fun _ _=>rfl)) (fun _ _=>rfl)) av)))))))))))))))))))))
theorem Y4 (T:Txt K mg a):aK P w K mg base dQ 5 a.cO a.d7 ["self","maze","inner","size"] (R7 a K):=by
 refine T.cI.n.fg yF (Zk T) (fun vs H Q E h=>?_) (fun H vs Q E h=>?_)
 ·obtain ⟨S0,x,dx,ll,fc,fw,mp,ip,rs,m,s,P,az,aY,aH,eZ,dG,rfl,_⟩:=h;rfl
 ·obtain ⟨S0,x,dx,ll,fc,fw,mp,ip,rs,m,s,P',az,aY,aH,eZ,dG,rfl,hL,aX,ok,hn,s2,s6,hM,Ik,LR,hI,q⟩:=h
  show Mj a K _ [some (.ref x),some (.ref mp),some (.ref ip),some (.int s),none,none,none,none,none,none] H
  unfold Mj
  have big:(20000:Nat)<=sizeLine:=by decide
  have mz:=Ah ok
  have hlen:=hL.len
  have hN:m+1+aY.length<1+m+P'.length:=by omega
  obtain ⟨cv,hcv⟩:=XM ok hN
  have hI':=hI
  rw [hcv] at hI'
  obtain ⟨p,hp⟩:∃ p,P'[aY.length]? = some p:=⟨_,ZrY aX⟩
  obtain ⟨o1,o2,o3,o4⟩:=ok _ _ hp
  have fj:=pJ (m:=m) hp
  obtain ⟨r,hr1,hr2⟩:=hM.get (i:=m+1+aY.length) (by rw [r6];omega)
  rw [fj] at hr2
  obtain ⟨lowa,Bb⟩:∃ l:Nat,l=(p.1 / 2).toNat:=⟨_,rfl⟩
  obtain ⟨lowb,hlb⟩:∃ l:Nat,l=(p.2 / 2).toNat:=⟨_,rfl⟩
  rw [<- Bb,<- hlb] at hr2 fj
  have la:lowa<m+1+aY.length:=by omega
  have lb:lowb<m+1+aY.length:=by omega
  have sh:lowa<lowb:=by omega
  walk_at "gs"
  refine ⟨_,_,.inl (.of hI'),GX,?_⟩
  generalize hNN:m+1+aY.length=N at *
  unfold nv
  walk_at "gs"
  refine ⟨_,_,.inl (.of hM.lst),hr1,?_⟩
  walk_at "gs"
  refine ⟨⟨_,.of hr2⟩,PV (fun v=>match v with | .int l=>nv (az.getD l.toNat 0) | _=>.non) (.of hr2) rfl (by rw [ZrX];show 2<=_;omega) ?_ ?_⟩
  ·intro v H' Q' hv s' q'
   obtain ⟨l,hl,rfl⟩:=Zr8.mp hv
   have hl':l<az.length:=by
    rcases Zr7.mp hl with z | z
    ·omega
    ·rw [Zr2] at z;omega
   have q':Q' (nv (az.getD l 0)) H':=q'
   unfold nv
   walk_at "gs"
   exact ⟨x,a.ae,dx,_,_,rfl,s' _ _ hL.at_.ins,T.aA,T.aM,rfl,_,_,.inl (.of (s' _ _ hL.at_.lst)),vD hl',q'⟩
  intro l1 H1 n1
  have zd:=hL.same n1.same
  have Ug:=hM.same n1.same
  have P7:=n1.same _ _ hI
  refine ⟨[(az.getD lowa 0:Nat),(az.getD lowb 0:Nat)],.of n1.at_,by simp,fun M hMm hMx=>?_⟩
  obtain ⟨g,rfl⟩:∃ g:Nat,M=g:=by
   rcases Zr7.mp hMm with z | z
   ·exact ⟨_,z⟩
   ·rw [Zr2] at z;exact ⟨_,z⟩
  have ga:az.getD lowa 0<=g:=by have:=hMx _ (Zsl ..);omega
  have gb:az.getD lowb 0<=g:=by have:=hMx _ (Zso _ (Zr2.mpr rfl));omega
  have gg:az.getD lowa 0=g\/az.getD lowb 0=g:=by
   rcases Zr7.mp hMm with z | z
   ·exact .inl (by omega)
   ·rw [Zr2] at z;exact .inr (by omega)
  have jf:aW (dh m P') N≠[]:=by rw [fj];simp
  have CM:(aW (dh m P') N).Pairwise (· < ·):=by rw [fj];simpa using sh
  have oj:(aW (dh m P') N).length<=s:=by rw [fj];exact s2
  have zV:∀ fG:Nat,∀ l∈aW (dh m P') N,(az ++ [fG]).getD l 0<=g:=fun fG l hl=>by
   rw [fj] at hl
   rcases Zr7.mp hl with z | z
   ·subst z;rw [ou (by omega)];exact ga
   ·rw [Zr2] at z;subst z;rw [ou (by omega)];exact gb
  have o7:∀ fG:Nat,∀ y,y<N->∀ l∈aW (dh m P') y,(az ++ [fG]).getD l 0<=(az ++ [fG]).getD y 0:=fun fG y hy l hl=>by
   have:=mz.lt y l hl
   rw [ou (by omega),ou (by omega)]
   exact hL.mono y (by omega) l hl
  have zG:∀ fG:Nat,(az ++ [fG]).getD N 0=fG:=fun fG=>Vh (by omega)
  have nl:∀ {b:Addr},¬ S0 b->b≠ll:=fun nb e=>nb (e ▸ hL.Gk)
  have nrl':¬ S0 r:=by
   have hi:N<rs.length:=by rw [hM.len,r6];omega
   rw [oS .non (by omega) (by rw [ZrX];omega),ZtL,Zsc,Zsa,ZrY hi] at hr1
   have:rs[N]=r:=by simpa using hr1
   rw [<- this]
   exact LR _ (ZsD hi)
  by_cases h0:(g:Int)=0
  ·rw [if_pos h0]
   have g0:g=0:=by omega
   subst g0
   walk_at "go"
   refine ⟨x,dx,_,rfl,zd.at_.ins,rfl,by show 0<=sizeLine;omega,fun wp H2 n2=>?_⟩
   have oQ:=zd.same n2.same
   have kO:=n1.same.trans n2.same
   refine ⟨x,dx,ll,fc,fw,r,wp,m,N,1,az,aY,aH,rfl,oQ.at_,hNN.symm,hL.wl,by omega,by omega,hL.nf,fun H3 u3 h3=>?_⟩
   have Fu:¬ S0 wp:=fun z=>by obtain ⟨o,ho⟩:=zd.qR wp z;rw [n2.aH] at ho;cases ho
   have tf:=u3.lst oQ.at_.fX oQ.at_.cW (kO _ _ hr2) (nl nrl')
   have X3:=u3.lst oQ.at_.fX oQ.at_.cW n2.at_ (nl Fu)
   refine q H3 _ _ _ _ _ ((Gf kO).trans u3) (dN.more (Cn:=[lowa,lowb]) (ws:=[]) oQ ok u3 h3 tf nrl' ⟨[],⟨X3,rfl,fun i r y hr=>by simp at hr⟩,Fu,fun u hu=>by simp at hu⟩ ?_ ?_) (by rw [Zr0];rfl)
   ·rw [hNN,<- fj]
    exact ML.Zw mz.lt jf CM oj (fun l hl=>by have:=zV 1 l hl;omega) (zG 1)
   ·rw [hNN]
    exact .inl ⟨zG 1,rfl⟩
  rw [if_neg h0]
  obtain ⟨gs,pe⟩:∃ gs,gs=(MF.o5 m P' N).filter fun k=>decide (k=N\/az.getD k 0=g):=⟨_,rfl⟩
  have Rb:∀ z,z∈gs ↔ z=N\/(ML.Dn (aW (dh m P')) N z/\az.getD z 0=g):=fun z=>by
   rw [pe,Zsy,decide_eq_true_iff,QF ok hN]
   constructor
   ·rintro ⟨h1,h2 | h2⟩
    ·exact .inl h2
    ·exact .inr ⟨h1,h2⟩
   ·rintro (rfl | ⟨h1,h2⟩)
    ·exact ⟨.here,.inl rfl⟩
    ·exact ⟨h1,.inr h2⟩
  walk_at "go"
  refine ⟨⟨_,.of P7⟩,GF (rest:=[some (.int (N:Nat)),some (.ref x),some (.int (g:Nat))]) (fun v=>match v with | .int e=>decide (e.toNat=N\/az.getD e.toNat 0=g) | _=>false) id (.of P7) rfl (by rw [ZrX];have:=ZE m P' N;omega) ?_ ?_ ?_⟩
  ·intro v H' Q' hv s' q'
   obtain ⟨e,he,rfl⟩:=Zr8.mp hv
   have hle:=((QF ok hN).mp he).le mz.lt
   have q':Q' (decide (e=N\/az.getD e 0=g)) H':=q'
   unfold nv
   walk_at "gs"
   by_cases hen:(e:Int)=(N:Int)
   ·rw [if_pos hen]
    rw [decide_eq_true (.inl (by omega))] at q'
    exact q'
   ·rw [if_neg hen]
    rw [show decide (e=N\/az.getD e 0=g)=decide ((az.getD e 0:Int)=(g:Int)) by rw [decide_eq_decide];omega] at q'
    exact ⟨x,a.ae,dx,_,_,rfl,s' _ _ zd.at_.ins,T.aA,T.aM,rfl,_,_,.inl (.of (s' _ _ zd.at_.lst)),vD (by omega),q'⟩
  ·intro v H' Q' hv _ s' q'
   walk_at "gs"
   exact q'
  intro gp H2 n2
  have e2:(((MF.o5 m P' N).map nv).filter fun v=>match v with | .int e=>decide (e.toNat=N\/az.getD e.toNat 0=g) | _=>false).map id=(jc gs).map V.int:=by
   rw [ZsX,Zs8,GA,pe]
   rfl
  rw [e2] at n2
  have oQ:=zd.same n2.same
  have rX:=Ug.same n2.same
  have kO:=n1.same.trans n2.same
  have aF:zj (dh m P') (jc gs):=fun z hz=>by
   obtain ⟨k,hk,rfl⟩:=Zr8.mp hz
   have hkN:m<k/\k<=N:=by
    rcases (Rb k).mp hk with rfl | ⟨h1,h2⟩
    ·omega
    ·refine ⟨ZtF fun z=>?_,h1.le mz.lt⟩
     have:=hL.low k z
     omega
   refine ⟨by omega,by rw [r6];omega,?_⟩
   rw [ZtL]
   obtain ⟨j,rfl⟩:∃ j,k=m+1+j:=⟨k - m - 1,by omega⟩
   rw [pJ (ZrY (show j<P'.length by omega))]
   simp
  walk_at "go"
  refine ⟨mp,gp,rs,dh m P',jc gs,s,rfl,rX,n2.at_,mz,by rw [r6];omega,by omega,fun gs' tp wl v us ss ws as H3 egs _ s3 ft Gq fus fsl htp told=>?_,fun kG=>absurd aF kG⟩
  rw [<- Zo3 egs] at told
  have pS:=oQ.same s3
  have Ac:=rX.same s3
  have ke:=kO.trans s3
  have Fu:¬ S0 wl:=fun z=>by obtain ⟨o,ho⟩:=oQ.qR wl z;rw [Gq] at ho;cases ho
  have OF:∀ u∈us,¬ S0 u:=fun u hu z=>by obtain ⟨o,ho⟩:=oQ.qR u z;rw [fus u hu] at ho;cases ho
  have M9:∀ p,MZ.aL as p≠none->p<(dh m P').length:=fun p hp=>told.bd p (MZ.qP.mp hp)
  have ml:∀ fG:Nat,∀ z,mP gs z ↔ z=N\/(ML.Dn (aW (dh m P')) N z/\(az ++ [fG]).getD z 0=g):=fun fG z=>by
   refine (Rb z).trans ?_
   constructor
   ·rintro (h1 | ⟨h1,h2⟩)
    ·exact .inl h1
    ·by_cases e:z=N
     ·exact .inl e
     ·have:=h1.le mz.lt
      exact .inr ⟨h1,by rw [ou (by omega)];exact h2⟩
   ·rintro (h1 | ⟨h1,h2⟩)
    ·exact .inl h1
    ·by_cases e:z=N
     ·exact .inl e
     ·have:=h1.le mz.lt
      rw [ou (by omega)] at h2
      exact .inr ⟨h1,h2⟩
  walk_at "go"
  refine ⟨_,_,.inr (.of htp),rfl,?_⟩
  rcases told.rest with ⟨rfl,hss⟩ | ⟨sl,es,cs,rfl,xF,nsw,nsu,sk,hes,hem,hss⟩
  ·rw [if_pos rfl]
   refine ⟨x,dx,_,rfl,pS.at_.ins,rfl,?_⟩
   refine ⟨_,_,.inr (.of htp),rfl,?_⟩
   refine ⟨x,dx,ll,fc,fw,r,wl,m,N,g+1,az,aY,aH,rfl,pS.at_,hNN.symm,hL.wl,by omega,by omega,hL.nf,fun H4 u4 h4=>?_⟩
   have hr4:=u4.lst pS.at_.fX pS.at_.cW (ke _ _ hr2) (nl nrl')
   refine q H4 _ _ _ _ _ ((Gf ke).trans u4) (dN.more (Cn:=[lowa,lowb]) (ws:=ws) pS ok u4 h4 hr4 nrl' ⟨us,told.cW.C6 u4 pS.at_.fX pS.at_.cW (nl Fu) (fun u hu=>nl (OF u hu)),Fu,OF⟩ ?_ ?_) (by rw [Zr0];rfl)
   ·rw [hNN,<- fj]
    exact ML.Z9 mz.lt jf CM oj (o7 (g+1)) (zV (g+1)) (zG (g+1)) told.qm (fun z hz=>(ml (g+1) z).mp hz) M9 (GZ told.kf) told.mem hss
   ·rw [hNN]
    have e1:=zG (g+1)
    refine .inr ⟨by show 2<=(az ++ [g+1]).getD N 0;omega,by rw [told.len,hss],mP gs,MZ.aL as,ss,told.qm,fun z hz=>?_,fun c hc=>?_,told.kf,told.mem,told.len,told.way⟩
    ·rcases (ml (g+1) z).mp hz with rfl | ⟨h1,h2⟩
     ·exact ⟨.here,by omega⟩
     ·exact ⟨h1,by show (az ++ [g+1]).getD N 0<=(az ++ [g+1]).getD z 0+1;omega⟩
    ·have:=ML.IJ mz.lt jf (o7 (g+1)) (zV (g+1)) told.qm (ml (g+1)) M9 hc
     exact ⟨this.1,by show (az ++ [g+1]).getD c 0+2<=(az ++ [g+1]).getD N 0;omega⟩
  ·rw [if_neg (by simp)]
   walk_at "gs"
   have tf:=ke _ _ hr2
   refine ⟨⟨_,.of tf⟩,GF (rest:=[some (.ref x),some (.int (g:Nat))]) (fun v=>match v with | .int e=>decide (az.getD e.toNat 0=g) | _=>false) id (.of tf) rfl (by rw [ZrX];show 2<=_;omega) ?_ ?_ ?_⟩
   ·intro v H' Q' hv s' q'
    obtain ⟨l,hl,rfl⟩:=Zr8.mp hv
    have hl':l<az.length:=by
     rcases Zr7.mp hl with z | z
     ·omega
     ·rw [Zr2] at z;omega
    have q':Q' (decide (az.getD l 0=g)) H':=q'
    unfold nv
    walk_at "gs"
    rw [show decide (az.getD l 0=g)=decide ((az.getD l 0:Int)=(g:Int)) by rw [decide_eq_decide];omega] at q'
    exact ⟨x,a.ae,dx,_,_,rfl,s' _ _ pS.at_.ins,T.aA,T.aM,rfl,_,_,.inl (.of (s' _ _ pS.at_.lst)),vD hl',q'⟩
   ·intro v H' Q' hv _ s' q'
    walk_at "gs"
    exact q'
   intro sp H4 n4
   have e4:(([lowa,lowb].map nv).filter fun v=>match v with | .int e=>decide (az.getD e.toNat 0=g) | _=>false).map id=([lowa,lowb].filter fun e=>decide (az.getD e 0=g)).map nv:=by
    rw [ZsX,Zs8]
    rfl
   rw [e4] at n4
   obtain ⟨l,rest,hlr⟩:∃ l rest,([lowa,lowb].filter fun e=>decide (az.getD e 0=g))=l :: rest:=by
    cases e:[lowa,lowb].filter fun e=>decide (az.getD e 0=g) with
    | cons l rest=>exact ⟨l,rest,rfl⟩
    | nil =>
     have:=List.filter_eq_nil_iff.mp e
     rcases gg with z | z
     ·exact absurd (decide_eq_true z) (this lowa (by simp))
     ·exact absurd (decide_eq_true z) (this lowb (by simp))
   rw [hlr] at n4
   obtain ⟨IH,Bn⟩:=Zsy.mp (show l∈[lowa,lowb].filter fun e=>decide (az.getD e 0=g) by rw [hlr];exact Zsl ..)
   rw [decide_eq_true_iff] at Bn
   have hlN:l<N:=by
    rcases Zr7.mp IH with z | z
    ·omega
    ·rw [Zr2] at z;omega
   have hml:m<l:=ZtF fun z=>by have:=hL.low l z;omega
   obtain ⟨i,rfl⟩:∃ i,l=m+1+i:=⟨l - m - 1,by omega⟩
   have hi:i<aH.length:=by have:=hL.wl;omega
   obtain ⟨wss',hws'⟩:∃ w,dG[i]? = some w:=⟨_,ZrY (by have:=hL.sl;omega)⟩
   obtain ⟨C',hC'⟩:∃ C,eZ[i]? = some C:=⟨_,ZrY (by have:=hL.cl;have:=hL.wl;omega)⟩
   have hv:gO (gu (m+1) aH) (.inl ((m+1+i:Nat):Int))=some (.ref aH[i]):=by
    rw [GW,if_pos (by omega),show (((m+1+i:Nat):Int) - ((m+1:Nat):Int)).toNat=i by omega,ZrY hi]
    rfl
   have pK:=pS.same n4.same
   obtain ⟨us',hW4,nw4,nu4⟩:=pK.way i _ _ (ZrY hi) hws'
   have g4:=g9.k (k:=.inl ((m+1+i:Nat):Int)) pK.at_.cW
   rw [hv] at g4
   refine ⟨x,dx,_,rfl,pK.at_.ins,rfl,_,_,.inr (.of (n4.same _ _ htp)),rfl,x,a.ae,dx,_,_,rfl,pK.at_.ins,T.aA,T.bh,rfl,_,_,.inl (.of n4.at_),Up,fw,_,rfl,g4,?_⟩
   refine ⟨x,dx,ll,fc,fw,sl,aH[i],m,N,g,az,aY,aH,rfl,pK.at_,hNN.symm,hL.wl,by omega,by omega,hL.nf,fun H5 u5 h5=>?_⟩
   have PD:¬ S0 sl:=fun z=>by obtain ⟨o,ho⟩:=oQ.qR sl z;rw [fsl sl rfl] at ho;cases ho
   have MV:=u5.lst pK.at_.fX pK.at_.cW (n4.same _ _ xF) (nl PD)
   have S:=Zm1 sk
   have ev:∀ e∈es,e=2 * (e / 2)/\MZ.pN (fun e=>e∈MZ.keys cs) (e / 2):=fun e he=>by
    obtain ⟨a1,a2⟩:=(hem e).mp he
    have e2:e=2 * (e / 2):=by
     rcases (by omega:e=2 * (e / 2)\/e=2 * (e / 2)+1) with z | z
     ·exact z
     ·exact absurd (z ▸ a1) a2
    exact ⟨e2,by show 2 * (e / 2)∈MZ.keys cs;rw [<- e2];exact a1,a2⟩
   have rB:(es.map fun e:Nat=>e / 2).Pairwise (· < ·):=by
    refine List.pairwise_map.mpr (hes.imp_of_mem fun {a b} ha hb gX=>?_)
    have:=(ev a ha).1
    have:=(ev b hb).1
    omega
   have mB:∀ p,p∈(es.map fun e:Nat=>e / 2) ↔ MZ.pN (fun e=>e∈MZ.keys cs) p:=fun p=>by
    rw [Zr8]
    constructor
    ·rintro ⟨e,he,rfl⟩
     exact (ev e he).2
    ·intro st
     refine ⟨2 * p,(hem _).mpr ⟨st.1,?_⟩,by omega⟩
     rw [show 2 * p / 2=p by omega]
     exact st.2
   have Gp:∀ k,k<=m+1+i->(az ++ [g]).getD k 0=az.getD k 0:=fun k hk=>ou (by omega)
   have hlo':m+1+i∈aW (dh m P') N:=by rw [fj];exact IH
   refine q H5 _ _ _ _ _ ((Gf (ke.trans n4.same)).trans u5) (dN.more (Cn:=es.map fun e:Nat=>e / 2) (ws:=wss') pK ok u5 h5 MV PD ⟨us',hW4.C6 u5 pK.at_.fX pK.at_.cW (nl nw4) (fun u hu=>nl (nu4 u hu)),nw4,nu4⟩ ?_ ?_) (by rw [Zr0];rfl)
   ·rw [hNN]
    exact ML.Z6 mz.lt jf (o7 g) (zV g) (zG g) told.qm (ml g) M9 (GZ told.kf) told.mem hss S rB mB hlo' ((Gp _ (Zts _)).trans Bn) ((hL.sh i C' hC').ext mz.lt Gp (fun k=>Qk))
   ·rw [hNN]
    exact ((hL.zS i wss' hws').ext mz.lt Gp).up hlo' (by show (az ++ [g]).getD N 0=(az ++ [g]).getD (m+1+i) 0;rw [zG,Gp _ (Zts _),Bn])
noncomputable def KL (a:aN) (K:Zrk):Sp:=fun vs H Q E=>∃ (x dx f mw pl kl:Addr) (v:V) (m:Nat) (es:List En),vs=[.ref x,.ref f,v]/\H x=some (.ins a.ae dx [])/\aC a.af H f m es mw pl kl/\MF.Ok m (ar es)/\m<=10/\m+1+es.length<=1000/\qC H v /\
 (∀ s:Nat,v=.int s->2<=s->s<=6->∀ H' ll fc fw az aY aH eZ dG,(∀ b o,b≠x->H b=some o->H' b=some o)->H ll=none->H fc=none->H fw=none->dN a.ae (fun b=>b=ll\/∃ o,H b=some o) H' x dx ll fc fw m (ar es) s az aY aH eZ dG->aY.length=es.length->Q .non H')/\(yc v=false->∀ e,H e=none->E (.ref e) (some a.cD) H)
noncomputable abbrev UK (a:aN) (K:Zrk) (E:XK):TS:=(eD (zw (ah (ag ef (ic K (aa 1) "many") (tC (.int 1))) (ah (gq a.af "total" (pD a K) [] E0 (aa 1) aq) aq))) (aE 4) (fW (gq a.ae "settle" (R7 a K) [] E0 (aa 0) (ah (aa 3) (ah (cP (Sw a K) [] E0 (ah (aa 1) (ah (aa 4) aq))) (ah (aa 2) aq))))))
noncomputable abbrev T1 (a:aN) (K:Zrk) (E:XK):TS:=(aD (rY K (aa 0) qv "found_ways")
  (aD (bb (cP (Rc a K) [] E0 (ah (aa 1) aq)) (aE 3))
  (aO (UK a K E))))
noncomputable abbrev Zej (a:aN) (K:Zrk) (E:XK):TS:=(aD (rY K (aa 0) (ag G9 (ik (ah (tC (.int 0)) aq)) (ag ef (ic K (aa 1) "many") (tC (.int 1)))) "levels")
  (aD (rY K (aa 0) qv "found_cuts")
  (aO (T1 a K E))))
noncomputable def Ij (a:aN) (K:Zrk) (E:XK):TS:=(aD (fW (cP (OP a K) [] E (ah (aa 2) aq)))
  (aO (Zej a K E)))
theorem ZeN (T:Txt K mg a):TX P w K mg base 5 "Labels.__init__" D8 Rx a.bH (Ij a K) :=
 fun hr=>(aG (gB (MX (X1 T) (hm hr) rfl T.dw.m T.dw.n.kp T.dw.b .nil (MD pP) (ai (cv 2) av)))
   (aV (aG (zu (cv 0) (aB SY (jo (ai ax av)) (aB eC (iK (cv 1) rfl) ax)) rfl)
   (aG (zu (cv 0) zx rfl)
   (aV (aG (zu (cv 0) zx rfl)
   (aG (bI (i:=3) La.nd rfl (by walk_at "o") (dg T.jI (T2 T) (hm hr) bZ (ai (cv 1) av)))
   (aV (aI (PS.qh (iY PassesOwn.never rfl (J7 rfl T.aJ (ai (aB eC (iK (cv 1) rfl) ax) (ai (qF (cv 1) T.ay T.ak.e (qJ T) (hm hr) T.ak.b .nil bZ) av))) (dP (i:=4) La.nd rfl (by walk_at "o")) (aI (gB (lg (cv 0) T.aA T.cI.e (Y4 T) (hm hr) T.cI.b .nil bZ (ai (cv 3) (ai (dg T.oE (Vg T) (hm hr) oY (ai (cv 1) (ai (cv 4) av))) (ai (cv 2) av)))))))))))))))))
theorem XQ (T:Txt K mg a):aK P w K mg base (gZ P w) 6 a.bH a.dr ["self","fold","size"] (KL a K):=by
 refine T.du.n.jg La (ZeN T) (fun vs H Q E h=>?_) (fun H vs Q E h=>?_)
 ·obtain ⟨x,dx,f,mw,pl,kl,v,m,es,rfl,_⟩:=h;rfl
 ·obtain ⟨x,dx,f,mw,pl,kl,v,m,es,rfl,hx,hf,ok,hm,hn,hv,q1,q0⟩:=h
  show Ij a K E _ [some (.ref x),some (.ref f),some v,none,none] H
  unfold Ij
  have big:(20000:Nat)<=sizeLine:=by decide
  have je:(ar es).length=es.length:=ZrX ..
  walk_at "gs"
  refine ⟨v,rfl,hv,fun hs=>?_,q0⟩
  obtain ⟨s,rfl,s2,s6⟩:∃ s:Nat,v=.int s/\2<=s/\s<=6:=by
   unfold yc zg at hs
   split at hs
   ·rename_i i
    have:=of_decide_eq_true hs
    exact ⟨i.toNat,by congr 1;omega,by omega,by omega⟩
   ·cases hs
  have q:=q1 s rfl s2 s6
  walk_at "gs"
  intro z1 H1 n1
  have f1:=hf.same n1.same
  refine ⟨f,a.af,mw,_,_,rfl,f1.ins,T.ay,T.bz,rfl,?_⟩
  refine ⟨_,n1.at_,by omega,by omega,by show 1 * _<=_;omega,fun ll H2 n2=>?_⟩
  have e2:(ZrZ ((m:Int)+1).toNat [V.int 0]).flatten=(ZrZ (m+1) 0).map nv:=by
   rw [O8,show ((m:Int)+1).toNat=m+1 by omega,List.map_replicate]
   rfl
  rw [e2] at n2
  have kO:=n1.same.trans n2.same
  have fl:H ll=none:=n1.same.nil n2.aH
  have x2:=kO _ _ hx
  have ZK:f≠x:=fun z=>by
   have:=hf.ins
   rw [z,hx] at this
   simp at this
  refine ⟨x,a.ae,dx,[],rfl,x2,T.aA,T.aM,by decide,fun fc H3 n3=>?_⟩
  have MW:ll≠x:=(cq hx fl).symm
  have K1:fc≠x:=fun e=>by have:=n3.aH;rw [e,cz] at this;cases this
  have MO:H fc=none:=by
   have:=n3.aH
   rw [aQ K1] at this
   exact kO.nil this
  have x3:H3 x=some (.ins a.ae dx (fF "levels" (.ref ll) [])):=n3.same _ _ cz
  have u3:∀ b o,b≠x->H2 b=some o->H3 b=some o:=fun b o nb e=>n3.same _ _ (by rw [aQ nb];exact e)
  refine ⟨x,a.ae,dx,_,rfl,x3,T.aA,T.bM,by have:=rO "levels" (.ref ll) [];simp only [Zst] at this;omega,?_⟩
  walk_at "gs"
  intro fw H4 n4
  have KA:fw≠x:=fun e=>by have:=n4.aH;rw [e,cz] at this;cases this
  have Gq:H3 fw=none:=by
   have:=n4.aH
   rw [aQ KA] at this
   exact this
  have K4:H fw=none:=by
   cases e:H fw with
   | none=>rfl
   | some o=>have:=u3 _ _ KA (kO _ _ e);rw [Gq] at this;cases this
  have nf:fc≠fw:=cq n3.at_ Gq
  have x4:H4 x=some (.ins a.ae dx (fF "found_cuts" (.ref fc) (fF "levels" (.ref ll) []))):=n4.same _ _ cz
  have u4:∀ b o,b≠x->H3 b=some o->H4 b=some o:=fun b o nb e=>n4.same _ _ (by rw [aQ nb];exact e)
  refine ⟨x,a.ae,dx,_,rfl,x4,T.aA,T.bh,by have h7:=rO "levels" (.ref ll) [];have h8:=rO "found_cuts" (.ref fc) (fF "levels" (.ref ll) []);simp only [Zst] at h7;omega,?_⟩
  have e5:fF "found_ways" (.ref fw) (fF "found_cuts" (.ref fc) (fF "levels" (.ref ll) []))=([("levels",V.ref ll),("found_cuts",V.ref fc),("found_ways",V.ref fw)]:List (Str × V)):=by
   have z1:¬ ("levels" : Str) = "found_cuts":=by decide +kernel
   have z2:¬ ("levels" : Str) = "found_ways":=by decide +kernel
   have z3:¬ ("found_cuts" : Str) = "found_ways":=by decide +kernel
   simp [fF,z1,z2,z3]
  rw [e5]
  have x5:upd H4 x (.ins a.ae dx [("levels",V.ref ll),("found_cuts",V.ref fc),("found_ways",V.ref fw)]) x=some (.ins a.ae dx [("levels",V.ref ll),("found_cuts",V.ref fc),("found_ways",V.ref fw)]):=cz
  have u5:∀ b o,b≠x->H4 b=some o->upd H4 x (.ins a.ae dx [("levels",V.ref ll),("found_cuts",V.ref fc),("found_ways",V.ref fw)]) b=some o:=fun b o nb e=>by rw [aQ nb];exact e
  generalize upd H4 x (.ins a.ae dx [("levels",V.ref ll),("found_cuts",V.ref fc),("found_ways",V.ref fw)])=H5 at x5 u5 ⊢
  have st:∀ b o,b≠x->H b=some o->H5 b=some o:=fun b o nb e=>u5 _ _ nb (u4 _ _ nb (u3 _ _ nb (kO _ _ e)))
  have G3:∀ {b:Addr}{o:HO},H b=some o->(∀ d,o≠.ins a.ae d [])->b≠x:=fun {b o} e n z=>by subst z;rw [hx] at e;cases e;exact n _ rfl
  have f5:aC a.af H5 f m es mw pl kl:=⟨st _ _ ZK hf.ins,st _ _ (cZ hf.ck.lst hx (fun z=>nomatch z)) hf.ck.lst,st _ _ (cZ hf.ck.ig hx (fun z=>nomatch z)) hf.ck.ig,fun e he=>st _ _ (cZ (hf.ck.tup e he) hx (fun z=>nomatch z)) (hf.ck.tup e he)⟩
  have l5:H5 ll=some (.lst ((ZrZ (m+1) 0).map nv)):=u5 _ _ MW (u4 _ _ MW (u3 _ _ MW n2.at_))
  have c5:H5 fc=some (.dK (gu (m+1) [])):=u5 _ _ K1 (u4 _ _ K1 n3.at_)
  have w5:H5 fw=some (.dK (gu (m+1) [])):=u5 _ _ KA n4.at_
  walk_at "gs"
  refine ⟨f,mw,pl,kl,m,es,rfl,f5,ok,hm,by omega,fun mp rs H6 s6' fm hrs hM=>?_⟩
  have f6:=f5.same s6'
  walk_at "gs"
  refine ⟨f,a.af,mw,_,_,rfl,f6.ins,T.ay,T.bz,rfl,?_⟩
  walk_at "gs"
  refine ⟨f,mw,_,rfl,f6.ins,rfl,f,mw,pl,kl,m,es,rfl,f6,?_⟩
  walk_at "gs"
  rw [show (1+(m:Int)+(es.length:Int) - ((m:Int)+1)).toNat=es.length by omega]
  have Ik:mp≠ll:=(cq l5 fm).symm
  have nrl':∀ r∈rs,¬ (r=ll\/∃ o,H r=some o):=fun r hr z=>by
   rcases z with z | ⟨o,ho⟩
   ·exact (cq l5 (hrs r hr).1).symm z
   ·by_cases e:r=x
    ·have:=(hrs r hr).1;rw [e,x5] at this;cases this
    ·have:=st r o e ho;rw [(hrs r hr).1] at this;cases this
  have LR:∀ r∈rs,r≠ll:=fun r hr e=>nrl' r hr (.inl e)
  have WV:∀ b,(b=ll\/∃ o,H b=some o)->∃ o,H5 b=some o:=fun b hb=>by
   rcases hb with rfl | ⟨o,ho⟩
   ·exact ⟨_,l5⟩
   ·by_cases e:b=x
    ·exact ⟨_,e ▸ x5⟩
    ·exact ⟨_,st b o e ho⟩
  have A0:dN a.ae (fun b=>b=ll\/∃ o,H b=some o) H6 x dx ll fc fw m (ar es) s (ZrZ (m+1) 0) [] [] [] [] :=
   ⟨⟨s6' _ _ x5,s6' _ _ l5,s6' _ _ c5,s6' _ _ w5⟩,nf,.inl rfl,fun b hb=>by obtain ⟨o,ho⟩:=WV b hb;exact ⟨o,s6' _ _ ho⟩,by rw [Zsb];rfl,rfl,rfl,rfl,fun k hk=>by rw [Zsc,ZsM,if_pos (by omega)];rfl,fun i c C hc=>by simp at hc,fun i w ws hw=>by simp at hw,fun i C hC=>by simp at hC,fun i ws hs=>by simp at hs⟩
  refine nQ (fun i σ H7=>lP ll fc fw H6 H7/\∃ az aY aH eZ dG,∃ v4:Option V,dN a.ae (fun b=>b=ll\/∃ o,H b=some o) H7 x dx ll fc fw m (ar es) s az aY aH eZ dG/\aY.length=i/\σ=[some (.ref x),some (.ref f),some (.int s),some (.ref mp),v4]) ⟨fun b o _ _ _ e=>e,_,_,_,_,_,_,A0,rfl,rfl⟩ ?_ ?_
  ·rintro i σ H7 hi ⟨u7,az,aY,aH,eZ,dG,v4,hL7,hci,rfl⟩
   have f7:aC a.af H7 f m es mw pl kl:=by
    have nn:∀ {b:Addr}{o:HO},H b=some o->(∀ d,o≠.ins a.ae d [])->H7 b=some o:=fun {b o} e n=>u7 _ _ (cq e fl) (cq e MO) (cq e K4) (s6' _ _ (st _ _ (G3 e n) e))
    exact ⟨nn hf.ins (fun d z=>by simp at z),nn hf.ck.lst (fun d z=>nomatch z),nn hf.ck.ig (fun d z=>nomatch z),fun e he=>nn (hf.ck.tup e he) (fun d z=>nomatch z)⟩
   have VY:=hM.C6 u7 (s6' _ _ c5) (s6' _ _ w5) Ik LR
   walk_at "gs"
   refine ⟨x,dx,_,rfl,hL7.at_.ins,rfl,f,mw,pl,kl,m,_,es,rfl,f7,ok,hm,by omega,fun n pL hnl ip H8 md=>?_,fun z=>absurd ⟨by omega,by omega⟩ z⟩
   obtain ⟨fi,hi8,s8⟩:=md
   have enn:n=m+1+aY.length:=by omega
   rw [enn] at hi8
   have hL8:=hL7.same s8
   refine ⟨_,x,dx,ll,fc,fw,mp,ip,rs,m,s,ar es,az,aY,aH,eZ,dG,rfl,hL8,by omega,ok,by omega,s2,s6,VY.same s8,Ik,nrl',hi8,fun H9 lvs' cas' was' css' wss' u9 hL9 hc9=>?_⟩
   exact ⟨(u7.trans (Gf s8)).trans u9,lvs',cas',was',css',wss',_,hL9,by omega,rfl⟩
  ·rintro σ H7 ⟨u7,az,aY,aH,eZ,dG,v4,hL7,hci,rfl⟩
   walk_at "gs"
   exact q H7 ll fc fw az aY aH eZ dG (fun b o nb e=>u7 _ _ (cq e fl) (cq e MO) (cq e K4) (s6' _ _ (st _ _ nb e))) fl MO K4 hL7 hci
theorem mk_Labels {a:aN}{K:Zrk}{H:Hp}{f mw pl kl:Addr}{m s:Nat}{es:List En}{F:Addr->Hp->Prop}{E:XK} (hf:aC a.af H f m es mw pl kl) (ok:MF.Ok m (ar es)) (hm:m<=10) (hn:m+1+es.length<=1000) (s2:2<=s) (s6:s<=6)
  (q:∀ x dx ll fc fw H' az aY aH eZ dG,aP H H'->H x=none->H ll=none->H fc=none->H fw=none->dN a.ae (fun b=>b=ll\/∃ o,H b=some o) H' x dx ll fc fw m (ar es) s az aY aH eZ dG->aY.length=es.length->F x H') :
  ∀ x dx,H x=none->H dx=none->dx≠x->KL a K [.ref x,.ref f,.int s] (upd (upd H dx (.own x)) x (.ins a.ae dx [])) (fun v H2=>v=.non/\F x H2) E:=by
 intro x dx hx hd jf
 have Ai:aP H (upd (upd H dx (.own x)) x (.ins a.ae dx [])):=(kz hd).trans (kz (by rw [aQ jf.symm];exact hx))
 refine ⟨x,dx,f,mw,pl,kl,.int s,m,es,rfl,cz,hf.same Ai,ok,hm,hn,trivial,fun s' e _ _ H' ll fc fw az aY aH eZ dG st hl hc hw hL hle=>?_,fun z=>?_⟩
 ·have:s'=s:=by have:=V.int.inj e;omega
  subst this
  refine ⟨rfl,q x dx ll fc fw H' az aY aH eZ dG (fun b o e=>?_) hx (Ai.nil hl) (Ai.nil hc) (Ai.nil hw) (hL.less (.inl rfl) fun b hb=>hb.imp id fun ⟨o,ho⟩=>⟨o,Ai _ _ ho⟩) hle⟩
  have n1:b≠x:=cq e hx
  exact st b o n1 (Ai _ _ e)
 ·unfold yc zg at z
  have:=of_decide_eq_false z
  omega
noncomputable def uV (K:Zrk):Sp:=fun vs H Q _=>∃ (p:Addr) (ns:List Int) (k:Nat),vs=[.ref p,.int k]/\bY K H p (ns.map V.int)/\∀ c,Q (.int c) H
noncomputable def JJ (K:Zrk):TS:=(aD (cQ (bK (ag (cf fun i j=>.bl (decide (i<j))) (aa 1) (dk (iB K) (ah (aa 0) aq)))) (cn (ag (bJ K) (aa 0) (aa 1))) dI)
  (cn (tC (.int 0))))
theorem UY (T:Txt K mg a):TM P w K mg base 0 "_law_cell_at" Bg Sx a.dB (JJ K) :=
 fun hr=>(aG (da (cA oZ (cv 1) (dU jw (by rfl) T.bj PySem.boot_len (ai (cv 0) av)) (cw _)) (aI (cG (bP bQ (cv 0) (cv 1) (fun _ _=>rfl)))) d5)
   (aI (cG ax)))
theorem Aj (T:Txt K mg a):aK P w K mg base dQ 1 a.dB a.fB ["_law_script","_law_k"] (uV K):=by
 refine T.bq.n.fg YU (UY T) (fun vs H Q E h=>?_) (fun H vs Q E h=>?_)
 ·obtain ⟨p,ns,k,rfl,_⟩:=h;rfl
 ·obtain ⟨p,ns,k,rfl,hS,q⟩:=h
  show JJ K _ [some (.ref p),some (.int k)] H
  unfold JJ
  walk_at "go"
  refine .inl ⟨_,.inl hS,?_⟩
  rw [ZrX]
  by_cases h:(k:Int)<ns.length
  ·rw [if_pos h]
   exact ixI hS (by omega) h (q _)
  ·rw [if_neg h]
   exact q 0
noncomputable def qy (m:Nat) (ps:List MF.Pr):Prop:=∀ (i:Nat) (q:MF.Pr),ps[i]? = some q->0<=q.1/\q.1<2 * ((m:Int)+1+i)/\0<=q.2/\q.2<2 * ((m:Int)+1+i)
theorem qy.snoc {m:Nat}{ps:List MF.Pr} (h:qy m ps) {q:MF.Pr} (hq:0<=q.1/\q.1<2 * ((m:Int)+1+ps.length)/\0<=q.2/\q.2<2 * ((m:Int)+1+ps.length)):qy m (ps ++ [q]):=fun i p hp=>by
 rcases ra hp with z | ⟨rfl,rfl⟩
 ·exact h i p z
 ·exact hq
noncomputable def Q1 (_:Zrk):Sp:=fun vs H Q _=>∃ (cp:Addr) (m:Nat) (ns:List Int),vs=[.int m,.ref cp]/\H cp=some (.lst (ns.map V.int))/\1<=m/\m<=10/\ns.length<=110 /\
 ∀ pp es H',aP H H'->H pp=none->PL H' pp es->es.length=ns.length->qy m (ar es)->Q (.ref pp) H'
noncomputable abbrev YO (K:Zrk):TS:=(bb (ag ef (tC (.int 1)) (ag (bU (fun _ j=>0<j) fun i j=>.int (i % j)) (ag ef (ag (bU eA fun i j=>.int (i / j)) (aa 7) (tC (.int 3))) (ag ju (tC (.int 2)) (aa 5))) (aa 0))) (aE 4))
noncomputable abbrev ZQ (K:Zrk):TS:=(aD (bb (ag (cf fun i j=>.int (i - j)) (aa 6) (ag (bU (fun _ j=>0<j) fun i j=>.int (i % j)) (aa 7) (dk uH (ah (aa 6) (ah (tC (.int 3)) aq))))) (aE 3))
  (aO (YO K)))
noncomputable abbrev Uu (K:Zrk):TS:=(bb (ag ef (tC (.int 1)) (ag (bU (fun _ j=>0<j) fun i j=>.int (i % j)) (ag ef (ag (bU eA fun i j=>.int (i / j)) (aa 7) (tC (.int 8))) (ag ju (tC (.int 3)) (aa 5))) (aa 6))) (aE 4))
noncomputable abbrev ZY (K:Zrk):TS:=(aD (bb (ag (cf fun i j=>.int (i - j)) (aa 6) (ag (bU (fun _ j=>0<j) fun i j=>.int (i % j)) (aa 7) (dk uH (ah (aa 6) (ah (tC (.int 8)) aq))))) (aE 3))
  (aO (Uu K)))
noncomputable abbrev WM (K:Zrk):TS:=(cQ (bK (ag (gU K) (ag (bU (fun _ j=>0<j) fun i j=>.int (i % j)) (ag (bJ K) (aa 1) (aa 5)) (tC (.int 5))) (tC (.int 4)))) (aD (bb (aa 6) (aE 3))
  (bb (ag (cf fun i j=>.int (i - j)) (aa 6) (tC (.int 1))) (aE 4))) dI)
noncomputable abbrev Wf (K:Zrk):TS:=(cQ (bK (ag (gU K) (ag (bU (fun _ j=>0<j) fun i j=>.int (i % j)) (ag (bJ K) (aa 1) (aa 5)) (tC (.int 5))) (tC (.int 2)))) (aO (ZY K)) (aO (WM K)))
noncomputable abbrev Ye (K:Zrk):TS:=(me (cQ (bK (ag (cf fun i j=>.bl (decide (i<j))) (ag (bU (fun _ j=>0<j) fun i j=>.int (i % j)) (ag (bJ K) (aa 1) (aa 5)) (tC (.int 5))) (tC (.int 2)))) (aO (ZQ K)) (aO (Wf K)))
  (fW (j8 K "list" kQ (aa 2) (ah (kh (ah (ag ef (ag ju (tC (.int 2)) (aa 3)) (ag (bU (fun _ j=>0<j) fun i j=>.int (i % j)) (ag (bU eA fun i j=>.int (i / j)) (ag (bJ K) (aa 1) (aa 5)) (tC (.int 5))) (tC (.int 2)))) (ah (ag ef (ag ju (tC (.int 2)) (aa 4)) (ag (bU (fun _ j=>0<j) fun i j=>.int (i % j)) (ag (bU eA fun i j=>.int (i / j)) (ag (bJ K) (aa 1) (aa 5)) (tC (.int 10))) (tC (.int 2)))) aq))) aq))))
noncomputable abbrev Zm (K:Zrk):TS:=(aD (bb (ag (bU eA fun i j=>.int (i / j)) (ag (bJ K) (aa 1) (aa 5)) (tC (.int 20))) (aE 7))
  (aO (Ye K)))
noncomputable abbrev UB (K:Zrk):TS:=(aD (eD (jK (ah (dk (iB K) (ah (aa 1) aq)) aq)) (aE 5) (aD (bb (ag ef (aa 0) (aa 5)) (aE 6))
  (aO (Zm K))))
  (cn (aa 2)))
noncomputable def Je (K:Zrk):TS:=(aD (bb (ik aq) (aE 2))
  (aD (bb (tC (.int 1)) (aE 3))
  (aD (bb (aa 0) (aE 4))
  (aO (UB K)))))
theorem Zh (T:Txt K mg a):TM P w K mg base 0 "_law_pairs" Bk P0 a.eF (Je K) :=
 fun hr=>(aG (bI (i:=2) nj.nd rfl (by walk_at "o") (jo av))
   (aG (bI (i:=3) nj.nd rfl (by walk_at "o") ax)
   (aG (bI (i:=4) nj.nd rfl (by walk_at "o") (cv 0))
   (aV (aG (iY PassesOwn.never rfl (lZ rfl T.aJ (ai (dU jw (by rfl) T.bj PySem.boot_len (ai (cv 1) av)) av)) (dP (i:=5) nj.nd rfl (by walk_at "o")) (aG (bI (i:=6) nj.nd rfl (by walk_at "o") (aB eC (cv 0) (cv 5)))
   (aV (aG (bI (i:=7) nj.nd rfl (by walk_at "o") (aB eE (bP bQ (cv 1) (cv 5) (fun _ _=>rfl)) ax))
   (aV (qE (da (cA oZ (aB gh (bP bQ (cv 1) (cv 5) (fun _ _=>rfl)) ax) ax (cw _)) (aV (aG (bI (i:=3) nj.nd rfl (by walk_at "o") (aB kE (cv 6) (aB gh (cv 7) (dU (CJ rfl) (by rfl) T.iX PyProof.Rows.boot_min (ai (cv 6) (ai ax av))))))
   (aV (aI (bI (i:=4) nj.nd rfl (by walk_at "o") (aB eC ax (aB gh (aB eC (aB eE (cv 7) ax) (aB jQ ax (cv 5))) (cv 0)))))))) (aV (aI (da (cA (iq (gr hr)) (aB gh (bP bQ (cv 1) (cv 5) (fun _ _=>rfl)) ax) ax (cw _)) (aV (aG (bI (i:=3) nj.nd rfl (by walk_at "o") (aB kE (cv 6) (aB gh (cv 7) (dU (CJ rfl) (by rfl) T.iX PyProof.Rows.boot_min (ai (cv 6) (ai ax av))))))
   (aV (aI (bI (i:=4) nj.nd rfl (by walk_at "o") (aB eC ax (aB gh (aB eC (aB eE (cv 7) ax) (aB jQ ax (cv 5))) (cv 6)))))))) (aV (aI (da (cA (iq (gr hr)) (aB gh (bP bQ (cv 1) (cv 5) (fun _ _=>rfl)) ax) ax (cw _)) (aG (bI (i:=3) nj.nd rfl (by walk_at "o") (cv 6))
   (aI (bI (i:=4) nj.nd rfl (by walk_at "o") (aB kE (cv 6) ax)))) d5)))))))
   (aI (gB (kK ZrP ZrQ ZrR (kR kS) (cv 2) (ai (lj (ai (aB eC (aB jQ ax (cv 3)) (aB gh (aB eE (bP bQ (cv 1) (cv 5) (fun _ _=>rfl)) ax) ax)) (ai (aB eC (aB jQ ax (cv 4)) (aB gh (aB eE (bP bQ (cv 1) (cv 5) (fun _ _=>rfl)) ax) ax)) av))) av))))))))))
   (aI (cG (cv 2))))))))
theorem ZjI (T:Txt K mg a):aK P w K mg base dQ 1 a.eF a.gQ ["_law_many","_law_cells"] (Q1 K):=by
 refine T.gN.n.fg nj (Zh T) (fun vs H Q E h=>?_) (fun H vs Q E h=>?_)
 ·obtain ⟨cp,m,ns,rfl,_⟩:=h;rfl
 ·obtain ⟨cp,m,ns,rfl,hS,m1,m10,hn,q⟩:=h
  show Je K _ [some (.int m),some (.ref cp),none,none,none,none,none,none] H
  unfold Je
  have big:(20000:Nat)<=sizeLine:=by decide
  walk_at "gs"
  intro pp H1 n1
  walk_at "gs"
  refine .inl ⟨_,.inl (.of (n1.same _ _ hS)),?_⟩
  rw [ZrX]
  walk_at "gs"
  rw [ZtL]
  refine nQ (fun i σ H2=>aP H H2/\∃ (es:List En) (l r:Int) (v5 v6 v7:Option V),PL H2 pp es/\es.length=i/\qy m (ar es)/\0<=l/\l<=m+i/\0<=r/\r<=m+i/\σ=[some (.int m),some (.ref cp),some (.ref pp),some (.int l),some (.int r),v5,v6,v7]) ⟨n1.same,[],_,_,_,_,_,⟨n1.at_,fun e he=>by simp at he⟩,rfl,fun i q hq=>by simp [ar] at hq,by omega,by omega,by omega,by omega,rfl⟩ ?_ ?_
  ·rintro i σ H2 hi ⟨s2,es,l,r,v5,v6,v7,hP,hle,hT,l0,l1,r0,r1,rfl⟩
   have An:=s2 _ _ hS
   obtain ⟨c,hc⟩:∃ c:Int,fJ (ns.map V.int) (0+(i:Int))=some (.int c):=by
    refine ⟨ns[i],?_⟩
    rw [oS .non (by omega) (by rw [ZrX];omega),show (0+(i:Int)).toNat=i by omega,Zsc,Zsa,ZrY hi]
    rfl
   have hc5:=ZtO c (show (5:Int)≠0 by decide)
   walk_at "gs"
   refine ⟨_,_,.inl (.of An),hc,?_⟩
   walk_at "gs"
   refine mid (fun σ' H'=>H'=H2/\∃ l' r':Int,0<=l'/\l'<=m+i/\0<=r'/\r'<=m+i/\σ'=[some (.int m),some (.ref cp),some (.ref pp),some (.int l'),some (.int r'),some (.int (0+(i:Int))),some (.int ((m:Int)+(0+(i:Int)))),some (.int (c / 20))]) ?_ ?_
   ·intro N hN
    walk_at "gs"
    refine ⟨_,_,.inl (.of An),hc,?_⟩
    walk_at "gs"
    by_cases c1:c % 5<2
    ·rw [if_pos c1]
     walk_at "gs"
     have gm:1<=(if 3<(m:Int)+(0+(i:Int)) then 3 else (m:Int)+(0+(i:Int)))/\(if 3<(m:Int)+(0+(i:Int)) then 3 else (m:Int)+(0+(i:Int)))<=(m:Int)+i:=by split <;> omega
     generalize (if 3<(m:Int)+(0+(i:Int)) then 3 else (m:Int)+(0+(i:Int)))=G at gm ⊢
     have x1:=ZtO (c / 20) (show G≠0 by omega)
     have x2:=ZtP (c / 20) (show 0<G by omega)
     have y1:=ZtO (c / 20 / 3+2 * (0+(i:Int))) (show (m:Int)≠0 by omega)
     have y2:=ZtP (c / 20 / 3+2 * (0+(i:Int))) (show 0<(m:Int) by omega)
     walk_at "gs"
     exact hN _ _ ⟨rfl,_,_,by omega,by omega,by omega,by omega,rfl⟩
    ·rw [if_neg c1]
     walk_at "go"
     refine ⟨_,_,.inl (.of An),hc,?_⟩
     walk_at "gs"
     by_cases c2:c % 5=2
     ·rw [if_pos c2]
      walk_at "gs"
      have gm:1<=(if 8<(m:Int)+(0+(i:Int)) then 8 else (m:Int)+(0+(i:Int)))/\(if 8<(m:Int)+(0+(i:Int)) then 8 else (m:Int)+(0+(i:Int)))<=(m:Int)+i:=by split <;> omega
      generalize (if 8<(m:Int)+(0+(i:Int)) then 8 else (m:Int)+(0+(i:Int)))=G at gm ⊢
      have x1:=ZtO (c / 20) (show G≠0 by omega)
      have x2:=ZtP (c / 20) (show 0<G by omega)
      have y1:=ZtO (c / 20 / 8+3 * (0+(i:Int))) (show (m:Int)+(0+(i:Int))≠0 by omega)
      have y2:=ZtP (c / 20 / 8+3 * (0+(i:Int))) (show 0<(m:Int)+(0+(i:Int)) by omega)
      walk_at "gs"
      exact hN _ _ ⟨rfl,_,_,by omega,by omega,by omega,by omega,rfl⟩
     ·rw [if_neg c2]
      walk_at "go"
      refine ⟨_,_,.inl (.of An),hc,?_⟩
      walk_at "gs"
      by_cases c3:c % 5=4
      ·rw [if_pos c3]
       exact hN _ _ ⟨rfl,_,_,by omega,by omega,by omega,by omega,rfl⟩
      ·rw [if_neg c3]
       exact hN _ _ ⟨rfl,l,r,l0,l1,r0,r1,rfl⟩
   rintro σ3 H3 ⟨rfl,l',r',g0,g1,g2,g3,rfl⟩
   walk_at "gs"
   refine ⟨.inl ⟨by trivial,_,.of hP.lst⟩,?_⟩
   walk_at "gs"
   refine ⟨_,_,.inl (.of An),hc,?_⟩
   walk_at "gs"
   refine ⟨_,_,.inl (.of An),hc,?_⟩
   walk_at "gs"
   refine ⟨by show 2<=sizeLine;decide,fun tp H4 n4=>?_⟩
   have Dh:=hP.same n4.same
   refine ⟨pp,_,_,rfl,rfl,Dh.lst,by rw [ZrX];omega,(s2.trans n4.same).put n1.aH,es ++ [(tp,(_,_))],_,_,_,_,_,Dh.put n4.at_,by rw [Zr0,Zsk];omega,?_,by omega,by omega,by omega,by omega,rfl⟩
   have e:ar (es ++ [(tp,(2 * l'+c / 5 % 2,2 * r'+c / 10 % 2))])=ar es ++ [(2 * l'+c / 5 % 2,2 * r'+c / 10 % 2)]:=Zr4
   rw [e]
   refine hT.snoc ⟨?_,?_,?_,?_⟩ <;> (try rw [ZrX]) <;> show _ <;> omega
  ·rintro σ H2 ⟨s2,es,l,r,v5,v6,v7,hP,hle,hT,l0,l1,r0,r1,rfl⟩
   walk_at "gs"
   exact q pp es H2 s2 n1.aH hP hle hT
theorem Mt {t:Int} (h:0<=t) (j:Int) (h0:0<=j) (h1:j<=1):Builtin.bitXor t j=t\/Builtin.bitXor t j=MF.tn t:=by
 have:j=0\/j=1:=by omega
 rcases this with rfl | rfl
 ·left
  obtain ⟨x,rfl⟩:=ZtM h
  have:=Hn x 0
  rw [show ((0:Nat):Int)=0 from rfl] at this
  rw [this,Nat.xor_zero]
 ·right;exact Kt h
theorem ZlQ {l h:Int} (hl:0<=l) (hh:0<=h):Builtin.bitXor l h=1 ↔ l=MF.tn h:=by
 rw [<- Kt hh]
 obtain ⟨x,rfl⟩:=ZtM hl
 obtain ⟨y,rfl⟩:=ZtM hh
 have e1:=Hn x y
 have e2:=Hn y 1
 rw [show ((1:Nat):Int)=1 from rfl] at e2
 rw [e1,e2]
 constructor
 ·intro h
  have h:x ^^^ y=1:=by omega
  rw [<- h,Nat.xor_comm x y,<- Nat.xor_assoc,Nat.xor_self,Nat.zero_xor]
 ·intro h
  have h:x=y ^^^ 1:=by omega
  rw [h,Nat.xor_comm (y ^^^ 1) y,<- Nat.xor_assoc,Nat.xor_self,Nat.zero_xor]
  rfl
theorem OG:∀ {n:Int}{ps:List MF.Pr}{q:MF.Pr}{i:Int},MF.fN n ps q=some i->∃ j:Nat,i=n+j/\ps[j]? = some q/\∀ a,a<j->ps[a]? ≠ some q
 | n,[],q,i,h=>by simp [MF.fN] at h
 | n,p :: r,q,i,h=>by
  unfold MF.fN at h
  by_cases e:p=q
  ·rw [if_pos e] at h
   cases h
   exact ⟨0,by omega,by rw [e];rfl,fun a ha=>absurd ha (ZtJ _)⟩
  ·rw [if_neg e] at h
   obtain ⟨j,h1,h2,h3⟩:=OG h
   refine ⟨j+1,by omega,h2,fun a ha=>?_⟩
   cases a with
   | zero=>intro z;exact e (by simpa using z)
   | succ a=>exact h3 a (by omega)
theorem LN {n:Int}{ps:List MF.Pr}{q:MF.Pr}:q∈ps ↔ (MF.fN n ps q).isSome=true:=by
 cases h:MF.fN n ps q with
 | none=>simp [MF.M4 h]
 | some i =>
  obtain ⟨_,_,h3⟩:=MF.Mf h
  simp [Zr5 h3]
theorem tP {m:Int}{ps:List MF.Pr}{p:MF.Pr}:MF.fN (m+1) (MF.kp m ps p) p=some (MF.kn m ps p):=by
 unfold MF.kp MF.kn
 cases h:MF.fN (m+1) ps p with
 | some i=>simp [h]
 | none=>simp [MF.IW h]
theorem Sn {H H' H1:Hp}{pl kl:Addr} (s:aP H H') (u:kj pl kl H' H1) (hp:H pl=none) (hk:H kl=none):aP H H1:=fun b o e=>u b o (cq e hp) (cq e hk) (s b o e)
noncomputable def J8 (a:aN) (_:Zrk):Sp:=fun vs H Q _=>∃ (f dx pl kl kn:Addr) (m:Nat) (x y:Int) (es cx:List En),vs=[.ref f,.ref kn,.int x,.int y]/\aC a.af H f m es dx pl kl/\PN H kn (m+1) cx/\ar cx=ar es/\kn≠pl/\MF.jT m (ar es) x/\MF.jT m (ar es) y/\m<=10/\es.length<=2000 /\
 ∀ H' es' es2',(∀ b o,b≠pl->b≠kl->b≠kn->H b=some o->H' b=some o)->aC a.af H' f m es' dx pl kl->PN H' kn (m+1) es2'->ar es'=MF.bp m (ar es) x y->ar es2'=ar es'->Q (.int (MF.bt m (ar es) x y)) H'
noncomputable abbrev ZjC (a:aN) (K:Zrk):TS:=(me (cQ (bK (ag (tN K true) (kh (ah (aa 4) (ah (aa 5) aq))) (aa 1))) (fW (j8 K "list" kQ (aa 1) (ah (kh (ah (aa 4) (ah (aa 5) aq))) aq))) dI)
  (bb (ag ju (tC (.int 2)) (j8 K "list" IG (aa 1) (ah (kh (ah (aa 4) (ah (aa 5) aq))) aq))) (aE 6)))
noncomputable abbrev YX (a:aN) (K:Zrk):TS:=(cQ (pU (bK (ag (cf fun i j=>.bl (decide (j<i))) (aa 4) (tC (.int 1)))) (bK (ag (Gx K) (aa 4) (aa 5)))) (aO (ZjC a K)) dI)
noncomputable abbrev TU (a:aN) (K:Zrk):TS:=(me (cQ (bK (ag (gU K) (ag (cf fun i j=>.int (Builtin.bitXor i j)) (aa 4) (aa 5)) (tC (.int 1)))) (bb (tC (.int 0)) (aE 6)) (cQ (bK (ag (gU K) (aa 4) (tC (.int 1)))) (bb (aa 5) (aE 6)) (aO (YX a K))))
  (aD (fW (gq a.af "both" (G2 a K) [] E0 (aa 0) (ah (aa 2) (ah (aa 3) aq))))
  (cn (aa 6))))
noncomputable def JR (a:aN) (K:Zrk):TS:=(aD (bb (dk uH (ah (aa 2) (ah (aa 3) aq))) (aE 4))
  (aD (bb (dk mO (ah (aa 2) (ah (aa 3) aq))) (aE 5))
  (aD (bb (aa 4) (aE 6))
  (aO (TU a K)))))
theorem TC (T:Txt K mg a):TM P w K mg base 3 "_law_put" Cb Q4 a.gH (JR a K) :=
 fun hr=>(aG (bI (i:=4) yK.nd rfl (by walk_at "o") (dU (CJ rfl) (by rfl) T.iX PyProof.Rows.boot_min (ai (cv 2) (ai (cv 3) av))))
   (aG (bI (i:=5) yK.nd rfl (by walk_at "o") (dU (Hh rfl) (by rfl) T.iR PyProof.Rows.boot_max (ai (cv 2) (ai (cv 3) av))))
   (aG (bI (i:=6) yK.nd rfl (by walk_at "o") (cv 4))
   (aV (qE (da (cA (iq (gr hr)) (aB zJ (cv 4) (cv 5)) ax (cw _)) (aI (bI (i:=6) yK.nd rfl (by walk_at "o") ax)) (aI (da (cA (iq (gr hr)) (cv 4) ax (cw _)) (aI (bI (i:=6) yK.nd rfl (by walk_at "o") (cv 5))) (aV (aI (da (PW.pt (sH (cA mU (cv 4) ax (cw _)) (rq (cA (Fh (gr hr)) (cv 4) (cv 5) (cw _))))) (aV (qE (da (cA (Wx (gr hr)) (lj (ai (cv 4) (ai (cv 5) av))) (cv 1) (by with_unfolding_all rfl)) (aI (gB (kK ZrP ZrQ ZrR (kR kS) (cv 1) (ai (lj (ai (cv 4) (ai (cv 5) av))) av)))) d5)
   (aI (bI (i:=6) yK.nd rfl (by walk_at "o") (aB jQ ax (kK ZrP ZrV PySem.F.type_list_index (ZM (gr hr)) (cv 1) (ai (lj (ai (cv 4) (ai (cv 5) av))) av))))))) d5))))))
   (aG (gB (lg (cv 0) T.ay T.bL.e (Kh T) (hm hr) T.bL.b .nil oY (ai (cv 2) (ai (cv 3) av))))
   (aI (cG (cv 6)))))))))
theorem RB (T:Txt K mg a):aK P w K mg base dQ 4 a.gH a.jA ["_law_fold_here","_law_knots","_law_left","_law_right"] (J8 a K):=by
 refine T.gE.n.fg yK (TC T) (fun vs H Q E h=>?_) (fun H vs Q E h=>?_)
 ·obtain ⟨f,dx,pl,kl,kn,m,x,y,es,cx,rfl,_⟩:=h;rfl
 ·obtain ⟨f,dx,pl,kl,kn,m,x,y,es,cx,rfl,f5,k5,e5,mQ,sm,rh,hm,hz,q⟩:=h
  show JR a K _ [some (.ref f),some (.ref kn),some (.int x),some (.int y),none,none,none] H
  unfold JR
  have big:(20000:Nat)<=sizeLine:=by decide
  obtain ⟨H5,hH5⟩:∃ H5,H5=H:=⟨_,rfl⟩
  rw [<- hH5] at f5 k5 q ⊢
  walk_at "gs"
  have g1:(if y<x then y else x)=MF.lo x y:=rfl
  have g2:(if y > x then y else x)=MF.hi x y:=rfl
  rw [g1,g2]
  have st:=MF.Gy (m:=(m:Int)) (by omega) sm rh
  have rE:=MF.W5 x y
  have Zj:0<=MF.lo x y:=by have:=sm.1;have:=rh.1;unfold MF.lo;split <;> omega
  have je:(ar es).length=es.length:=ZrX ..
  have jm:cx.length=es.length:=by rw [<- je,<- e5];exact (ZrX ..).symm
  refine mid (fun σ' H'=>∃ es2',(∀ b o,b≠kn->H5 b=some o->H' b=some o)/\PN H' kn (m+1) es2'/\ar es2'=MF.bp m (ar es) x y/\σ'=[some (.ref f),some (.ref kn),some (.int x),some (.int y),some (.int (MF.lo x y)),some (.int (MF.hi x y)),some (.int (MF.bt m (ar es) x y))]) ?_ ?_
  ·intro N hN
   have hN':=hN
   clear hN
   unfold MF.bt MF.bp MF.nW at hN'
   generalize MF.lo x y=l at *
   generalize MF.hi x y=g at *
   have xo:=ZlQ (l:=l) (h:=g) Zj (by omega)
   walk_at "gs"
   have Ws:l=MF.tn g->l≠1/\l≠g\/l=0:=fun z=>by unfold MF.tn at z;split at z <;> omega
   by_cases c1:Builtin.bitXor l g=1
   ·rw [if_pos c1]
    have z:=xo.mp c1
    have hz:=Ws z
    refine hN' _ _ ⟨cx,fun b o _ e=>e,k5,?_,?_⟩
    ·by_cases c0:l=0
     ·rw [if_pos c0];exact e5
     ·rw [if_neg c0,if_neg (by omega),if_pos z];exact e5
    ·by_cases c0:l=0
     ·rw [if_pos c0]
     ·rw [if_neg c0,if_neg (by omega),if_pos z]
   ·rw [if_neg c1]
    have nz:¬ l=MF.tn g:=fun z=>c1 (xo.mpr z)
    by_cases c2:l=1
    ·rw [if_pos c2]
     refine hN' _ _ ⟨cx,fun b o _ e=>e,k5,?_,?_⟩
     ·rw [if_neg (by omega),if_pos (.inl c2)];exact e5
     ·rw [if_neg (by omega),if_pos (.inl c2)]
    ·rw [if_neg c2]
     by_cases c3:1<l
     ·walk_at "go"
      rw [if_pos c3]
      by_cases c4:l=g
      ·rw [if_neg (by simpa using c4)]
       refine hN' _ _ ⟨cx,fun b o _ e=>e,k5,?_,?_⟩
       ·rw [if_neg (by omega),if_pos (.inr c4)];exact e5
       ·rw [if_neg (by omega),if_pos (.inr c4),c4]
      ·rw [if_pos c4]
       rw [if_neg (show ¬ l=0 by omega),if_neg (show ¬ (l=1\/l=g) by omega),if_neg nz] at hN'
       walk_at "go"
       refine mid (fun σ' H'=>∃ es2',(∀ b o,b≠kn->H5 b=some o->H' b=some o)/\PN H' kn (m+1) es2'/\ar es2'=MF.kp m (ar es) (l,g)/\σ'=[some (.ref f),some (.ref kn),some (.int x),some (.int y),some (.int l),some (.int g),some (.int l)]) ?_ ?_
       ·intro N2 kN
        walk_at "gs"
        refine ⟨by show 2<=sizeLine;decide,fun tq H6 n6=>⟨m+1,cx,(l,g),n6.at_,k5.same n6.same,?_⟩⟩
        have k6:=k5.same n6.same
        by_cases hin:(l,g)∈ar cx
        ·rw [if_neg (fun z=>z hin)]
         refine kN _ _ ⟨cx,fun b o _ e=>n6.same _ _ e,k6,?_,rfl⟩
         unfold MF.kp
         rw [e5] at hin ⊢
         rw [if_pos (LN.mp hin)]
        ·rw [if_pos hin]
         refine ⟨.inl ⟨by trivial,_,.of k6.lst⟩,by show 2<=sizeLine;decide,fun tr H7 n7=>?_⟩
         have k7:=k6.same n7.same
         refine ⟨kn,_,_,rfl,rfl,k7.lst,by rw [Zr0,Zsb,ZrX];omega,kN _ _ ⟨cx ++ [(tr,(l,g))],fun b o nb e=>by rw [aQ nb];exact n7.same _ _ (n6.same _ _ e),k7.put n7.at_,?_,rfl⟩⟩
         unfold MF.kp
         rw [e5] at hin
         rw [if_neg (fun z=>hin (LN.mpr z)),<- e5]
         exact Zr4
       rintro σ6 H6 ⟨es6,u6,k6,p6,rfl⟩
       have hfk:MF.fN ((m:Int)+1) (ar es6) (l,g)=some (MF.kn m (ar es) (l,g)):=by
        rw [p6]
        exact tP
       obtain ⟨j,zc,hj2,hj3⟩:=OG hfk
       walk_at "gs"
       refine ⟨.inl ⟨by trivial,_,.of k6.lst⟩,by show 2<=sizeLine;decide,fun tq H7 n7=>⟨m+1,es6,(l,g),j,k6.same n7.same,n7.at_,hj2,hj3,?_⟩⟩
       walk_at "gs"
       refine hN' _ _ ⟨es6,fun b o nb e=>n7.same _ _ (u6 b o nb e),k6.same n7.same,p6,?_⟩
       rw [zc]
       congr 7
     ·walk_at "go"
      rw [if_neg c3]
      refine hN' _ _ ⟨cx,fun b o _ e=>e,k5,?_,?_⟩
      ·rw [if_pos (by omega)];exact e5
      ·rw [if_pos (by omega),show l=0 by omega]
  rintro σ6 H6 ⟨es6,u6,k6,p6,rfl⟩
  have f6:aC a.af H6 f m es dx pl kl:=⟨u6 _ _ (cZ f5.ins k5.lst (fun z=>nomatch z)) f5.ins,u6 _ _ mQ.symm f5.ck.lst,u6 _ _ (cZ f5.ck.ig k5.lst (fun z=>nomatch z)) f5.ck.ig,fun e he=>u6 _ _ (cZ (f5.ck.tup e he) k5.lst (fun z=>nomatch z)) (f5.ck.tup e he)⟩
  have jx:=sm.2
  have jy:=rh.2
  walk_at "gs"
  refine ⟨f,dx,_,rfl,f6.ins,rfl,f,dx,pl,kl,m,x,y,es,rfl,f6,by omega,fun _ H8 es8 u8 f8 q8=>?_,fun z=>absurd ⟨sm.1,rh.1,by omega,by omega⟩ z⟩
  exact q H8 es8 es6 (fun b o n1 n2 n3 e=>u8 b o n1 n2 (u6 b o n3 e)) f8 (k6.un f6.ck.lst f6.ck.ig mQ u8) q8 (by rw [p6,q8])
noncomputable def Sa (a:aN) (_:Zrk):Sp:=fun vs H Q _=>∃ (cp:Addr) (m:Nat) (ep:List En),vs=[.int m,.ref cp]/\PL H cp ep/\qy m (ar ep)/\1<=m/\m<=10/\ep.length<=110 /\
 ∀ tp f dx pl kl kn es cx H',aP H H'->H' tp=some (.tup [.ref f,.ref kn])->aC a.af H' f m es dx pl kl->H f=none->H pl=none->H kl=none->H kn=none->PN H' kn (m+1) cx->ar cx=ar es->MF.Ok m (ar es)->es.length<=ep.length->kn≠pl->Q (.ref tp) H'
noncomputable abbrev Vm (a:aN) (K:Zrk):TS:=(aD (bb (ag (cf fun i j=>.int (Builtin.bitXor i j)) (ag (bJ K) (aa 4) (ag (bU eA fun i j=>.int (i / j)) (aa 6) (tC (.int 2)))) (ag (bU (fun _ j=>0<j) fun i j=>.int (i % j)) (aa 6) (tC (.int 2)))) (aE 8))
  (fW (j8 K "list" kQ (aa 4) (ah (cP (J8 a K) [] E0 (ah (aa 2) (ah (aa 3) (ah (aa 7) (ah (aa 8) aq))))) aq))))
noncomputable abbrev Z1 (a:aN) (K:Zrk):TS:=(aD (bb (ag (cf fun i j=>.int (Builtin.bitXor i j)) (ag (bJ K) (aa 4) (ag (bU eA fun i j=>.int (i / j)) (aa 5) (tC (.int 2)))) (ag (bU (fun _ j=>0<j) fun i j=>.int (i % j)) (aa 5) (tC (.int 2)))) (aE 7))
  (aO (Vm a K)))
noncomputable abbrev Zv (a:aN) (K:Zrk):TS:=(aD (eD (jt K (aa 1)) (pj K 2 (rL (aE 5) (rL (aE 6) o9))) (aO (Z1 a K)))
  (cn (kh (ah (aa 2) (ah (aa 3) aq)))))
noncomputable abbrev Ziy (a:aN) (K:Zrk):TS:=(aD (bb (jn (jK (ah (ag ef (aa 0) (tC (.int 1))) aq)) 1 [] (aE 0) lx (ag ju (tC (.int 2)) (aa 0))) (aE 4))
  (aO (Zv a K)))
noncomputable abbrev Zix (a:aN) (K:Zrk):TS:=(aD (bb (jn (jK (ah (ag ef (aa 0) (tC (.int 1))) aq)) 1 [] (aE 0) lx (tC .non)) (aE 3))
  (aO (Ziy a K)))
noncomputable def LP (a:aN) (K:Zrk):TS:=(aD (bb (Aq a.af (Hz a K) [] E0 (ah (aa 0) aq)) (aE 2))
  (aO (Zix a K)))
theorem Xe (T:Txt K mg a):TM P w K mg base 4 "_law_fold" vR Hf a.fK (LP a K) :=
 fun hr=>(aG (bI (i:=2) sT.nd rfl (by walk_at "o") (Kb T.mk_Fold (QT T) (hm hr) rfl T.mn T.cM.b .nil bZ (ai (cv 0) av)))
   (aV (aG (xE (i:=3) (N:=["_law_k"]) (k:=1) (sel:=[]) (aT.of (bx vR).names (by decide +kernel)) (bA.of Hf (by decide +kernel)) rfl (lZ rfl T.aJ (ai (aB eC (cv 0) ax) av)) (fun _ _ _ _=>(dP (i:=0) (show Zss (["_law_k"]:List Str) by decide +kernel) rfl (by walk_at "o"))) (fun _ _ _ _=>sR) (fun _ _ _ _=>kg) sT.nd rfl (by walk_at "o") rfl)
   (aV (aG (xE (i:=4) (N:=["_law_k"]) (k:=1) (sel:=[]) (aT.of (bx vR).names (by decide +kernel)) (bA.of Hf (by decide +kernel)) rfl (lZ rfl T.aJ (ai (aB eC (cv 0) ax) av)) (fun _ _ _ _=>(dP (i:=0) (show Zss (["_law_k"]:List Str) by decide +kernel) rfl (by walk_at "o"))) (fun _ _ _ _=>sR) (fun _ _ _ _=>(aB jQ ax (cv 0))) sT.nd rfl (by walk_at "o") rfl)
   (aV (aG (iY PassesOwn.never rfl (kM (cv 1)) (M0 rfl (zv (dP (i:=5) sT.nd rfl (by walk_at "o")) (zv (dP (i:=6) sT.nd rfl (by walk_at "o")) MT))) (aV (aG (bI (i:=7) sT.nd rfl (by walk_at "o") (aB zJ (bP bQ (cv 4) (aB eE (cv 5) ax) (fun _ _=>rfl)) (aB gh (cv 5) ax)))
   (aV (aG (bI (i:=8) sT.nd rfl (by walk_at "o") (aB zJ (bP bQ (cv 4) (aB eE (cv 6) ax) (fun _ _=>rfl)) (aB gh (cv 6) ax)))
   (aI (gB (kK ZrP ZrQ ZrR (kR kS) (cv 4) (ai (dg T.gE (RB T) (hm hr) bZ (ai (cv 2) (ai (cv 3) (ai (cv 7) (ai (cv 8) av))))) av)))))))))
   (aI (cG (lj (ai (cv 2) (ai (cv 3) av))))))))))))
theorem VO (T:Txt K mg a):aK P w K mg base dQ 5 a.fK a.jb ["_law_many","_law_pairs_here"] (Sa a K):=by
 refine T.iz.n.fg sT (Xe T) (fun vs H Q E h=>?_) (fun H vs Q E h=>?_)
 ·obtain ⟨cp,m,ep,rfl,_⟩:=h;rfl
 ·obtain ⟨cp,m,ep,rfl,hS,hT,m1,m10,hn,q⟩:=h
  show LP a K _ [some (.int m),some (.ref cp),none,none,none,none,none,none,none] H
  unfold LP
  have big:(20000:Nat)<=sizeLine:=by decide
  walk_at "gs"
  refine mk_Fold fun f dx pl kl H1 s1 ff fp fk f1=>?_
  walk_at "gs"
  rw [show ((m:Int)+1).toNat=m+1 by omega]
  refine GY (lo:=0) (fun _=>.non) rfl (by omega) (fun i H' Q' hi s' q'=>?_) (fun kn H2 n2=>?_)
  ·walk_at "gs"
   exact q'
  have e2:((Zr6 (m+1)).map fun i:Nat=>(fun _:Int=>V.non) (0+(i:Nat)))=ZrZ (m+1) V.non ++ ([]:List En).map fun e=>V.ref e.1:=by
   rw [ZsB,Zsz]
   exact List.map_const' .. ▸ by rw [ZsG]
  rw [e2] at n2
  walk_at "gs"
  refine GY (lo:=0) (fun k=>.int (2 * k)) rfl (by omega) (fun i H' Q' hi s' q'=>?_) (fun tl H3 n3=>?_)
  ·walk_at "gs"
   exact q'
  have e3:((Zr6 (m+1)).map fun i:Nat=>(fun k:Int=>V.int (2 * k)) (0+(i:Nat)))=((Zr6 (m+1)).map fun i:Nat=>2 * (i:Int)).map V.int:=by
   rw [Zsd]
   refine ZsL fun i _=>?_
   show V.int (2 * (0+(i:Int)))=V.int (2 * (i:Int))
   rw [Int.zero_add]
  rw [show ((m:Int)+1).toNat=m+1 by omega] at n3
  rw [e3] at n3
  have ke:=(s1.trans n2.same).trans n3.same
  walk_at "gs"
  have s4:aP H3 H3:=aP.refl _
  have uQ:=ke.trans s4
  have Td:=hS.same ke
  have kd:ep.length=ep.length:=rfl
  have f4:=((f1.same n2.same).same n3.same).same s4
  have qZ:H kn=none:=s1.nil n2.aH
  have Qb:H tl=none:=(s1.trans n2.same).nil n3.aH
  have mQ:kn≠pl:=(cq f1.ck.lst n2.aH).symm
  have Ou:tl≠pl:=(cq (n2.same _ _ f1.ck.lst) n3.aH).symm
  have Sz:tl≠kn:=(cq n2.at_ n3.aH).symm
  have npp:cp≠pl:=cq hS.lst fp
  have npk:cp≠kn:=cq hS.lst qZ
  have npt:cp≠tl:=cq hS.lst Qb
  refine ⟨⟨_,.of Td.lst⟩,rD (xs:=ep.map fun e=>V.ref e.1) (fun i σ H5=>aP H H5/\PL H5 cp ep/\∃ (es cx:List En) (ts:List Int) (w5 w6 w7 w8:Option V),aC a.af H5 f m es dx pl kl/\PN H5 kn (m+1) cx/\ar cx=ar es/\MF.Ok m (ar es)/\es.length<=i/\H5 tl=some (.lst (ts.map V.int))/\ts.length=m+1+i/\(∀ t∈ts,MF.jT m (ar es) t)/\σ=[some (.int m),some (.ref cp),some (.ref f),some (.ref kn),some (.ref tl),w5,w6,w7,w8])
   ⟨uQ,Td,[],[],_,_,_,_,_,f4,⟨s4 _ _ (n3.same _ _ n2.at_),fun e he=>by simp at he⟩,rfl,fun i p hp=>by simp [ar] at hp,Zts _,s4 _ _ n3.at_,by rw [ZrX,ZsG],fun t ht=>?_,rfl⟩ ?_ ?_ ?_⟩
  ·obtain ⟨k,hk,rfl⟩:=Zr8.mp ht
   rw [ZsY] at hk
   exact ⟨by omega,by show _<2 * ((m:Int)+1+(([]:List MF.Pr).length:Int));rw [Zst];omega⟩
  ·rintro i σ H5 _ ⟨_,hp5,_⟩
   exact .of hp5.lst
  ·rintro i v σ H5 hv ⟨s5,hp5,es,cx,ts,w5,w6,w7,w8,f5,k5,e5,ok5,hl5,t5,tl5,ti5,rfl⟩
   obtain ⟨e,he,rfl⟩:=xV hv
   have hte:=hp5.tup e (Zr5 he)
   obtain ⟨x0,x1,y0,y1⟩:=hT i e.2 (by rw [Zsa,he];rfl)
   have hi:i<ep.length:=(Zr1.mp he).1
   have atT:∀ z:Int,0<=z->z<2 * ((m:Int)+1+i)->∃ t,fJ (ts.map V.int) (z / 2)=some (.int t)/\MF.jT m (ar es) t:=fun z z0 z1=>by
    have hz:(z / 2).toNat<ts.length:=by omega
    refine ⟨ts[(z / 2).toNat],?_,ti5 _ (ZsD hz)⟩
    rw [oS .non (by omega) (by rw [ZrX];omega),Zsc,Zsa,ZrY hz]
    rfl
   obtain ⟨u,hu,inu⟩:=atT e.2.1 x0 x1
   obtain ⟨v,K5,inv⟩:=atT e.2.2 y0 y1
   walk_at "gs"
   refine ⟨e.1,_,rfl,.of hte,rfl,_,_,rfl,_,_,rfl,rfl,?_⟩
   walk_at "gs"
   refine ⟨_,_,.inl (.of t5),hu,?_⟩
   walk_at "gs"
   refine ⟨_,_,.inl (.of t5),K5,?_⟩
   walk_at "gs"
   have sm:MF.jT m (ar es) (Builtin.bitXor u (e.2.1 % 2)):=by
    rcases Mt inu.1 (e.2.1 % 2) (by omega) (by omega) with z | z <;> rw [z]
    ·exact inu
    ·exact inu.tn
   have rh:MF.jT m (ar es) (Builtin.bitXor v (e.2.2 % 2)):=by
    rcases Mt inv.1 (e.2.2 % 2) (by omega) (by omega) with z | z <;> rw [z]
    ·exact inv
    ·exact inv.tn
   generalize Builtin.bitXor u (e.2.1 % 2)=x at sm ⊢
   generalize Builtin.bitXor v (e.2.2 % 2)=y at rh ⊢
   have st:=MF.Gy (m:=(m:Int)) (by omega) sm rh
   have je:(ar es).length=es.length:=ZrX ..
   refine ⟨.inl ⟨by trivial,_,.of t5⟩,f,dx,pl,kl,kn,m,x,y,es,cx,rfl,f5,k5,e5,mQ,sm,rh,m10,by omega,fun H8 es8 es6 u8 f8 k8 q8 p8=>?_⟩
   have Xo:tl≠kl:=cZ t5 f5.ck.ig (fun z=>nomatch z)
   have t8:=u8 _ _ Ou Xo Sz t5
   have s8:aP H H8:=fun b o e=>u8 _ _ (cq e fp) (cq e fk) (cq e qZ) (s5 _ _ e)
   have hp8:PL H8 cp ep:=hS.same s8
   refine ⟨tl,_,_,rfl,rfl,t8,by rw [ZrX];omega,?_⟩
   have nl:∀ {b:Addr}{o:HO},b≠tl->H8 b=some o->upd H8 tl (.lst (ts.map V.int ++ [.int (MF.bt m (ar es) x y)])) b=some o:=fun n e=>by rw [aQ n];exact e
   have f7:aC a.af (upd H8 tl (.lst (ts.map V.int ++ [.int (MF.bt m (ar es) x y)]))) f m es8 dx pl kl:=⟨nl (cZ f8.ins t8 (fun z=>nomatch z)) f8.ins,nl Ou.symm f8.ck.lst,nl (cZ f8.ck.ig t8 (fun z=>nomatch z)) f8.ck.ig,fun e he=>nl (cZ (f8.ck.tup e he) t8 (fun z=>nomatch z)) (f8.ck.tup e he)⟩
   have k7:PN (upd H8 tl (.lst (ts.map V.int ++ [.int (MF.bt m (ar es) x y)]))) kn (m+1) es6:=⟨nl Sz.symm k8.lst,fun e he=>nl (cZ (k8.tup e he) t8 (fun z=>nomatch z)) (k8.tup e he)⟩
   have s7:=s8.put (o:=.lst (ts.map V.int ++ [.int (MF.bt m (ar es) x y)])) Qb
   have t7:upd H8 tl (.lst (ts.map V.int ++ [.int (MF.bt m (ar es) x y)])) tl=some (.lst ((ts ++ [MF.bt m (ar es) x y]).map V.int)):=by rw [cz,Zr4];rfl
   have l8:=st.hi
   have l9:=st.lo
   have oU:=st.ok ok5
   have LC:=st.Pd
   simp only [MF.bo] at l8 l9 oU LC
   rw [<- q8] at l8 l9 oU LC
   have Wt:(ar es8).length=es8.length:=ZrX ..
   refine ⟨s7,hS.same s7,es8,es6,_,_,_,_,_,f7,k7,p8,oU,by omega,t7,by rw [Zr0,Zsk];omega,fun t ht=>?_,rfl⟩
   rcases Zr3.mp ht with z | z
   ·have:=ti5 t z
    exact ⟨this.1,by have:=this.2;omega⟩
   ·rw [Zr2] at z
    subst z
    exact LC
  ·rintro σ H5 ⟨s5,hp5,es,cx,ts,w5,w6,w7,w8,f5,k5,e5,ok5,hl5,t5,tl5,ti5,rfl⟩
   rw [ZrX,kd] at hl5
   walk_at "gs"
   refine ⟨by show 2<=sizeLine;decide,fun tp H6 n6=>?_⟩
   exact q tp f dx pl kl kn es cx H6 (s5.trans n6.same) n6.at_ (f5.same n6.same) ff fp fk qZ (k5.same n6.same) e5 ok5 hl5 mQ
theorem wW {m:Int}{ps:List MF.Pr}{l g:Int} (ok:MF.Ok m ps) (h2:2<=l) (hl:l+1<g) (hg:2 * (m+1+ps.length) - 1<=g):MF.bp m ps g l=ps ++ [(l,g)]:=by
 have e1:MF.lo g l=l:=by unfold MF.lo;split <;> omega
 have e2:MF.hi g l=g:=by unfold MF.hi;split <;> omega
 have e3:MF.nW g l=none:=by
  unfold MF.nW MF.tn
  rw [e1,e2]
  split
  ·omega
  ·split
   ·omega
   ·rw [if_neg (by split <;> omega)]
 unfold MF.bp
 rw [e3,e1,e2]
 show MF.kp m ps (l,g)=_
 unfold MF.kp
 rw [if_neg]
 intro z
 have:=LN.mpr z
 obtain ⟨i,hi⟩:=Zsr.mp this
 have h:=(ok i _ hi).2.2.2
 have Fe:=(Zr1.mp hi).1
 simp only at h
 omega
theorem aC.off {C:Addr}{H:Hp}{f dx pl kl b:Addr}{m:Int}{es:List En}{xs:List V}{o:HO} (h:aC C H f m es dx pl kl) (hb:H b=some (.lst xs)) (nb:b≠pl):aC C (upd H b o) f m es dx pl kl:=by
 have nl:∀ {c:Addr}{o':HO},c≠b->H c=some o'->upd H b o c=some o':=fun n e=>by rw [aQ n];exact e
 exact ⟨nl (cZ h.ins hb (fun z=>nomatch z)) h.ins,nl nb.symm h.ck.lst,nl (cZ h.ck.ig hb (fun z=>nomatch z)) h.ck.ig,fun e he=>nl (cZ (h.ck.tup e he) hb (fun z=>nomatch z)) (h.ck.tup e he)⟩
theorem Iy {C:Addr}{H:Hp}{f dx pl kl kn:Addr}{m:Int}{es:List En}{xs:List V}{o:HO} (h:aC C H f m es dx pl kl) (hk:H kn=some (.lst xs)) (n:kn≠pl):aC C (upd H kn o) f m es dx pl kl :=
 ⟨by rw [aQ (cZ h.ins hk (fun z=>nomatch z))];exact h.ins,by rw [aQ n.symm];exact h.ck.lst,by rw [aQ (cZ h.ck.ig hk (fun z=>nomatch z))];exact h.ck.ig,fun e he=>by rw [aQ (cZ (h.ck.tup e he) hk (fun z=>nomatch z))];exact h.ck.tup e he⟩
theorem Fy {H:Hp}{p l:Addr}{n:Nat}{es:List En}{xs:List V}{o:HO} (h:PN H p n es) (hk:H l=some (.lst xs)) (ne:l≠p):PN (upd H l o) p n es :=
 ⟨by rw [aQ ne.symm];exact h.lst,fun e he=>by rw [aQ (cZ (h.tup e he) hk (fun z=>nomatch z))];exact h.tup e he⟩
noncomputable def RA (a:aN) (_:Zrk):Sp:=fun vs H Q _=>∃ (cp:Addr) (m:Nat) (ns:List Int),vs=[.int m,.ref cp]/\H cp=some (.lst (ns.map V.int))/\3<=m/\m<=10/\ns.length<=4 /\
 ∀ tp f dx pl kl kn es cx H',aP H H'->H' tp=some (.tup [.ref f,.ref kn])->aC a.af H' f m es dx pl kl->PN H' kn (m+1) cx->ar cx=ar es->MF.Ok m (ar es)->701<=es.length->es.length<=705->Q (.ref tp) H'
noncomputable abbrev Ziw (a:aN) (K:Zrk):TS:=(aD (fW (gq a.af "both" (G2 a K) [] E0 (aa 2) (ah (aa 5) (ah (aa 6) aq))))
  (fW (j8 K "list" kQ (aa 3) (ah (kh (ah (aa 6) (ah (aa 5) aq))) aq))))
noncomputable abbrev Ziv (a:aN) (K:Zrk):TS:=(aD (bb (ag (bJ K) (ik (yj [(.int 2),(.int 4),(.int 3),(.int 5)])) (ag (bU (fun _ j=>0<j) fun i j=>.int (i % j)) (aa 4) (tC (.int 4)))) (aE 6))
  (aO (Ziw a K)))
noncomputable abbrev Ux (a:aN) (K:Zrk):TS:=(aD (bb (ag (cf fun i j=>.int (i - j)) (ag ju (tC (.int 2)) (dk (iB K) (ah (aa 3) aq))) (tC (.int 1))) (aE 5))
  (aO (Ziv a K)))
noncomputable abbrev Zit (a:aN) (K:Zrk):TS:=(aD (bb (ag ju (tC (.int 2)) (ag ef (tC (.int 1)) (ag (bU (fun _ j=>0<j) fun i j=>.int (i % j)) (ag ef (ag ef (tC (.int 2)) (ag (bU eA fun i j=>.int (i / j)) (aa 9) (tC (.int 12)))) (aa 8)) (aa 0)))) (aE 11))
  (fW (j8 K "list" kQ (aa 7) (ah (cP (J8 a K) [] E0 (ah (aa 2) (ah (aa 3) (ah (ag (cf fun i j=>.int (Builtin.bitXor i j)) (aa 10) (ag (bU (fun _ j=>0<j) fun i j=>.int (i % j)) (aa 9) (tC (.int 2)))) (ah (ag (cf fun i j=>.int (Builtin.bitXor i j)) (aa 11) (ag (bU (fun _ j=>0<j) fun i j=>.int (i % j)) (ag (bU eA fun i j=>.int (i / j)) (aa 9) (tC (.int 2))) (tC (.int 2)))) aq))))) aq))))
noncomputable abbrev Zis (a:aN) (K:Zrk):TS:=(aD (bb (ag (bJ K) (aa 7) (ag (cf fun i j=>.int (i - j)) (ag (cf fun i j=>.int (i - j)) (dk (iB K) (ah (aa 7) aq)) (tC (.int 1))) (ag (bU (fun _ j=>0<j) fun i j=>.int (i % j)) (ag (bU eA fun i j=>.int (i / j)) (aa 9) (tC (.int 4))) (dk uH (ah (tC (.int 3)) (ah (dk (iB K) (ah (aa 7) aq)) aq)))))) (aE 10))
  (aO (Zit a K)))
noncomputable abbrev UU (a:aN) (K:Zrk):TS:=(aD (bb (ag (bU eA fun i j=>.int (i / j)) (ag (bJ K) (aa 1) (aa 8)) (tC (.int 2))) (aE 9))
  (aO (Zis a K)))
noncomputable abbrev Ziq (a:aN) (K:Zrk):TS:=(aD (eD (jK (ah (dk (iB K) (ah (aa 1) aq)) aq)) (aE 8) (aO (UU a K)))
  (cn (kh (ah (aa 2) (ah (aa 3) aq)))))
noncomputable abbrev Zip (a:aN) (K:Zrk):TS:=(aD (bb (ik (ah (ag ju (tC (.int 2)) (ag (cf fun i j=>.int (i - j)) (dk (iB K) (ah (aa 3) aq)) (tC (.int 1)))) aq)) (aE 7))
  (aO (Ziq a K)))
noncomputable abbrev VM (a:aN) (K:Zrk):TS:=(aD (fW (j8 K "list" kQ (aa 3) (ah (kh (yj [(.int 2),(.int 4)])) aq)))
  (aD (eD (jK (ah (tC (.int 700)) aq)) (aE 4) (aO (Ux a K)))
  (aO (Zip a K))))
noncomputable abbrev Zht (a:aN) (K:Zrk):TS:=(aD (bb (jn (jK (ah (ag ef (aa 0) (tC (.int 1))) aq)) 1 [] (aE 0) lx (tC .non)) (aE 3))
  (aD (fW (gq a.af "both" (G2 a K) [] E0 (aa 2) (yj [(.int 2),(.int 4)])))
  (aO (VM a K))))
noncomputable def Mm (a:aN) (K:Zrk):TS:=(aD (bb (Aq a.af (Hz a K) [] E0 (ah (aa 0) aq)) (aE 2))
  (aO (Zht a K)))
theorem Zkk (T:Txt K mg a):TM P w K mg base 4 "_law_long" zH Lw a.fH (Mm a K) :=
 fun hr=>(aG (bI (i:=2) pf.nd rfl (by walk_at "o") (Kb T.mk_Fold (QT T) (hm hr) rfl T.mn T.cM.b .nil bZ (ai (cv 0) av)))
   (aV (aG (xE (i:=3) (N:=["_law_k"]) (k:=1) (sel:=[]) (aT.of (bx zH).names (by decide +kernel)) (bA.of Lw (by decide +kernel)) rfl (lZ rfl T.aJ (ai (aB eC (cv 0) ax) av)) (fun _ _ _ _=>(dP (i:=0) (show Zss (["_law_k"]:List Str) by decide +kernel) rfl (by walk_at "o"))) (fun _ _ _ _=>sR) (fun _ _ _ _=>kg) pf.nd rfl (by walk_at "o") rfl)
   (aG (gB (lg (cv 2) T.ay T.bL.e (Kh T) (hm hr) T.bL.b .nil oY (yX (vs:=[(.int 2),(.int 4)]) rfl)))
   (aV (aG (gB (kK ZrP ZrQ ZrR (kR kS) (cv 3) (ai (lj (yX (vs:=[(.int 2),(.int 4)]) rfl)) av)))
   (aG (iY PassesOwn.never rfl (lZ rfl T.aJ (ai ax av)) (dP (i:=4) pf.nd rfl (by walk_at "o")) (aV (aG (bI (i:=5) pf.nd rfl (by walk_at "o") (aB kE (aB jQ ax (dU jw (by rfl) T.bj PySem.boot_len (ai (cv 3) av))) ax))
   (aV (aG (bI (i:=6) pf.nd rfl (by walk_at "o") (bP bQ (jo (yX (vs:=[(.int 2),(.int 4),(.int 3),(.int 5)]) rfl)) (aB gh (cv 4) ax) (fun _ _=>rfl)))
   (aV (aG (gB (lg (cv 2) T.ay T.bL.e (Kh T) (hm hr) T.bL.b .nil oY (ai (cv 5) (ai (cv 6) av))))
   (aI (gB (kK ZrP ZrQ ZrR (kR kS) (cv 3) (ai (lj (ai (cv 6) (ai (cv 5) av))) av)))))))))))
   (aV (aG (bI (i:=7) pf.nd rfl (by walk_at "o") (jo (ai (aB jQ ax (aB kE (dU jw (by rfl) T.bj PySem.boot_len (ai (cv 3) av)) ax)) av)))
   (aV (aG (iY PassesOwn.never rfl (lZ rfl T.aJ (ai (dU jw (by rfl) T.bj PySem.boot_len (ai (cv 1) av)) av)) (dP (i:=8) pf.nd rfl (by walk_at "o")) (aV (aG (bI (i:=9) pf.nd rfl (by walk_at "o") (aB eE (bP bQ (cv 1) (cv 8) (fun _ _=>rfl)) ax))
   (aV (aG (bI (i:=10) pf.nd rfl (by walk_at "o") (bP bQ (cv 7) (aB kE (aB kE (dU jw (by rfl) T.bj PySem.boot_len (ai (cv 7) av)) ax) (aB gh (aB eE (cv 9) ax) (dU (CJ rfl) (by rfl) T.iX PyProof.Rows.boot_min (ai ax (ai (dU jw (by rfl) T.bj PySem.boot_len (ai (cv 7) av)) av))))) (fun _ _=>rfl)))
   (aV (aG (bI (i:=11) pf.nd rfl (by walk_at "o") (aB jQ ax (aB eC ax (aB gh (aB eC (aB eC ax (aB eE (cv 9) ax)) (cv 8)) (cv 0)))))
   (aI (gB (kK ZrP ZrQ ZrR (kR kS) (cv 7) (ai (dg T.gE (RB T) (hm hr) bZ (ai (cv 2) (ai (cv 3) (ai (aB zJ (cv 10) (aB gh (cv 9) ax)) (ai (aB zJ (cv 11) (aB gh (aB eE (cv 9) ax) ax)) av))))) av)))))))))))
   (aI (cG (lj (ai (cv 2) (ai (cv 3) av))))))))))))))))
theorem Vs (T:Txt K mg a):aK P w K mg base dQ 5 a.fH a.iN ["_law_many","_law_cells"] (RA a K):=by
 refine T.iW.n.fg pf (Zkk T) (fun vs H Q E h=>?_) (fun H vs Q E h=>?_)
 ·obtain ⟨cp,m,ns,rfl,_⟩:=h;rfl
 ·obtain ⟨cp,m,ns,rfl,hS,m3,m10,hn,q⟩:=h
  show Mm a K _ [some (.int m),some (.ref cp),none,none,none,none,none,none,none,none,none,none] H
  unfold Mm
  have big:(20000:Nat)<=sizeLine:=by decide
  walk_at "gs"
  refine mk_Fold fun f dx pl kl H1 s1 ff fp fk f1=>?_
  walk_at "gs"
  rw [show ((m:Int)+1).toNat=m+1 by omega]
  refine GY (lo:=0) (fun _=>.non) rfl (by omega) (fun i H' Q' hi s' q'=>?_) (fun kn H2 n2=>?_)
  ·walk_at "gs"
   exact q'
  have e2:((Zr6 (m+1)).map fun i:Nat=>(fun _:Int=>V.non) (0+(i:Nat)))=ZrZ (m+1) V.non ++ ([]:List En).map fun e=>V.ref e.1:=by
   rw [ZsB,Zsz]
   exact List.map_const' .. ▸ by rw [ZsG]
  rw [e2] at n2
  have qZ:H kn=none:=s1.nil n2.aH
  have mQ:kn≠pl:=(cq f1.ck.lst n2.aH).symm
  have kO:=s1.trans n2.same
  have f2:=f1.same n2.same
  have ok0:MF.Ok m (ar []):=fun i p hp=>by simp [ar] at hp
  walk_at "gs"
  refine ⟨f,dx,_,rfl,f2.ins,rfl,f,dx,pl,kl,m,2,4,[],rfl,f2,by simp,fun _ H3 es3 u3 f3 q3=>?_,fun z=>absurd ⟨by omega,by omega,by simp only [Zst];omega,by simp only [Zst];omega⟩ z⟩
  have ke:=Sn kO u3 fp fk
  have k3:PN H3 kn (m+1) []:=PN.un ⟨n2.at_,fun e he=>by simp at he⟩ f2.ck.lst f2.ck.ig mQ u3
  walk_at "go"
  refine ⟨.inl ⟨by trivial,_,.of k3.lst⟩,by show 2<=sizeLine;decide,fun tr H4 n4=>?_⟩
  have k4:=k3.same n4.same
  have f4:=f3.same n4.same
  refine ⟨kn,_,_,rfl,rfl,k4.lst,by rw [Zr0,Zsb,ZrX];simp only [Zst];omega,?_⟩
  have k5:=k4.put (q:=((2:Int),(4:Int))) n4.at_
  have f5:=Iy (o:=.lst (ZrZ (m+1) V.non ++ (([]:List En).map fun e=>V.ref e.1) ++ [.ref tr])) f4 k4.lst mQ
  have A2:=(ke.trans n4.same).put (o:=.lst (ZrZ (m+1) V.non ++ (([]:List En).map fun e=>V.ref e.1) ++ [.ref tr])) qZ
  have q3':ar es3=[((2:Int),(4:Int))]:=q3
  have Xc:MF.Ok m (ar es3):=by
   rw [q3']
   intro i p hp
   match i,hp with
   | 0,hp=>cases hp;exact ⟨by omega,by omega,by omega,by omega⟩
   | i+1,hp=>cases hp
  have U2:es3.length=1:=by have:=congrArg Zs9 q3';rwa [ZrX] at this
  generalize upd H4 kn (.lst (ZrZ (m+1) V.non ++ (([]:List En).map fun e=>V.ref e.1) ++ [.ref tr]))=H5 at k5 f5 A2 ⊢
  refine ⟨by omega,by omega,?_⟩
  refine nQ (fun j σ H6=>aP H H6/\∃ (es cx:List En) (v4 v5 v6:Option V),aC a.af H6 f m es dx pl kl/\PN H6 kn (m+1) cx/\ar cx=ar es/\MF.Ok m (ar es)/\es.length=j+1/\σ=[some (.int m),some (.ref cp),some (.ref f),some (.ref kn),v4,v5,v6,none,none,none,none,none]) ⟨A2,es3,_,_,_,_,f5,k5,q3'.symm,Xc,U2,rfl⟩ ?_ ?_
  ·rintro j σ H6 hj ⟨s6,es,cx,v4,v5,v6,f6,k6,e6,ok6,l6,rfl⟩
   have hj:j<700:=hj
   have je:(ar es).length=es.length:=ZrX ..
   have jm:cx.length=es.length:=by rw [<- je,<- e6];exact (ZrX ..).symm
   walk_at "gs"
   refine .inl ⟨_,.inl (.of k6.lst),?_⟩
   rw [Zr0,Zsb,ZrX,jm]
   walk_at "gs"
   intro tq H7 n7
   obtain ⟨t,ht,t2,t5⟩:∃ t:Int,fJ [V.int 2,V.int 4,V.int 3,V.int 5] ((0+(j:Int)) % 4)=some (.int t)/\2<=t/\t<=5:=by
    rcases (by omega:(0+(j:Int)) % 4=0\/(0+(j:Int)) % 4=1\/(0+(j:Int)) % 4=2\/(0+(j:Int)) % 4=3) with z | z | z | z <;> rw [z]
    ·exact ⟨2,rfl,by omega,by omega⟩
    ·exact ⟨4,rfl,by omega,by omega⟩
    ·exact ⟨3,rfl,by omega,by omega⟩
    ·exact ⟨5,rfl,by omega,by omega⟩
   refine ⟨by decide,_,_,.inl (.of n7.at_),ht,?_⟩
   have f7:=f6.same n7.same
   have k7:=k6.same n7.same
   obtain ⟨la,Bb⟩:∃ la:Int,la=2 * ((m+1+es.length:Nat):Int) - 1:=⟨_,rfl⟩
   rw [<- Bb]
   have inl:MF.jT m (ar es) la:=⟨by omega,by rw [je];omega⟩
   have int:MF.jT m (ar es) t:=⟨by omega,by rw [je];omega⟩
   have st:=MF.Gy (m:=(m:Int)) (by omega) inl int
   have oN:=wW (l:=t) (g:=la) ok6 t2 (by omega) (by rw [je];omega)
   walk_at "gs"
   refine ⟨f,dx,_,rfl,f7.ins,rfl,f,dx,pl,kl,m,la,t,es,rfl,f7,by omega,fun _ H8 es8 u8 f8 q8=>?_,fun z=>absurd ⟨by omega,by omega,by omega,by omega⟩ z⟩
   have oU:=st.ok ok6
   simp only [MF.bo] at oU
   rw [<- q8] at oU
   rw [oN] at q8
   have k8:=k7.un f7.ck.lst f7.ck.ig mQ u8
   have s8:=Sn (s6.trans n7.same) u8 fp fk
   refine ⟨.inl ⟨by trivial,_,.of k8.lst⟩,by show 2<=sizeLine;decide,fun tr' H9 n9=>?_⟩
   have k9:=k8.same n9.same
   have f9:=f8.same n9.same
   refine ⟨kn,_,_,rfl,rfl,k9.lst,by rw [Zr0,Zsb,ZrX];omega,?_⟩
   refine ⟨(s8.trans n9.same).put qZ,es8,cx ++ [(tr',(t,la))],_,_,_,Iy f9 k9.lst mQ,k9.put n9.at_,?_,oU,?_,rfl⟩
   ·rw [q8,<- e6]
    exact Zr4
   ·have:=congrArg Zs9 q8
    rw [ZrX,Zr0,je,Zsk] at this
    omega
  rintro σ H6 ⟨s6,es,cx,v4,v5,v6,f6,k6,e6,ok6,l6,rfl⟩
  have l6:es.length=701:=l6
  have je:(ar es).length=es.length:=ZrX ..
  have jm:cx.length=es.length:=by rw [<- je,<- e6];exact (ZrX ..).symm
  walk_at "gs"
  refine .inl ⟨_,.inl (.of k6.lst),?_⟩
  rw [Zr0,Zsb,ZrX,jm]
  walk_at "gs"
  refine ⟨by show 1<=sizeLine;decide,fun ll H7 n7=>?_⟩
  have IY:=(s6.trans n7.same) _ _ hS
  have WD:H ll=none:=s6.nil n7.aH
  have Ec:ll≠kn:=(cq k6.lst n7.aH).symm
  have Tn:ll≠pl:=(cq f6.ck.lst n7.aH).symm
  walk_at "gs"
  refine .inl ⟨_,.inl (.of IY),?_⟩
  rw [ZrX]
  refine ⟨by omega,by omega,?_⟩
  refine nQ (fun j σ H8=>aP H H8/\∃ (es cx:List En) (ts:List Int) (v4 v5 v6 v8 v9 v10 v11:Option V),aC a.af H8 f m es dx pl kl/\PN H8 kn (m+1) cx/\ar cx=ar es/\MF.Ok m (ar es)/\701<=es.length/\es.length<=701+j/\H8 ll=some (.lst (ts.map V.int))/\ts.length=j+1/\(∀ t∈ts,MF.jT m (ar es) t)/\σ=[some (.int m),some (.ref cp),some (.ref f),some (.ref kn),v4,v5,v6,some (.ref ll),v8,v9,v10,v11]) ⟨s6.trans n7.same,es,cx,[2 * (((m+1+es.length:Nat):Int) - 1)],_,_,_,_,_,_,_,f6.same n7.same,k6.same n7.same,e6,ok6,by omega,by omega,n7.at_,rfl,fun t ht=>?_,rfl⟩ ?_ ?_
  ·rw [Zr2] at ht
   subst ht
   exact ⟨by omega,by rw [je];omega⟩
  ·rintro j σ H8 hj ⟨s8,es,cx,ts,v4,v5,v6,v8,v9,v10,v11,f8,k8,e8,oU,l8,l8',h8,tl8,b8,rfl⟩
   have Yt:j<ns.length:=by omega
   have Z3:=s8 _ _ hS
   walk_at "gs"
   obtain ⟨c,hc⟩:∃ c:Int,ns[j]? = some c:=⟨_,ZrY Yt⟩
   have je:(ar es).length=es.length:=ZrX ..
   rw [show (0:Int)+(j:Int)=(j:Int) by omega]
   refine ⟨_,.int c,.inl (.of Z3),zy (by rw [Zsa,hc];rfl),⟨by decide,by decide⟩,?_⟩
   walk_at "gs"
   refine .inl ⟨_,.inl (.of h8),?_⟩
   rw [ZrX,tl8]
   walk_at "gs"
   refine .inl ⟨_,.inl (.of h8),?_⟩
   rw [ZrX,tl8]
   walk_at "gs"
   obtain ⟨ce,hce⟩:∃ ce:Int,ce=c / 2:=⟨_,rfl⟩
   rw [<- hce]
   have gm:1<=(if ((j+1:Nat):Int)<3 then ((j+1:Nat):Int) else 3)/\(if ((j+1:Nat):Int)<3 then ((j+1:Nat):Int) else 3)<=((j+1:Nat):Int):=by split <;> omega
   generalize (if ((j+1:Nat):Int)<3 then ((j+1:Nat):Int) else 3)=G at gm ⊢
   have x1:=ZtO (ce / 4) (show G≠0 by omega)
   have x2:=ZtP (ce / 4) (show 0<G by omega)
   obtain ⟨i,hi⟩:=ZtM (by omega:0<=((j+1:Nat):Int) - 1 - ce / 4 % G)
   obtain ⟨t,ht⟩:∃ t,ts[i]? = some t:=⟨_,ZrY (by omega)⟩
   have it:=b8 t (Zr5 ht)
   rw [hi]
   refine ⟨_,.int t,.inl (.of h8),zy (by rw [Zsa,ht];rfl),?_⟩
   have y1:=ZtO (2+ce / 12+(j:Int)) (show (m:Int)≠0 by omega)
   have y2:=ZtP (2+ce / 12+(j:Int)) (show 0<(m:Int) by omega)
   walk_at "gs"
   obtain ⟨u,hu⟩:∃ u:Int,u=2 * (1+(2+ce / 12+(j:Int)) % m):=⟨_,rfl⟩
   rw [<- hu]
   have iu:MF.jT m (ar es) u:=⟨by omega,by rw [je];omega⟩
   have ix:∀ {x:Int} (e:Int),MF.jT m (ar es) x->MF.jT m (ar es) (Builtin.bitXor x (e % 2)):=fun {x} e hx=>by
    rcases Mt hx.1 (e % 2) (by omega) (by omega) with z | z <;> rw [z]
    ·exact hx
    ·exact hx.tn
   have st:=MF.Gy (m:=(m:Int)) (by omega) (ix ce it) (ix (ce / 2) iu)
   have KZ:=st.ok oU
   have LG:=st.Pd
   have l9:=st.hi
   have l9':=st.lo
   simp only [MF.bo] at KZ LG l9 l9'
   refine ⟨.inl ⟨by trivial,_,.of h8⟩,by decide,⟨by decide,by decide⟩,by decide,f,dx,pl,kl,kn,m,_,_,es,cx,rfl,f8,k8,e8,mQ,ix _ it,ix _ iu,m10,by omega,fun H9 es9 es9' u9 f9 k9 q9 q9'=>?_⟩
   rw [<- q9] at KZ LG l9 l9'
   have Zb:(ar es9).length=es9.length:=ZrX ..
   have h9:=u9 _ _ Tn (cZ h8 f8.ck.ig (fun z=>nomatch z)) Ec h8
   have s9:aP H H9:=fun b o e=>u9 b o (cq e fp) (cq e fk) (cq e qZ) (s8 b o e)
   have k9l:=k9.lst
   refine ⟨ll,_,_,rfl,rfl,h9,by rw [ZrX];omega,s9.put WD,es9,es9',ts ++ [_],_,_,_,_,_,_,_,Iy f9 h9 Tn,Fy k9 h9 Ec,q9',KZ,by omega,by omega,by rw [cz,Zr4];rfl,by rw [Zr0,tl8];rfl,fun x hx=>?_,rfl⟩
   rcases Zr3.mp hx with g | g
   ·have:=b8 x g
    exact ⟨this.1,by have:=this.2;omega⟩
   ·rw [Zr2] at g;subst g;exact LG
  rintro σ H8 ⟨s8,es,cx,ts,v4,v5,v6,v8,v9,v10,v11,f8,k8,e8,oU,l8,l8',h8,tl8,b8,rfl⟩
  walk_at "gs"
  exact ⟨by show 2<=sizeLine;decide,fun tp H9 n9=>q tp f dx pl kl kn es cx H9 (s8.trans n9.same) n9.at_ (f8.same n9.same) (k8.same n9.same) e8 oU l8 (by omega)⟩
noncomputable def NB (K:Zrk):Sp:=fun vs H Q _=>∃ (p:Addr) (ns:List Int) (n:Nat),vs=[.ref p,.int 3,.int n]/\bY K H p (ns.map V.int)/\n<=60 /\
 ∀ l (cs:List Int) H',aP H H'->H' l=some (.lst (cs.map V.int))->cs.length=n->Q (.ref l) H'
noncomputable abbrev Xk (K:Zrk):TS:=(aD (bb (ag ef (ag ef (ag (bU (fun _ j=>0<j) fun i j=>.int (i % j)) (cP (uV K) [] E0 (ah (aa 0) (ah (ag ef (aa 1) (aa 4)) aq))) (tC (.int 2147483647))) (ag ju (ag ju (tC (.int 7919)) (aa 4)) (aa 4))) (tC (.int 11))) (aE 5))
  (fW (j8 K "list" kQ (aa 3) (ah (ag (bU (fun _ j=>0<j) fun i j=>.int (i % j)) (ag ju (ag (bU (fun _ j=>0<j) fun i j=>.int (i % j)) (ag ju (aa 5) (tC (.int 48271))) (tC (.int 2147483647))) (tC (.int 16807))) (tC (.int 2147483647))) aq))))
noncomputable def IX (K:Zrk):TS:=(aD (bb (ik aq) (aE 3))
  (aD (eD (jK (ah (aa 2) aq)) (aE 4) (aO (Xk K)))
  (cn (aa 3))))
theorem Zje (T:Txt K mg a):TM P w K mg base 1 "_law_mixed" Bw NJ a.eN (IX K) :=
 fun hr=>(aG (bI (i:=3) Hr.nd rfl (by walk_at "o") (jo av))
   (aG (iY PassesOwn.never rfl (lZ rfl T.aJ (ai (cv 2) av)) (dP (i:=4) Hr.nd rfl (by walk_at "o")) (aV (aG (bI (i:=5) Hr.nd rfl (by walk_at "o") (aB eC (aB eC (aB gh (dg T.bq (Aj T) (hm hr) bZ (ai (cv 0) (ai (aB eC (cv 1) (cv 4)) av))) ax) (aB jQ (aB jQ ax (cv 4)) (cv 4))) ax))
   (aI (gB (kK ZrP ZrQ ZrR (kR kS) (cv 3) (ai (aB gh (aB jQ (aB gh (aB jQ (cv 5) ax) ax) ax) ax) av)))))))
   (aI (cG (cv 3)))))
theorem VX (T:Txt K mg a):aK P w K mg base dQ 2 a.eN a.gP ["_law_script","_law_start","_law_count"] (NB K):=by
 refine T.gI.n.fg Hr (Zje T) (fun vs H Q E h=>?_) (fun H vs Q E h=>?_)
 ·obtain ⟨p,ns,n,rfl,_⟩:=h;rfl
 ·obtain ⟨p,ns,n,rfl,hS,hn,q⟩:=h
  show IX K _ [some (.ref p),some (.int 3),some (.int n),none,none,none] H
  unfold IX
  have big:(20000:Nat)<=sizeLine:=by decide
  walk_at "gs"
  intro l H1 n1
  walk_at "gs"
  refine nQ (fun i σ H2=>aP H H2/\∃ (cs:List Int) (v4 v5:Option V),H2 l=some (.lst (cs.map V.int))/\cs.length=i/\σ=[some (.ref p),some (.int 3),some (.int n),some (.ref l),v4,v5]) ⟨n1.same,[],_,_,n1.at_,rfl,rfl⟩ ?_ ?_
  ·rintro i σ H2 hi ⟨s2,cs,v4,v5,h2,jL,rfl⟩
   rw [ZtL] at hi
   walk_at "gs"
   rw [show (3:Int)+(0+(i:Int))=((3+i:Nat):Int) by omega]
   refine ⟨p,ns,3+i,rfl,s2.seq hS,fun c=>?_⟩
   refine ⟨by omega,.inr ⟨by omega,by omega⟩,.inr ⟨by omega,by omega⟩,.inl ⟨by trivial,_,.of h2⟩,.inr ⟨by decide,by decide⟩,by omega,.inr ⟨by decide,by decide⟩,by omega,l,_,_,rfl,rfl,h2,by rw [ZrX];omega,s2.put n1.aH,cs ++ [_],_,_,by rw [cz,Zr4];rfl,by rw [Zr0,jL];rfl,rfl⟩
  ·rintro σ H2 ⟨s2,cs,v4,v5,h2,jL,rfl⟩
   rw [ZtL] at jL
   walk_at "gs"
   exact q l cs H2 s2 h2 jL
noncomputable def N0 (_:Zrk):Sp:=fun vs H Q _=>∃ (c:Int) (m most:Nat),vs=[.int m,.int c,.int most]/\m<=10/\most<=16 /\
 ∀ pp es H',aP H H'->H pp=none->PL H' pp es->es.length<=most->qy m (ar es)->Q (.ref pp) H'
noncomputable abbrev YI (K:Zrk):TS:=(aD (fW (j8 K "list" kQ (aa 3) (ah (kh (ah (ag (bU (fun _ j=>0<j) fun i j=>.int (i % j)) (aa 1) (aa 6)) (ah (ag (bU (fun _ j=>0<j) fun i j=>.int (i % j)) (ag (bU eA fun i j=>.int (i / j)) (aa 1) (aa 6)) (aa 6)) aq))) aq)))
  (bb (ag (bU eA fun i j=>.int (i / j)) (ag (bU eA fun i j=>.int (i / j)) (aa 1) (aa 6)) (aa 6)) (aE 1)))
noncomputable abbrev Uo (K:Zrk):TS:=(aD (eD (jK (ah (aa 4) aq)) (aE 5) (aD (bb (ag ju (tC (.int 2)) (ag ef (ag ef (aa 0) (tC (.int 1))) (aa 5))) (aE 6))
  (aO (YI K))))
  (cn (aa 3)))
noncomputable abbrev Zeg (K:Zrk):TS:=(aD (bb (ag (bU eA fun i j=>.int (i / j)) (aa 1) (ag ef (aa 2) (tC (.int 1)))) (aE 1))
  (aO (Uo K)))
noncomputable abbrev Za (K:Zrk):TS:=(aD (bb (ag (bU (fun _ j=>0<j) fun i j=>.int (i % j)) (aa 1) (ag ef (aa 2) (tC (.int 1)))) (aE 4))
  (aO (Zeg K)))
noncomputable def Ky (K:Zrk):TS:=(aD (bb (ik aq) (aE 3))
  (aO (Za K)))
theorem ZG (T:Txt K mg a):TM P w K mg base 0 "_law_digit_pairs" DP Tp a.cj (Ky K) :=
 fun hr=>(aG (bI (i:=3) yv.nd rfl (by walk_at "o") (jo av))
   (aV (aG (bI (i:=4) yv.nd rfl (by walk_at "o") (aB gh (cv 1) (aB eC (cv 2) ax)))
   (aV (aG (bI (i:=1) yv.nd rfl (by walk_at "o") (aB eE (cv 1) (aB eC (cv 2) ax)))
   (aV (aG (iY PassesOwn.never rfl (lZ rfl T.aJ (ai (cv 4) av)) (dP (i:=5) yv.nd rfl (by walk_at "o")) (aG (bI (i:=6) yv.nd rfl (by walk_at "o") (aB jQ ax (aB eC (aB eC (cv 0) ax) (cv 5))))
   (aV (aG (gB (kK ZrP ZrQ ZrR (kR kS) (cv 3) (ai (lj (ai (aB gh (cv 1) (cv 6)) (ai (aB gh (aB eE (cv 1) (cv 6)) (cv 6)) av))) av)))
   (aI (bI (i:=1) yv.nd rfl (by walk_at "o") (aB eE (aB eE (cv 1) (cv 6)) (cv 6))))))))
   (aI (cG (cv 3))))))))))
theorem Ze5 (T:Txt K mg a):aK P w K mg base dQ 1 a.cj a.dy ["_law_many","_law_cell","_law_most"] (N0 K):=by
 refine T.dA.n.fg yv (ZG T) (fun vs H Q E h=>?_) (fun H vs Q E h=>?_)
 ·obtain ⟨c,m,most,rfl,_⟩:=h;rfl
 ·obtain ⟨c,m,most,rfl,hm,hmo,q⟩:=h
  show Ky K _ [some (.int m),some (.int c),some (.int most),none,none,none,none] H
  unfold Ky
  have big:(20000:Nat)<=sizeLine:=by decide
  walk_at "gs"
  intro pp H1 n1
  have x1:=ZtO c (show (most:Int)+1≠0 by omega)
  have x2:=ZtP c (show 0<(most:Int)+1 by omega)
  obtain ⟨cnt,hcnt⟩:=ZtM x1
  walk_at "gs"
  rw [hcnt]
  walk_at "gs"
  rw [ZtL]
  refine nQ (fun i σ H2=>aP H H2/\∃ (es:List En) (d:Int) (v5 v6:Option V),PL H2 pp es/\es.length=i/\qy m (ar es)/\σ=[some (.int m),some (.int d),some (.int most),some (.ref pp),some (.int (cnt:Nat)),v5,v6]) ⟨n1.same,[],_,_,_,⟨n1.at_,fun e he=>by simp at he⟩,rfl,fun i q hq=>by simp [ar] at hq,rfl⟩ ?_ ?_
  ·rintro i σ H2 hi ⟨s2,es,d,v5,v6,hP,hle,hT,rfl⟩
   walk_at "gs"
   obtain ⟨S,hS⟩:∃ S:Int,S=2 * ((m:Int)+1+(0+(i:Int))):=⟨_,rfl⟩
   rw [<- hS]
   have y1:=ZtO d (show S≠0 by omega)
   have y2:=ZtP d (show 0<S by omega)
   have z1:=ZtO (d / S) (show S≠0 by omega)
   have z2:=ZtP (d / S) (show 0<S by omega)
   refine ⟨.inl ⟨by trivial,_,.of hP.lst⟩,by omega,⟨by omega,by omega⟩,by omega,by show 2<=sizeLine;decide,fun tp H4 n4=>?_⟩
   have Dh:=hP.same n4.same
   refine ⟨pp,_,_,rfl,rfl,Dh.lst,by rw [ZrX];omega,⟨by omega,by omega⟩,⟨by omega,by omega⟩,(s2.trans n4.same).put n1.aH,es ++ [(tp,(d % S,d / S % S))],_,_,_,Dh.put n4.at_,by rw [Zr0,Zsk];omega,?_,rfl⟩
   have e:ar (es ++ [(tp,(d % S,d / S % S))])=ar es ++ [(d % S,d / S % S)]:=Zr4
   rw [e]
   refine hT.snoc ⟨?_,?_,?_,?_⟩ <;> (try rw [ZrX]) <;> show _ <;> omega
  ·rintro σ H2 ⟨s2,es,d,v5,v6,hP,hle,hT,rfl⟩
   walk_at "gs"
   exact q pp es H2 s2 n1.aH hP (by omega) hT
noncomputable def jF (ks:List Nat):List (Key × V):=ks.map fun k:Nat=>((.inl (k:Int):Key),V.bl true)
theorem Ly (ks:List Nat):(jF ks).length=ks.length:=ZrX ..
noncomputable def nC (ks:List Nat) (k:Nat):List Nat:=if k∈ks then ks else ks ++ [k]
theorem Ow {ks:List Nat}{k x:Nat}:x∈nC ks k ↔ x∈ks\/x=k:=by
 unfold nC
 split
 ·rename_i h
  exact ⟨.inl,fun z=>z.elim id fun e=>e ▸ h⟩
 ·rw [Zr3,Zr2]
theorem ND (ks:List Nat) (k:Nat):(gO (jF ks) (.inl (k:Int))).isSome=decide (k∈ks):=by
 induction ks with
 | nil=>rfl
 | cons x r ih =>
  show (gO (((.inl (x:Int):Key),V.bl true) :: jF r) (.inl (k:Int))).isSome=_
  by_cases e:x=k
  ·rw [tZ (by rw [e]),decide_eq_true (by rw [e];exact Zsl ..)];rfl
  ·rw [vx (fun z=>e (by have:=Sum.inl.inj z;omega)),ih,decide_eq_decide,Zr7]
   exact ⟨.inr,fun z=>z.resolve_left fun w=>e w.symm⟩
theorem Ls (ks:List Nat) (k:Nat):gj (jF ks) (.inl (k:Int)) (.bl true)=jF (nC ks k):=by
 unfold gj nC
 have ha:((jF ks).any fun kv=>decide (kv.1=(.inl (k:Int):Key)))=decide (k∈ks):=by
  unfold jF
  rw [Ztg,Zt8,Zth,decide_eq_true_iff]
  constructor
  ·rintro ⟨x,hx,h⟩
   have h:=of_decide_eq_true h
   have:x=k:=by have:=Sum.inl.inj h;omega
   exact this ▸ hx
  ·exact fun h=>⟨k,h,decide_eq_true rfl⟩
 rw [ha]
 by_cases h:k∈ks
 ·rw [if_pos (decide_eq_true h),if_pos h]
  unfold jF
  rw [Zsd]
  refine ZsL fun x _=>?_
  show (if ((.inl (x:Int):Key),V.bl true).1=.inl (k:Int) then (((.inl (x:Int):Key),V.bl true).1,V.bl true) else _)=_
  split <;> rfl
 ·rw [if_neg (by simpa using h),if_neg h]
  unfold jF
  rw [Zr4]
  rfl
theorem Lf {H:Hp}{kn:Addr}{m:Nat}{es:List En} (h:PN H kn (m+1) es) {i:Nat} (hi:i<=m):fJ (ZrZ (m+1) V.non ++ es.map fun e=>V.ref e.1) (i:Int)=some .non:=by
 rw [oS .non (by omega) (by rw [Zr0,Zsb];omega),ZtL,Zsc,Zse (by rw [Zsb];omega),ZsM,if_pos (by omega)]
 rfl
theorem CG {H:Hp}{kn:Addr}{m:Nat}{es:List En} (h:PN H kn (m+1) es) {j:Nat}{e:En} (he:es[j]? = some e):fJ (ZrZ (m+1) V.non ++ es.map fun e=>V.ref e.1) ((m+1+j:Nat):Int)=some (.ref e.1):=by
 have hj:=(Zr1.mp he).1
 rw [oS .non (by omega) (by rw [Zr0,Zsb,ZrX];omega),ZtL,Zsc,Zsi (by rw [Zsb];omega),Zsb,show m+1+j - (m+1)=j by omega,Zsa,he]
 rfl
noncomputable def Q8 (_:Zrk):Sp:=fun vs H Q _=>∃ i:Int,vs=[.int i]/\Q (.bl true) H
noncomputable def LY (K:Zrk):TS:=(cn (sD (dk (rH K) (ah (aa 0) (ah (tC (.ty "int")) aq))) (zM (dk (rH K) (ah (aa 0) (ah (tC (.ty "bool")) aq))))))
theorem Zjc (T:Txt K mg a):TM P w K mg base 0 "_law_whole" FW NA a.eK (LY K) :=
 fun hr=>(aI (cG (GP (dU zq (by rfl) T.bE PyProof.Rows.boot_isinstance (ai (cv 0) (ai (zm (v:=.ty "int") rfl T.lB PyProof.Rows.boot_int rfl) av))) (GO (sM (dU zq (by rfl) T.bE PyProof.Rows.boot_isinstance (ai (cv 0) (ai (zm (v:=.ty "bool") rfl T.lW PyProof.Rows.boot_bool rfl) av))))))))
theorem ZjH (T:Txt K mg a):aK P w K mg base dQ 1 a.eK a.gR ["_law_found"] (Q8 K):=by
 refine T.g8.n.fg VA (Zjc T) (fun vs H Q E h=>?_) (fun H vs Q E h=>?_)
 ·obtain ⟨i,rfl,_⟩:=h;rfl
 ·obtain ⟨i,rfl,q⟩:=h
  show LY K _ [some (.int i)] H
  unfold LY
  walk_at "go"
  refine ⟨_,true,.int i,rfl,?_⟩
  walk_at "go"
  refine ⟨_,false,.int i,rfl,?_⟩
  walk_at "go"
  exact q
noncomputable def PU (_:Zrk):Sp:=fun vs H Q _=>∃ (kn:Addr) (m k:Nat) (es:List En),vs=[.ref kn,.int k]/\PN H kn (m+1) es/\MF.Ok m (ar es)/\k<m+1+es.length/\m+1+es.length<=1000 /\
 ∀ l ks H',aP H H'->H' l=some (.dK (jF ks))->(∀ x,ML.Dn (aW (dh m (ar es))) k x->x∈ks)->(∀ x∈ks,x<=k)->ks.length<=2001->Q (.ref l) H'
noncomputable abbrev WZ (K:Zrk):TS:=(aD (nK (aa 2) (ag (bU eA fun i j=>.int (i / j)) (ag (bJ K) (ag (bJ K) (aa 0) (aa 3)) (tC (.int 0))) (tC (.int 2))) (tC (.bl true)))
  (nK (aa 2) (ag (bU eA fun i j=>.int (i / j)) (ag (bJ K) (ag (bJ K) (aa 0) (aa 3)) (tC (.int 1))) (tC (.int 2))) (tC (.bl true))))
noncomputable abbrev ZiC (K:Zrk):TS:=(aD (eD (GD (ah (aa 1) (ah (tC (.int 0)) (ah (tu rS (tC (.int 1))) aq)))) (aE 3) (cQ (pU (bK (qr (aa 3) (aa 2))) (bK (ag wJ (ag (bJ K) (aa 0) (aa 3)) (tC .non)))) (aO (WZ K)) dI))
  (cn (aa 2)))
noncomputable def LJ (K:Zrk):TS:=(aD (bb (Lx [((aa 1),(tC (.bl true)))]) (aE 2))
  (aO (ZiC K)))
theorem Yn (T:Txt K mg a):TM P w K mg base 0 "_law_cone" Cv Qa a.fM (LJ K) :=
 fun hr=>(aG (bI (i:=2) Kk.nd rfl (by walk_at "o") (YE (YD (cv 1) jv ZqC) rfl rfl (by simp) (by decide)))
   (aV (aG (iY PassesOwn.never rfl (R9 rfl T.aJ (ai (cv 1) (ai ax (ai (zO Ae ax) av)))) (dP (i:=3) Kk.nd rfl (by walk_at "o")) (aI (da (PW.pt (sH (rn (QM (gK hr) (cv 3) (cv 2))) (rq (cA B3 (bP bQ (cv 0) (cv 3) (fun _ _=>rfl)) kg (cw _))))) (aV (aG (pT (gK hr) (cv 2) (aB eE (bP bQ (bP bQ (cv 0) (cv 3) (fun _ _=>rfl)) ax (fun _ _=>rfl)) ax) jv rfl)
   (aI (pT (gK hr) (cv 2) (aB eE (bP bQ (bP bQ (cv 0) (cv 3) (fun _ _=>rfl)) ax (fun _ _=>rfl)) ax) jv rfl)))) d5)))
   (aI (cG (cv 2))))))
theorem U7 (T:Txt K mg a):aK P w K mg base dQ 1 a.fM a.iZ ["_law_knots","_law_knot"] (PU K):=by
 refine T.iO.n.fg Kk (Yn T) (fun vs H Q E h=>?_) (fun H vs Q E h=>?_)
 ·obtain ⟨kn,m,k,es,rfl,_⟩:=h;rfl
 ·obtain ⟨kn,m,k,es,rfl,hN,ok,hk,hz,q⟩:=h
  show LJ K _ [some (.ref kn),some (.int k),none,none] H
  unfold LJ
  have big:(20000:Nat)<=sizeLine:=by decide
  walk_at "gs"
  intro sd hsd
  walk_at "go"
  walk_at "go"
  walk_at "go"
  walk_at "go"
  walk_at "go"
  refine ⟨cz,[(.inl (k:Int),.bl true)],rfl,by simp,?_⟩
  walk_at "gs"
  refine ⟨_,_,rfl,⟨by omega,by omega,by omega,by omega⟩,?_⟩
  rw [show ((k:Int) - 0).toNat=k by omega]
  have mz:=Ah ok
  have je:(ar es).length=es.length:=ZrX ..
  have s1:aP H (upd (upd H sd (.dK [])) sd (.dK (ur [] [(.inl (k:Int),.bl true)]))):=(kz hsd).put hsd
  refine Qn (fun i σ H2=>aP H H2/\∃ (ks:List Nat) (v3:Option V),H2 sd=some (.dK (jF ks))/\ks.length<=1+2 * i/\k∈ks/\(∀ y∈ks,y<=k)/\(∀ y∈ks,k<y+i->∀ l∈aW (dh m (ar es)) y,l∈ks)/\σ=[some (.ref kn),some (.int k),some (.ref sd),v3]) ⟨s1,[k],_,cz,by simp,by simp,fun y hy=>by simp at hy;omega,fun y hy h=>by simp at hy;omega,rfl⟩ ?_ ?_
  ·rintro i σ H2 hi ⟨s2,ks,v3,d2,qz,hkk,hle,jL,rfl⟩
   have kN:=hN.same s2
   rw [show (k:Int) - (i:Int)=((k - i:Nat):Int) by omega]
   walk_at "gs"
   refine ⟨sd,_,rfl,g9.k (k:=.inl ((k - i:Nat):Int)) d2,?_⟩
   rw [ND]
   by_cases hin:k - i∈ks
   case neg =>
    rw [decide_eq_false hin]
    walk_at "go"
    refine ⟨s2,ks,_,d2,by omega,hkk,hle,fun y hy h=>?_,rfl⟩
    rcases Ztt k (y+i) with z | z
    ·exact jL y hy z
    ·have:y=k - i:=by omega
     exact absurd (this ▸ hy) hin
   rw [decide_eq_true hin]
   walk_at "gs"
   rcases Ztt m (k - i) with hm | hm
   ·obtain ⟨j,hj⟩:∃ j,k - i=m+1+j:=⟨k - i - m - 1,by omega⟩
    obtain ⟨e,he⟩:∃ e,es[j]? = some e:=⟨_,ZrY (by omega)⟩
    have sP:(ar es)[j]? = some e.2:=by rw [Zsa,he];rfl
    obtain ⟨o1,o2,o3,o4⟩:=ok _ _ sP
    have te:=kN.tup e (Zr5 he)
    have jV:=CG kN he
    rw [<- hj] at jV
    have n1:kn≠sd:=cZ kN.lst d2 (fun z=>nomatch z)
    obtain ⟨x,hx⟩:=ZtM (by omega:0<=e.2.1 / 2)
    obtain ⟨y,hy⟩:=ZtM (by omega:0<=e.2.2 / 2)
    refine ⟨_,_,.inl (.of kN.lst),jV,?_⟩
    walk_at "gs"
    try rw [if_pos (by simp)]
    refine ⟨_,_,.inl (.of kN.lst),jV,_,_,.inr (.of te),rfl,⟨by omega,by omega⟩,?_⟩
    rw [hx]
    refine ⟨sd,_,rfl,nM.k (k:=.inl (x:Int)) d2 (by rw [Ly];omega),?_⟩
    rw [Ls]
    have s3:aP H (upd H2 sd (.dK (jF (nC ks x)))):=s2.put hsd
    have RG:=hN.same s3
    refine ⟨_,_,.inl (.of RG.lst),jV,_,_,.inr (.of (RG.tup e (Zr5 he))),rfl,⟨by omega,by omega⟩,?_⟩
    rw [hy]
    have al:∀ (l:List Nat) (z:Nat),(nC l z).length<=l.length+1:=fun l z=>by unfold nC;split <;> simp
    have a1:=al ks x
    have a2:=al (nC ks x) y
    refine ⟨sd,_,rfl,nM.k (k:=.inl (y:Int)) cz (by rw [Ly];omega),?_⟩
    rw [Ls]
    have fj:aW (dh m (ar es)) (k - i)=[x,y]:=by
     rw [hj,pJ sP,hx,hy,ZtL,ZtL]
    have pz:∀ z,z∈nC (nC ks x) y ↔ z∈ks\/z=x\/z=y:=fun z=>by rw [Ow,Ow,or_assoc]
    have Kc:x<=k/\y<=k:=by
     have h1:=mz.lt (k - i) x (by rw [fj];simp)
     have h2:=mz.lt (k - i) y (by rw [fj];simp)
     omega
    refine ⟨s3.put hsd,nC (nC ks x) y,_,cz,by omega,(pz k).mpr (.inl hkk),fun z hz=>?_,fun z hz h l hl=>?_,rfl⟩
    ·rcases (pz z).mp hz with g | rfl | rfl
     ·exact hle z g
     ·exact Kc.1
     ·exact Kc.2
    ·rcases Ztt k (z+i) with g | g
     ·rcases (pz z).mp hz with g' | rfl | rfl
      ·exact (pz l).mpr (.inl (jL z g' g l hl))
      ·have h1:=mz.lt (k - i) z (by rw [fj];simp)
       omega
      ·have h1:=mz.lt (k - i) z (by rw [fj];simp)
       omega
     ·have:z=k - i:=by omega
      subst this
      rw [fj] at hl
      simp only [Zr7,Ztn,or_false] at hl
      exact (pz l).mpr (.inr hl)
   ·refine ⟨_,_,.inl (.of kN.lst),Lf kN hm,?_⟩
    walk_at "go"
    refine ⟨s2,ks,_,d2,by omega,hkk,hle,fun y hy h l hl=>?_,rfl⟩
    rcases Ztt k (y+i) with z | z
    ·exact jL y hy z l hl
    ·have:y=k - i:=by omega
     subst this
     rw [Gv hm] at hl
     simp at hl
  ·rintro σ H2 ⟨s2,ks,v3,d2,qz,hkk,hle,jL,rfl⟩
   walk_at "gs"
   refine q sd ks H2 s2 d2 (fun x hx=>?_) hle (by omega)
   induction hx with
   | here=>exact hkk
   | @low y x h hx ih =>
    refine jL y ih ?_ x hx
    have:=mz.lt y x hx
    omega
theorem VG {R:Nat->Nat->Prop}{a:Nat}{r:List Nat} (h:∀ (i x y:Nat),(a :: r)[i]? = some x->(a :: r)[i+1]? = some y->R x y):∀ (i x y:Nat),r[i]? = some x->r[i+1]? = some y->R x y:=fun i x y hx hy=>h (i+1) x y (by simpa using hx) (by simpa using hy)
theorem RE {ab:MZ.Ab}{t:Nat}:∀ {w:List Nat},(∀ (i a b:Nat),w[i]? = some a->w[i+1]? = some b->ab a=some (some b))->(∀ x,w[0]? = some x->MZ.Wy ab t x)->∀ x∈w,MZ.Wy ab t x
 | [],_,_,x,hx=>by simp at hx
 | a :: r,h,h0,x,hx=>by
  rcases Zr7.mp hx with rfl | hx
  ·exact h0 x rfl
  ·refine RE (VG h) (fun y hy=>?_) x hx
   exact (h0 a rfl).up (h 0 a y rfl (by simpa using hy))
theorem KG {ab:MZ.Ab}{t:Nat}{w:List Nat} (W:iU ab t w):∀ x∈w,MZ.Wy ab t x:=by
 obtain ⟨r,hr⟩:=W.hd
 refine RE W.st fun x hx=>?_
 rw [hr] at hx
 cases hx
 exact .here
structure iG (lo:Nat->List Nat) (lv:Nat->Nat) (k:Nat) (w:List Nat):Prop where
 ne:0<w.length
 pos:∀ x∈w,0<x/\(x<k/\lv x+2<=lv k)
 sp:∀ x,w[0]? = some x->lo x=[]
 st:∀ (i a b:Nat),w[i]? = some a->w[i+1]? = some b->a∈lo b
 tp:∃ (g:Nat) (v:List Nat) (x:Nat),w=v ++ [x]/\x∈lo g/\ML.Dn lo k g/\lv k<=lv g+1
structure lz (lo:Nat->List Nat) (lv:Nat->Nat) (s k:Nat) (ws:List (List Nat)):Prop where
 ok:∀ w∈ws,iG lo lv k w
 len:ws.length=if 1<lv k then s+1 else 0
 dj:∀ (i j:Nat) w w',i<j->ws[i]? = some w->ws[j]? = some w'->∀ x∈w',x ∉ w
 hd:∀ (i:Nat) w w' (a b:Nat),ws[i]? = some w->ws[i+1]? = some w'->w[0]? = some a->w'[0]? = some b->a<b
theorem lR.cW {lo:Nat->List Nat}{lv:Nat->Nat}{s k:Nat}{ws:List (List Nat)} (aX:∀ p l,l∈lo p->l<p) (MN:∀ x,ML.Dn lo k x->0<x) (h:lR lo lv s k ws):lz lo lv s k ws:=by
 rcases h with ⟨h1,h2⟩ | ⟨h1,h2,goal,ab,ss,F,hg,hp,kf,mem,len,way⟩
 ·subst h2
  refine ⟨fun w hw=>?_,?_,fun i j w w' _ hw=>?_,fun i w w' a b hw=>?_⟩
  ·simp at hw
  ·rw [if_neg (by omega)];rfl
  ·simp at hw
  ·simp at hw
 have at_:∀ (i:Nat) w,ws[i]? = some w->∃ t,ss[i]? = some t/\iU ab t w/\lo t=[]/\ab t≠none:=fun i w hw=>by
  have hi:i<ss.length:=by rw [<- len];exact (Zr1.mp hw).1
  have ht:=ZrY hi
  obtain ⟨a1,a2⟩:=(mem _).mp (Zr5 ht)
  exact ⟨_,ht,way i _ w ht hw,a1,a2⟩
 have rs:∀ (i j t u:Nat),i<j->ss[i]? = some t->ss[j]? = some u->t<u:=fun i j t u ez hi hj=>by
  obtain ⟨a1,rfl⟩:=Zr1.mp hi
  obtain ⟨b1,rfl⟩:=Zr1.mp hj
  exact ZsU.mp kf i j a1 b1 ez
 refine ⟨fun w hw=>?_,by rw [if_pos (by omega)];exact h2,fun i j w w' ez hw hw' x hx hx'=>?_,fun i w w' a b hw hw' ha hb=>?_⟩
 ·obtain ⟨i,hi⟩:=Zsr.mp hw
  obtain ⟨t,_,W,g1,g2⟩:=at_ i w hi
  obtain ⟨r,hr⟩:=W.hd
  refine ⟨by rw [hr];simp,fun x hx=>?_,fun x hx=>?_,fun i a b ha hb=>(F.up _ _ (W.st i a b ha hb)).1,?_⟩
  ·obtain ⟨d1,d2⟩:=hp x ((KG W x hx).qR F g2)
   have d3:=d1.le aX
   exact ⟨MN x d1,Nat.lt_of_le_of_ne d3 (fun z=>by rw [z] at d2;omega),d2⟩
  ·rw [hr] at hx
   cases hx
   exact g1
  ·obtain ⟨v,x,hv,hx⟩:=W.tp
   obtain ⟨g,hgg,hl⟩:=F.top x hx
   exact ⟨g,v,x,hv,hl,(hg g hgg).1,(hg g hgg).2⟩
 ·obtain ⟨t,ht,W,g1,_⟩:=at_ i w hw
  obtain ⟨u,hu,W',g1',_⟩:=at_ j w' hw'
  have:=MZ.HW F (KG W x hx') (KG W' x hx) g1 g1'
  have:=rs i j t u ez ht hu
  omega
 ·obtain ⟨t,ht,W,_⟩:=at_ i w hw
  obtain ⟨u,hu,W',_⟩:=at_ (i+1) w' hw'
  have:=rs i (i+1) t u (by omega) ht hu
  obtain ⟨r,hr⟩:=W.hd
  obtain ⟨r',hr'⟩:=W'.hd
  rw [hr] at ha
  rw [hr'] at hb
  cases ha;cases hb
  exact this
theorem iG.inc {lo:Nat->List Nat}{lv:Nat->Nat}{k:Nat}{w:List Nat} (aX:∀ p l,l∈lo p->l<p) (h:iG lo lv k w):∀ (i j a b:Nat),i<j->w[i]? = some a->w[j]? = some b->a<b
 | i,0,a,b,ez,_,_=>absurd ez (ZtJ _)
 | i,j+1,a,b,ez,ha,hb=>by
  have hl:=(Zr1.mp hb).1
  have hj:w[j]? = some (w[j]'(by omega)):=ZrY _
  have h1:=aX _ _ (h.st j _ _ hj hb)
  rcases Nat.lt_or_eq_of_le (Nat.le_of_lt_succ ez) with g | g
  ·have:=iG.inc aX h i j a _ g ha hj
   omega
  ·subst g
   rw [hj] at ha
   cases ha
   exact h1
theorem yM {m:Nat}{es:List En}{j:Nat}{e:En} (he:es[j]? = some e) (ok:MF.Ok m (ar es)) {x:Nat}:x∈aW (dh m (ar es)) (m+1+j) ↔ ((x:Int)=e.2.1 / 2\/(x:Int)=e.2.2 / 2):=by
 have hp:(ar es)[j]? = some e.2:=by rw [Zsa,he];rfl
 obtain ⟨o1,o2,o3,o4⟩:=ok _ _ hp
 rw [pJ hp]
 simp only [Zr7,Ztn,or_false]
 constructor
 ·rintro (h | h) <;> omega
 ·rintro (h | h) <;> omega
noncomputable def IE (_:Zrk):Sp:=fun vs H Q _=>∃ (kn:Addr) (m x y:Nat) (es:List En),vs=[.ref kn,.int x,.int y]/\PN H kn (m+1) es/\MF.Ok m (ar es)/\y<m+1+es.length/\∀ H',aP H H'->Q (.bl (decide (x∈aW (dh m (ar es)) y))) H'
noncomputable def Md (K:Zrk):TS:=(cn (sD (ag wJ (ag (bJ K) (aa 0) (aa 2)) (tC .non)) (ag (Jq K false) (aa 1) (kh (ah (ag (bU eA fun i j=>.int (i / j)) (ag (bJ K) (ag (bJ K) (aa 0) (aa 2)) (tC (.int 0))) (tC (.int 2))) (ah (ag (bU eA fun i j=>.int (i / j)) (ag (bJ K) (ag (bJ K) (aa 0) (aa 2)) (tC (.int 1))) (tC (.int 2))) aq))))))
theorem Zt (T:Txt K mg a):TM P w K mg base 0 "_law_feeds" BO Oj a.eI (Md K) :=
 fun hr=>(aI (cG (GP (Jf B3 (bP bQ (cv 0) (cv 2) (fun _ _=>rfl)) kg (cw _)) (GO (Jf JW (cv 1) (lj (ai (aB eE (bP bQ (bP bQ (cv 0) (cv 2) (fun _ _=>rfl)) ax (fun _ _=>rfl)) ax) (ai (aB eE (bP bQ (bP bQ (cv 0) (cv 2) (fun _ _=>rfl)) ax (fun _ _=>rfl)) ax) av))) (by with_unfolding_all rfl))))))
theorem Qo (T:Txt K mg a):aK P w K mg base dQ 1 a.eI a.gY ["_law_knots","_law_low","_law_high"] (IE K):=by
 refine T.eR.n.fg V3 (Zt T) (fun vs H Q E h=>?_) (fun H vs Q E h=>?_)
 ·obtain ⟨kn,m,x,y,es,rfl,_⟩:=h;rfl
 ·obtain ⟨kn,m,x,y,es,rfl,hN,ok,hy,q⟩:=h
  show Md K _ [some (.ref kn),some (.int x),some (.int y)] H
  unfold Md
  walk_at "gs"
  rcases Ztt m y with hm | hm
  case inr =>
   refine ⟨_,_,.inl (.of hN.lst),Lf hN hm,?_⟩
   walk_at "gs"
   have:decide (x∈aW (dh m (ar es)) y)=false:=decide_eq_false (by rw [Gv hm];simp)
   rw [<- this]
   exact q H (aP.refl _)
  obtain ⟨j,rfl⟩:∃ j,y=m+1+j:=⟨y - m - 1,by omega⟩
  obtain ⟨e,he⟩:∃ e,es[j]? = some e:=⟨_,ZrY (by omega)⟩
  have te:=hN.tup e (Zr5 he)
  refine ⟨_,_,.inl (.of hN.lst),CG hN he,?_⟩
  walk_at "gs"
  rw [if_pos (fun z=>nomatch z)]
  refine ⟨_,_,.inl (.of hN.lst),CG hN he,_,.int e.2.1,.inr (.of te),rfl,⟨by decide,by decide⟩,_,_,.inl (.of hN.lst),CG hN he,_,.int e.2.2,.inr (.of te),rfl,⟨by decide,by decide⟩,by show 2<=sizeLine;decide,fun p H1 n1=>⟨_,.inr (.of n1.at_),rfl,rfl,?_⟩⟩
  have ei:vM (.int (x:Int)) [V.int (e.2.1 / 2),V.int (e.2.2 / 2)]=decide (x∈aW (dh m (ar es)) (m+1+j)):=by
   have:=Vo (x:Int) [e.2.1 / 2,e.2.2 / 2]
   rw [show [V.int (e.2.1 / 2),V.int (e.2.2 / 2)]=[e.2.1 / 2,e.2.2 / 2].map V.int from rfl,this]
   simp only [yM he ok,Zr7,Ztn,or_false]
  rw [ei]
  exact q H1 n1.same
noncomputable def pW (sp:Addr) (H H':Hp):Prop:=∀ b o,b≠sp->H b=some o->H' b=some o
theorem pW.pn {H H':Hp}{sp kn:Addr}{m:Nat}{es:List En}{kvs:List (Key × V)} (u:pW sp H H') (h:PN H kn m es) (hs:H sp=some (.dK kvs)):PN H' kn m es :=
 ⟨u _ _ (cZ h.lst hs (fun z=>nomatch z)) h.lst,fun e he=>u _ _ (cZ (h.tup e he) hs (fun z=>nomatch z)) (h.tup e he)⟩
theorem pW.lst {H H':Hp}{sp b:Addr}{xs:List V}{kvs:List (Key × V)} (u:pW sp H H') (h:H b=some (.lst xs)) (hs:H sp=some (.dK kvs)):H' b=some (.lst xs):=u _ _ (cZ h hs (fun z=>nomatch z)) h
noncomputable def Tw (_:Zrk):Sp:=fun vs H Q _=>∃ (wp kn mp sp hp:Addr) (m k:Nat) (es:List En) (w az seen hs:List Nat),vs=[.ref wp,.ref kn,.int k,.ref mp,.ref sp,.ref hp]/\H wp=some (.lst (w.map nv))/\PN H kn (m+1) es/\H mp=some (.lst (az.map nv))/\H sp=some (.dK (jF seen))/\H hp=some (.lst (hs.map nv))/\MF.Ok m (ar es)/\k<m+1+es.length/\m+1+es.length<=1000/\az.length=m+1+es.length/\iG (aW (dh m (ar es))) (fun x=>az.getD x 0) k w/\(∀ x∈w,x ∉ seen)/\seen.length<=8000/\(∀ x,ML.Dn (aW (dh m (ar es))) k x->x∈hs)/\(∀ x∈hs,x<=k) /\
 ∀ H',pW sp H H'->H' sp=some (.dK (jF (seen ++ w)))->Q (.bl true) H'
noncomputable abbrev XF (K:Zrk):TS:=(aD (cQ (kq (pU (bK (ag (gU K) (aa 6) (tC (.int 0)))) (bK (ag wJ (ag (bJ K) (aa 1) (aa 7)) (tC .non)))) (pU (bK (ag (cf fun i j=>.bl (decide (j<i))) (aa 6) (tC (.int 0)))) (lH (jX K (cP (IE K) [] E0 (ah (aa 1) (ah (ag (bJ K) (aa 0) (ag (cf fun i j=>.int (i - j)) (aa 6) (tC (.int 1)))) (ah (aa 7) aq)))))))) (cn (tC (.bl false))) dI)
  (nK (aa 4) (aa 7) (tC (.bl true))))
noncomputable abbrev Zfv (K:Zrk):TS:=(aD (cQ (kq (lH (jX K (cP (Q8 K) [] E0 (ah (aa 7) aq)))) (kq (lH (bK (qg (cf fun i j=>.bl (decide (i<j))) (cf fun i j=>.bl (decide (i<j))) (tC (.int 0)) (aa 7) (aa 2)))) (kq (bK (qr (aa 7) (aa 4))) (bK (ag (cf fun i j=>.bl (decide (j<i))) (ag (bJ K) (aa 3) (aa 7)) (ag (cf fun i j=>.int (i - j)) (ag (bJ K) (aa 3) (aa 2)) (tC (.int 2)))))))) (cn (tC (.bl false))) dI)
  (aO (XF K)))
noncomputable abbrev NV (K:Zrk):TS:=(cQ (pU (bK (ag (cf fun i j=>.bl (decide (j<=i))) (ag (bJ K) (aa 3) (aa 8)) (ag (cf fun i j=>.int (i - j)) (ag (bJ K) (aa 3) (aa 2)) (tC (.int 1))))) (jX K (cP (IE K) [] E0 (ah (aa 1) (ah (ag (bJ K) (aa 0) (tu rS (tC (.int 1)))) (ah (aa 8) aq)))))) (cn (tC (.bl true))) dI)
noncomputable abbrev YQ (K:Zrk):TS:=(aD (eD (jK (ah (dk (iB K) (ah (aa 0) aq)) aq)) (aE 6) (aD (bb (ag (bJ K) (aa 0) (aa 6)) (aE 7))
  (aO (Zfv K))))
  (aD (eD (jt K (aa 5)) (aE 8) (aO (NV K)))
  (cn (tC (.bl false)))))
noncomputable def JU (K:Zrk):TS:=(aD (cQ (kq (lH (jX K (dk (rH K) (ah (aa 0) (ah (tC (.ty "list")) aq))))) (bK (ag (gU K) (dk (iB K) (ah (aa 0) aq)) (tC (.int 0))))) (cn (tC (.bl false))) dI)
  (aO (YQ K)))
theorem VB (T:Txt K mg a):TM P w K mg base 1 "_law_good_way" FA RL a.cU (JU K) :=
 fun hr=>(aG (da (PW.pt (lK (mC (mf (dU zq (by rfl) T.bE PyProof.Rows.boot_isinstance (ai (cv 0) (ai (zm (v:=.ty "list") rfl T.gf PyProof.Rows.boot_list rfl) av))))) (nI (cA (iq (gr hr)) (dU jw (by rfl) T.bj PySem.boot_len (ai (cv 0) av)) ax (cw _))))) (aI (cG jv)) d5)
   (aV (aG (iY PassesOwn.never rfl (lZ rfl T.aJ (ai (dU jw (by rfl) T.bj PySem.boot_len (ai (cv 0) av)) av)) (dP (i:=6) Gh.nd rfl (by walk_at "o")) (aG (bI (i:=7) Gh.nd rfl (by walk_at "o") (bP bQ (cv 0) (cv 6) (fun _ _=>rfl)))
   (aV (aG (da (PW.pt (lK (mC (mf (dg T.g8 (ZjH T) (hm hr) bZ (ai (cv 7) av)))) (lK (mC (OR oZ oZ ax (cv 7) (cv 2))) (lK (rn (QM (gK hr) (cv 7) (cv 4))) (nI (cA mU (bP bQ (cv 3) (cv 7) (fun _ _=>rfl)) (aB kE (bP bQ (cv 3) (cv 2) (fun _ _=>rfl)) ax) (cw _))))))) (aI (cG jv)) d5)
   (aV (aG (da (PW.pt (lK (PW.pt (sH (cA (iq (gr hr)) (cv 6) ax (cw _)) (rq (cA B3 (bP bQ (cv 1) (cv 7) (fun _ _=>rfl)) kg (cw _))))) (nI (PW.pt (sH (cA mU (cv 6) ax (cw _)) (rq (mC (mf (dg T.eR (Qo T) (hm hr) bZ (ai (cv 1) (ai (bP bQ (cv 0) (aB kE (cv 6) ax) (fun _ _=>rfl)) (ai (cv 7) av)))))))))))) (aI (cG jv)) d5)
   (aI (pT (gK hr) (cv 4) (cv 7) jv rfl))))))))
   (aG (iY PassesOwn.never rfl (kM (cv 5)) (dP (i:=8) Gh.nd rfl (by walk_at "o")) (aV (aI (da (PW.pt (sH (cA oK (bP bQ (cv 3) (cv 8) (fun _ _=>rfl)) (aB kE (bP bQ (cv 3) (cv 2) (fun _ _=>rfl)) ax) (cw _)) (rq (mf (dg T.eR (Qo T) (hm hr) bZ (ai (cv 1) (ai (bP bQ (cv 0) (zO Ae ax) (fun _ _=>rfl)) (ai (cv 8) av)))))))) (aI (cG jv)) d5))))
   (aI (cG jv))))))
theorem ZgD (T:Txt K mg a):aK P w K mg base dQ 2 a.cU a.eU ["_law_way","_law_knots","_law_knot","_law_marks","_law_seen","_law_hung"] (Tw K):=by
 refine T.eM.n.fg Gh (VB T) (fun vs H Q E h=>?_) (fun H vs Q E h=>?_)
 ·obtain ⟨wp,kn,mp,sp,hp,m,k,es,w,az,seen,hs,rfl,_⟩:=h;rfl
 ·obtain ⟨wp,kn,mp,sp,hp,m,k,es,w,az,seen,hs,rfl,hW,hN,hM,hS,hH,ok,hk,hz,Aa,wo,pR,sl,hd,hle,q⟩:=h
  show JU K _ [some (.ref wp),some (.ref kn),some (.int k),some (.ref mp),some (.ref sp),some (.ref hp),none,none,none] H
  unfold JU
  have big:(20000:Nat)<=sizeLine:=by decide
  have mz:=Ah ok
  have je:(ar es).length=es.length:=ZrX ..
  walk_at "gs"
  refine ⟨_,true,.lst hW,rfl,?_⟩
  walk_at "gs"
  refine .inl ⟨_,.inl (.of hW),?_⟩
  have jf:=wo.ne
  rw [ZrX,if_neg (by omega)]
  have kW:w.length<=k:=by
   have inc:=wo.inc mz.lt
   have nd:w.Nodup:=ZsU.mpr fun i j hi hj ez=>Ztu (inc i j _ _ ez (ZrY hi) (ZrY hj))
   exact qj nd fun x hx=>(wo.pos x hx).2.1
  walk_at "gs"
  refine .inl ⟨_,.inl (.of hW),?_⟩
  rw [ZrX]
  refine ⟨by omega,by omega,?_⟩
  have at_:∀ {H':Hp}{i:Nat}{x:Nat},w[i]? = some x->fJ (w.map nv) (i:Int)=some (.int (x:Nat)):=fun {H' i x} h=>zy (by rw [Zsa,h];rfl)
  have mk:∀ {x:Nat},x<m+1+es.length->fJ (az.map nv) (x:Int)=some (.int (az.getD x 0:Nat)):=fun {x} h=>vD (by omega)
  refine nQ (fun i σ H2=>pW sp H H2/\H2 sp=some (.dK (jF (seen ++ w.take i)))/\∃ v6 v7:Option V,σ=[some (.ref wp),some (.ref kn),some (.int k),some (.ref mp),some (.ref sp),some (.ref hp),v6,v7,none]) ⟨fun b o _ e=>e,by rw [ZsK,Zsz];exact hS,_,_,rfl⟩ ?_ ?_
  ·rintro i σ H2 hi ⟨u2,h2,v6,v7,rfl⟩
   have hi':i<w.length:=by omega
   obtain ⟨x,hx⟩:∃ x,w[i]? = some x:=⟨_,ZrY hi'⟩
   obtain ⟨x0,x1,x2⟩:=wo.pos x (Zr5 hx)
   have kN:=u2.pn hN hS
   have Ge:=u2.lst hW hS
   have rX:=u2.lst hM hS
   rw [show (0:Int)+(i:Int)=(i:Int) by omega]
   walk_at "gs"
   refine ⟨_,_,.inl (.of Ge),at_ (H':=H2) hx,?_⟩
   refine ER fun W hW'=>?_
   walk_at "gs"
   have qK:x ∉ seen ++ w.take i:=fun z=>by
    rcases Zr3.mp z with g | g
    ·exact pR x (Zr5 hx) g
    ·obtain ⟨j,hj⟩:=Zsr.mp g
     rw [ZsV] at hj
     split at hj
     ·rename_i hji
      have:=wo.inc mz.lt j i x x hji hj hx
      omega
     ·cases hj
   refine ⟨x,rfl,?_⟩
   walk_at "gs"
   rw [if_neg (by decide),if_pos (by omega),if_neg (by omega)]
   refine ⟨sp,_,rfl,g9.k (k:=.inl (x:Int)) h2,?_⟩
   rw [ND,if_neg (by rw [decide_eq_false qK];exact Zt5)]
   refine ⟨_,_,.inl (.of rX),mk (by omega),_,_,.inl (.of rX),mk hk,?_⟩
   walk_at "go"
   rw [if_neg (by omega)]
   refine hW' _ _ ?_
   refine ER fun W2 hW2'=>?_
   have fin:∀ {H3:Hp},aP H2 H3->W2 [some (.ref wp),some (.ref kn),some (.int k),some (.ref mp),some (.ref sp),some (.ref hp),some (.int i),some (.int x),none] H3:=fun {H3} s3=>by
    refine hW2' _ _ ?_
    walk_at "gs"
    refine ⟨sp,_,rfl,nM.k (k:=.inl (x:Int)) (s3 _ _ h2) (by rw [Ly,Zr0,Zsq];omega),fun b o hb e=>by rw [aQ hb];exact s3 _ _ (u2 b o hb e),?_,_,_,rfl⟩
    rw [cz,Ls]
    unfold nC
    rw [if_neg qK,Zsj,hx,Zsh]
    rfl
   walk_at "gs"
   by_cases i0:(i:Int)=0
   ·rw [if_pos i0]
    have GV:x<=m:=Nat.le_of_not_lt fun z=>by
     have h0:=wo.sp x (by rw [<- show i=0 by omega];exact hx)
     obtain ⟨j,rfl⟩:∃ j,x=m+1+j:=⟨x - m - 1,by omega⟩
     have hp:(ar es)[j]? = some ((ar es)[j]'(by omega)):=ZrY _
     rw [pJ hp] at h0
     cases h0
    refine ⟨_,.non,.inl (.of kN.lst),Lf kN GV,?_⟩
    rw [if_neg (fun z=>z rfl),if_neg (by omega)]
    exact fin (aP.refl _)
   rw [if_neg i0,if_pos (by omega)]
   obtain ⟨j,rfl⟩:∃ j,i=j+1:=⟨i - 1,by omega⟩
   obtain ⟨y,hy⟩:∃ y,w[j]? = some y:=⟨_,ZrY (by omega)⟩
   rw [show ((j+1:Nat):Int) - 1=(j:Int) by omega]
   refine ⟨_,_,.inl (.of Ge),at_ (H':=H2) hy,kn,m,y,x,es,rfl,kN,ok,by omega,fun H3 s3=>?_⟩
   rw [decide_eq_true (wo.st j y x hy hx)]
   walk_at "gs"
   rw [if_neg (by decide)]
   exact fin s3
  rintro σ H2 ⟨u2,h2,v6,v7,rfl⟩
  walk_at "gs"
  rw [ZsR (by omega)] at h2
  have kN:=u2.pn hN hS
  have Ge:=u2.lst hW hS
  have rX:=u2.lst hM hS
  have Ot:=u2.lst hH hS
  obtain ⟨g,v,x,hv,hxg,hdg,Bn⟩:=wo.tp
  have pe:=hd g hdg
  have Bb:fJ (w.map nv) (-1)=some (.int (x:Nat)):=by rw [hv];exact GX
  have hxw:x<m+1+es.length:=by have:=(wo.pos x (by rw [hv];simp)).2.1;omega
  refine ⟨⟨_,.of Ot⟩,rD (xs:=hs.map nv) (fun j σ H3=>aP H2 H3/\g ∉ hs.take j/\∃ v8:Option V,σ=[some (.ref wp),some (.ref kn),some (.int k),some (.ref mp),some (.ref sp),some (.ref hp),v6,v7,v8]) ⟨aP.refl _,by simp,_,rfl⟩ ?_ ?_ ?_⟩
  ·rintro j σ H3 _ ⟨s3,_⟩
   exact .of (s3 _ _ Ot)
  ·rintro j vv σ H3 hvv ⟨s3,hg3,v8,rfl⟩
   obtain ⟨y,hy,rfl⟩:=xV hvv
   have hyk:=hle y (Zr5 hy)
   have done:∀ {H4:Hp},aP H3 H4->Q (.bl true) H4:=fun {H4} s4=>q H4 (fun b o hb e=>s4 _ _ (s3 _ _ (u2 b o hb e))) (s4 _ _ (s3 _ _ h2))
   have skip:∀ {H4:Hp},y≠g->aP H3 H4->aP H2 H4/\g ∉ hs.take (j+1):=fun {H4} ne s4=>⟨s3.trans s4,by
    rw [Zsj,hy]
    intro z
    rcases Zr3.mp z with a | a
    ·exact hg3 a
    ·have:g=y:=by simpa using a
     exact ne this.symm⟩
   show aO (NV K) _ [some (.ref wp),some (.ref kn),some (.int k),some (.ref mp),some (.ref sp),some (.ref hp),v6,v7,some (.int (y:Nat))] H3
   walk_at "gs"
   refine ⟨_,_,.inl (.of (s3 _ _ rX)),mk (by omega),_,_,.inl (.of (s3 _ _ rX)),mk hk,?_⟩
   walk_at "gs"
   by_cases c1:((az.getD k 0:Nat):Int) - 1<=((az.getD y 0:Nat):Int)
   case neg =>
    rw [if_neg c1]
    obtain ⟨a1,a2⟩:=skip (fun z=>by rw [z] at c1;omega) (aP.refl _)
    exact ⟨a1,a2,_,rfl⟩
   rw [if_pos c1]
   refine ⟨_,_,.inl (.of (s3 _ _ Ge)),Bb,kn,m,x,y,es,rfl,kN.same s3,ok,by omega,fun H4 s4=>?_⟩
   by_cases c2:x∈aW (dh m (ar es)) y
   ·rw [decide_eq_true c2]
    walk_at "gs"
    exact done s4
   ·rw [decide_eq_false c2]
    walk_at "go"
    obtain ⟨a1,a2⟩:=skip (fun z=>by rw [z] at c2;exact c2 hxg) s4
    exact ⟨a1,a2,_,rfl⟩
  ·rintro σ H3 ⟨s3,hg3,v8,rfl⟩
   rw [ZrX,Zsx] at hg3
   exact absurd pe hg3
noncomputable def HB (_:Zrk):Sp:=fun vs H Q _=>∃ (wl kn mp:Addr) (us:List Addr) (m k s:Nat) (es:List En) (ws:List (List Nat)) (az:List Nat),vs=[.ref wl,.ref kn,.int k,.int s,.ref mp]/\bX H wl us ws/\PN H kn (m+1) es/\H mp=some (.lst (az.map nv))/\MF.Ok m (ar es)/\k<m+1+es.length/\m+1+es.length<=1000/\s<=6/\az.length=m+1+es.length/\lz (aW (dh m (ar es))) (fun x=>az.getD x 0) s k ws /\
 ∀ H',aP H H'->Q (.bl true) H'
noncomputable abbrev ZeX (K:Zrk):TS:=(cQ (pU (bK (ag (cf fun i j=>.bl (decide (j<i))) (aa 7) (tC (.int 0)))) (lH (bK (ag (cf fun i j=>.bl (decide (i<j))) (ag (bJ K) (ag (bJ K) (aa 0) (ag (cf fun i j=>.int (i - j)) (aa 7) (tC (.int 1)))) (tC (.int 0))) (ag (bJ K) (ag (bJ K) (aa 0) (aa 7)) (tC (.int 0))))))) (cn (tC (.bl false))) dI)
noncomputable abbrev TR (K:Zrk):TS:=(aD (cQ (lH (jX K (cP (Tw K) [] E0 (ah (ag (bJ K) (aa 0) (aa 7)) (ah (aa 1) (ah (aa 2) (ah (aa 4) (ah (aa 5) (ah (aa 6) aq))))))))) (cn (tC (.bl false))) dI)
  (aO (ZeX K)))
noncomputable abbrev UM (K:Zrk):TS:=(aD (bb (J5 (cP (PU K) [] E0 (ah (aa 1) (ah (aa 2) aq)))) (aE 6))
  (aD (eD (jK (ah (dk (iB K) (ah (aa 0) aq)) aq)) (aE 7) (aO (TR K)))
  (cn (tC (.bl true)))))
noncomputable def Iv (K:Zrk):TS:=(aD (cQ (kq (lH (jX K (dk (rH K) (ah (aa 0) (ah (tC (.ty "list")) aq))))) (bK (ag (Gx K) (dk (iB K) (ah (aa 0) aq)) (ag ju (ag ef (aa 3) (tC (.int 1))) (dk cInt (ah (ag (cf fun i j=>.bl (decide (j<i))) (ag (bJ K) (aa 4) (aa 2)) (tC (.int 1))) aq)))))) (cn (tC (.bl false))) dI)
  (aD (bb qv (aE 5))
  (aO (UM K))))
theorem Zg (T:Txt K mg a):TM P w K mg base 2 "_law_good_ways" Ei Ru a.cK (Iv K) :=
 fun hr=>(aG (da (PW.pt (lK (mC (mf (dU zq (by rfl) T.bE PyProof.Rows.boot_isinstance (ai (cv 0) (ai (zm (v:=.ty "list") rfl T.gf PyProof.Rows.boot_list rfl) av))))) (nI (cA (Fh (gr hr)) (dU jw (by rfl) T.bj PySem.boot_len (ai (cv 0) av)) (aB jQ (aB eC (cv 3) ax) (IA EF (by rfl) T.lB PyProof.Rows.boot_int (ai (Jf mU (bP bQ (cv 4) (cv 2) (fun _ _=>rfl)) ax (cw _)) av))) (cw _))))) (aI (cG jv)) d5)
   (aG (bI (i:=5) HH.nd rfl (by walk_at "o") zx)
   (aV (aG (bI (i:=6) HH.nd rfl (by walk_at "o") (Zmq rfl rfl T.gf (dg T.iO (U7 T) (hm hr) bZ (ai (cv 1) (ai (cv 2) av)))))
   (aG (iY PassesOwn.never rfl (lZ rfl T.aJ (ai (dU jw (by rfl) T.bj PySem.boot_len (ai (cv 0) av)) av)) (dP (i:=7) HH.nd rfl (by walk_at "o")) (aV (aG (da (mC (mf (dg T.eM (ZgD T) (hm hr) bZ (ai (bP bQ (cv 0) (cv 7) (fun _ _=>rfl)) (ai (cv 1) (ai (cv 2) (ai (cv 4) (ai (cv 5) (ai (cv 6) av))))))))) (aI (cG jv)) d5)
   (aV (aI (da (PW.pt (sH (cA mU (cv 7) ax (cw _)) (rq (mC (cA oZ (bP bQ (bP bQ (cv 0) (aB kE (cv 7) ax) (fun _ _=>rfl)) ax (fun _ _=>rfl)) (bP bQ (bP bQ (cv 0) (cv 7) (fun _ _=>rfl)) ax (fun _ _=>rfl)) (cw _)))))) (aI (cG jv)) d5))))))
   (aI (cG jv)))))))
theorem Oe (T:Txt K mg a):aK P w K mg base dQ 3 a.cK a.d8 ["_law_ways","_law_knots","_law_knot","_law_size","_law_marks"] (HB K):=by
 refine T.cN.n.fg HH (Zg T) (fun vs H Q E h=>?_) (fun H vs Q E h=>?_)
 ·obtain ⟨wl,kn,mp,us,m,k,s,es,ws,az,rfl,_⟩:=h;rfl
 ·obtain ⟨wl,kn,mp,us,m,k,s,es,ws,az,rfl,hW,hN,hM,ok,hk,hz,s6,Aa,wo,q⟩:=h
  show Iv K _ [some (.ref wl),some (.ref kn),some (.int k),some (.int s),some (.ref mp),none,none,none] H
  unfold Iv
  have big:(20000:Nat)<=sizeLine:=by decide
  have mz:=Ah ok
  have mk:∀ {x:Nat},x<m+1+es.length->fJ (az.map nv) (x:Int)=some (.int (az.getD x 0:Nat)):=fun {x} h=>vD (by omega)
  walk_at "gs"
  refine ⟨_,true,.lst hW.lst,rfl,?_⟩
  walk_at "gs"
  rw [if_neg (by decide)]
  have GQ:=wo.len
  have nR:=hW.len
  refine .inl ⟨_,.inl (.of hW.lst),_,_,.inl (.of hM),mk hk,.inr ⟨by split <;> omega,by split <;> omega⟩,?_⟩
  rw [ZrX,nR,if_neg (by
   intro z
   refine z ?_
   rw [GQ]
   by_cases c:1<az.getD k 0
   ·rw [if_pos c,if_pos (by omega)];omega
   ·rw [if_neg c,if_neg (by omega)];omega)]
  have w7:ws.length<=7:=by rw [GQ];split <;> omega
  intro sd H1 n1
  have Y0:=hN.same n1.same
  walk_at "gs"
  refine ⟨kn,m,k,es,rfl,Y0,ok,hk,hz,fun cd ks H2 s2 h2 hd hle qz=>?_⟩
  walk_at "gs"
  refine ⟨cd,jF ks,rfl,h2,fun hl H3 n3=>?_⟩
  have e3:(jF ks).map (fun kv=>kV kv.1)=ks.map nv:=by unfold jF;rw [Zsd];rfl
  rw [e3] at n3
  have ke:=(n1.same.trans s2).trans n3.same
  have SQ:=n3.same _ _ (s2 _ _ n1.at_)
  walk_at "gs"
  have X9:=ke _ _ hW.lst
  refine .inl ⟨_,.inl (.of X9),?_⟩
  rw [ZrX,nR]
  refine ⟨by omega,by omega,?_⟩
  have Vx:H sd=none:=n1.aH
  have up:∀ {H4:Hp},pW sd H3 H4->aP H H4:=fun {H4} u b o e=>u b o (cq e Vx) (ke b o e)
  refine nQ (fun i σ H4=>pW sd H3 H4/\H4 sd=some (.dK (jF (ws.take i).flatten))/\(ws.take i).flatten.length<=1000 * i/\∃ v7:Option V,σ=[some (.ref wl),some (.ref kn),some (.int k),some (.int s),some (.ref mp),some (.ref sd),some (.ref hl),v7]) ⟨fun b o _ e=>e,SQ,by simp,_,rfl⟩ ?_ ?_
  ·rintro i σ H4 hi ⟨u4,h4,l4,v7,rfl⟩
   have hi':i<ws.length:=by omega
   obtain ⟨w,hw⟩:∃ w,ws[i]? = some w:=⟨_,ZrY hi'⟩
   obtain ⟨u,hu⟩:∃ u,us[i]? = some u:=⟨_,ZrY (by omega)⟩
   have s4:=up u4
   have G0:=wo.ok w (Zr5 hw)
   have D4:=s4 _ _ (hW.at_ i u w hu hw)
   have Lk:∀ {j:Nat}{u:Addr},us[j]? = some u->fJ (us.map V.ref) (j:Int)=some (.ref u):=fun {j u} h=>zy (by rw [Zsa,h];rfl)
   have kW:w.length<=1000:=by
    have nd:w.Nodup:=ZsU.mpr fun a b ha hb gX=>Ztu (G0.inc mz.lt a b _ _ gX (ZrY ha) (ZrY hb))
    have:=qj nd fun x hx=>(G0.pos x hx).2.1
    omega
   rw [show (0:Int)+(i:Int)=(i:Int) by omega]
   walk_at "gs"
   refine ⟨_,_,.inl (.of (s4 _ _ hW.lst)),Lk hu,?_⟩
   refine ⟨u,kn,mp,sd,hl,m,k,es,w,az,(ws.take i).flatten,ks,rfl,D4,hN.same s4,s4 _ _ hM,h4,u4 _ _ (cZ n3.at_ SQ (fun z=>nomatch z)) n3.at_,ok,hk,hz,Aa,G0,fun x hx hf=>?_,by omega,hd,hle,fun H5 u5 h5=>?_⟩
   ·obtain ⟨w',hw',hx'⟩:=List.mem_flatten.mp hf
    obtain ⟨j,hj⟩:=Zsr.mp hw'
    rw [ZsV] at hj
    split at hj
    ·rename_i hji
     exact wo.dj j i w' w hji hj hw x hx hx'
    ·cases hj
   have Qy:pW sd H3 H5:=fun b o hb e=>u5 b o hb (u4 b o hb e)
   have s5:=up Qy
   have nx:pW sd H3 H5/\(H5 sd=some (.dK (jF (ws.take (i+1)).flatten))/\(ws.take (i+1)).flatten.length<=1000 * (i+1)):=by
    rw [Zsj,hw]
    refine ⟨Qy,?_,?_⟩
    ·rw [h5];simp
    ·simp;simp at l4;omega
   walk_at "gs"
   by_cases i0:(0:Int)<(i:Int)
   case neg =>
    rw [if_neg i0]
    exact ⟨nx.1,nx.2.1,nx.2.2,_,rfl⟩
   rw [if_pos i0]
   obtain ⟨j,rfl⟩:∃ j,i=j+1:=⟨i - 1,by omega⟩
   obtain ⟨w',hw'⟩:∃ w,ws[j]? = some w:=⟨_,ZrY (by omega)⟩
   obtain ⟨u',hu'⟩:∃ u,us[j]? = some u:=⟨_,ZrY (by omega)⟩
   have wok':=wo.ok w' (Zr5 hw')
   obtain ⟨a1,ha1⟩:∃ a,w'[0]? = some a:=⟨_,ZrY wok'.ne⟩
   obtain ⟨b1,hb1⟩:∃ b,w[0]? = some b:=⟨_,ZrY G0.ne⟩
   have gX:=wo.hd j w' w a1 b1 hw' hw ha1 hb1
   have SN:∀ {l:List Nat}{x:Nat},l[0]? = some x->fJ (l.map nv) 0=some (.int (x:Nat)):=fun {l x} h=>by
    have:=zy (xs:=l.map nv) (j:=0) (v:=.int (x:Nat)) (by rw [Zsa,h];rfl)
    exact this
   rw [show ((j+1:Nat):Int) - 1=(j:Int) by omega]
   refine ⟨_,_,.inl (.of (s5 _ _ hW.lst)),Lk hu',_,_,.inl (.of (s5 _ _ (hW.at_ j u' w' hu' hw'))),SN ha1,_,_,.inl (.of (s5 _ _ hW.lst)),Lk hu,_,_,.inl (.of (s5 _ _ (hW.at_ (j+1) u w hu hw))),SN hb1,?_⟩
   walk_at "go"
   rw [if_neg (by omega)]
   exact ⟨nx.1,nx.2.1,nx.2.2,_,rfl⟩
  rintro σ H4 ⟨u4,h4,l4,v7,rfl⟩
  walk_at "gs"
  exact q H4 (up u4)
theorem iG.len {lo:Nat->List Nat}{lv:Nat->Nat}{k:Nat}{w:List Nat} (aX:∀ p l,l∈lo p->l<p) (h:iG lo lv k w):w.length<=k:=by
 have go:∀ (i a:Nat),w[i]? = some a->i<=a:=by
  intro i
  induction i with
  | zero=>exact fun a _=>Ztx a
  | succ i ih =>
   intro a ha
   have hl:=(Zr1.mp ha).1
   have hb:=ZrY (show i<w.length by omega)
   have:=ih _ hb
   have:=h.inc aX i (i+1) _ _ (by omega) hb ha
   omega
 have hn:=h.ne
 have hb:=ZrY (show w.length - 1<w.length by omega)
 have h1:=go _ _ hb
 have h2:=(h.pos _ (Zr5 hb)).2.1
 omega
theorem Sy {m:Nat}{P:List MF.Pr} (ok:MF.Ok m P) {n c:Nat} (h:ML.Dn (aW (dh m P)) n c) (hn:1<=n):1<=c:=by
 induction h with
 | here=>exact hn
 | low h hx ih =>
  obtain ⟨j,p,_,hp,e⟩:=GI hx
  obtain ⟨o1,o2,_,_⟩:=ok _ _ hp
  rcases e with rfl | rfl <;> omega
noncomputable def iF (K:Zrk):Sp:=fun vs H Q _=>∃ (p:Addr) (ns:List Int),vs=[.ref p]/\bY K H p (ns.map V.int)/\ns.length<=63/\∀ H',Q (.bl true) H'
noncomputable abbrev Xa (a:aN) (K:Zrk):TS:=(bb (ag ef (ag ef (aa 2) (tC (.int 1))) (ag (bU (fun _ j=>0<j) fun i j=>.int (i % j)) (ag (bU eA fun i j=>.int (i / j)) (aa 1) (tC (.int 6))) (ag (cf fun i j=>.int (i - j)) (tC (.int 10)) (aa 2)))) (aE 3))
noncomputable abbrev ZoR (a:aN) (K:Zrk):TS:=(bb (cP (Q1 K) [] E0 (ah (aa 3) (ah (cP (NB K) [] E0 (ah (aa 0) (ah (tC (.int 3)) (ah (ag (bU (fun _ j=>0<j) fun i j=>.int (i % j)) (ag (bU eA fun i j=>.int (i / j)) (cP (uV K) [] E0 (ah (aa 0) (ah (tC (.int 1)) aq))) (tC (.int 18))) (ag (cf fun i j=>.int (i - j)) (aa 4) (tC (.int 1)))) aq)))) aq))) (aE 5))
noncomputable abbrev Uc (a:aN) (K:Zrk):TS:=(aD (bb (cP (RA a K) [] E0 (ah (aa 3) (ah (ag ef (ik (yj [(.int 0),(.int 0)])) (Lu (wA K) (aa 0) (zz (tC (.int 2))) (zz (tC (.int 4))))) aq))) (pj K 2 (rL (aE 6) (rL (aE 7) o9))))
  (bb (ag (cf fun i j=>.int (i - j)) (dk (iB K) (ah (aa 7) aq)) (tC (.int 4))) (aE 8)))
noncomputable abbrev YW (a:aN) (K:Zrk):TS:=(cQ (kq (lH (bK (qg (cf fun i j=>.bl (decide (i<=j))) (cf fun i j=>.bl (decide (i<=j))) (aa 12) (ag (bJ K) (aa 10) (aa 11)) (ag ef (aa 12) (tC (.int 1)))))) (bK (ag (gU K) (ag (bJ K) (aa 10) (aa 11)) (tC (.int 0))))) (cn (tC (.bl false))) dI)
noncomputable abbrev Ve (a:aN) (K:Zrk):TS:=(aD (bb (dk mO (ah (ag (bJ K) (aa 10) (ag (bU eA fun i j=>.int (i / j)) (ag (bJ K) (ag (bJ K) (aa 7) (aa 11)) (tC (.int 0))) (tC (.int 2)))) (ah (ag (bJ K) (aa 10) (ag (bU eA fun i j=>.int (i / j)) (ag (bJ K) (ag (bJ K) (aa 7) (aa 11)) (tC (.int 1))) (tC (.int 2)))) aq))) (aE 12))
  (aO (YW a K)))
noncomputable abbrev Vb (a:aN) (K:Zrk):TS:=(cQ (lH (jX K (cP (HB K) [] E0 (ah (gq a.ae "ways" (GJ a K) [] E0 (aa 9) (ah (aa 11) aq)) (ah (aa 7) (ah (aa 11) (ah (aa 2) (ah (aa 10) aq)))))))) (cn (tC (.bl false))) dI)
noncomputable abbrev ZA (a:aN) (K:Zrk):TS:=(aD (eD (jt K (aa 13)) (aE 14) (fW (j8 K "list" kQ (aa 14) (ah (aa 11) aq))))
  (aD (fW (j8 K "list" kQ (aa 13) (ah (ik aq) aq)))
  (aO (Vb a K))))
noncomputable abbrev WJ (a:aN) (K:Zrk):TS:=(aD (cQ (lH (jX K (cP (HB K) [] E0 (ah (aa 13) (ah (aa 7) (ah (aa 11) (ah (aa 2) (ah (aa 10) aq)))))))) (cn (tC (.bl false))) dI)
  (aO (ZA a K)))
noncomputable abbrev Xx (a:aN) (K:Zrk):TS:=(aD (eD (zw (ah (aa 8) (ah (dk (iB K) (ah (aa 7) aq)) aq))) (aE 11) (aD (bb (gq a.ae "ways" (GJ a K) [] E0 (aa 9) (ah (aa 11) aq)) (aE 13))
  (aO (WJ a K))))
  (cn (tC (.bl true))))
noncomputable abbrev Z7 (a:aN) (K:Zrk):TS:=(aD (eD (zw (ah (ag ef (aa 3) (tC (.int 1))) (ah (dk (iB K) (ah (aa 7) aq)) aq))) (aE 11) (aO (Ve a K)))
  (aO (Xx a K)))
noncomputable abbrev Ww (a:aN) (K:Zrk):TS:=(aD (bb (jn (jK (ah (dk (iB K) (ah (aa 7) aq)) aq)) 1 [9] (aE 0) lx (gq a.ae "label" (NL a K) [] E0 (aa 1) (ah (aa 0) aq))) (aE 10))
  (aO (Z7 a K)))
noncomputable abbrev Yg (a:aN) (K:Zrk):TS:=(me (cQ (bK (ag (gU K) (ag (bU (fun _ j=>0<j) fun i j=>.int (i % j)) (ag (bU eA fun i j=>.int (i / j)) (aa 1) (tC (.int 60))) (tC (.int 16))) (tC (.int 3)))) (aD (bb (dk mO (ah (tC (.int 3)) (ah (aa 3) aq))) (aE 3))
  (aO (Uc a K))) dI)
  (aD (bb (Aq a.ae (KL a K) [] E0 (ah (aa 6) (ah (aa 2) aq))) (aE 9))
  (aO (Ww a K))))
noncomputable abbrev Zni (a:aN) (K:Zrk):TS:=(aD (bb (cP (Sa a K) [] E0 (ah (aa 3) (ah (aa 5) aq))) (pj K 2 (rL (aE 6) (rL (aE 7) o9))))
  (aD (bb (ag ef (aa 3) (tC (.int 1))) (aE 8))
  (aO (Yg a K))))
noncomputable abbrev WT (a:aN) (K:Zrk):TS:=(me (cQ (bK (ag (gU K) (ag (bU (fun _ j=>0<j) fun i j=>.int (i % j)) (ag (bU eA fun i j=>.int (i / j)) (cP (uV K) [] E0 (ah (aa 0) (ah (tC (.int 1)) aq))) (tC (.int 9))) (tC (.int 2))) (tC (.int 0)))) (aO (ZoR a K)) dI)
  (aO (Zni a K)))
noncomputable abbrev ZI (a:aN) (K:Zrk):TS:=(aD (bb (cP (N0 K) [] E0 (ah (aa 3) (ah (cP (uV K) [] E0 (ah (aa 0) (ah (tC (.int 2)) aq))) (ah (tC (.int 16)) aq)))) (aE 5))
  (aO (WT a K)))
noncomputable abbrev YY (a:aN) (K:Zrk):TS:=(me (cQ (bK (ag (cf fun i j=>.bl (decide (j<i))) (aa 2) (tC (.int 4)))) (bb (tC (.int 32)) (aE 4)) dI)
  (aO (ZI a K)))
noncomputable abbrev ZJ (a:aN) (K:Zrk):TS:=(me (cQ (bK (ag (cf fun i j=>.bl (decide (i<j))) (ag (bU (fun _ j=>0<j) fun i j=>.int (i % j)) (aa 1) (tC (.int 6))) (tC (.int 5)))) (aO (Xa a K)) dI)
  (aD (bb (tC (.int 42)) (aE 4))
  (aO (YY a K))))
noncomputable abbrev Wd (a:aN) (K:Zrk):TS:=(aD (bb (ag ef (tC (.int 2)) (ag (bU (fun _ j=>0<j) fun i j=>.int (i % j)) (ag (bU eA fun i j=>.int (i / j)) (aa 1) (tC (.int 6))) (tC (.int 9)))) (aE 3))
  (aO (ZJ a K)))
noncomputable abbrev YK (a:aN) (K:Zrk):TS:=(aD (bb (ag (bJ K) (ik (yj [(.int 3),(.int 2),(.int 4),(.int 2),(.int 3),(.int 5),(.int 2),(.int 3),(.int 6)])) (ag (bU (fun _ j=>0<j) fun i j=>.int (i % j)) (cP (uV K) [] E0 (ah (aa 0) (ah (tC (.int 1)) aq))) (tC (.int 9)))) (aE 2))
  (aO (Wd a K)))
noncomputable def IS (a:aN) (K:Zrk):TS:=(aD (bb (cP (uV K) [] E0 (ah (aa 0) (ah (tC (.int 0)) aq))) (aE 1))
  (aO (YK a K)))
theorem xD (T:Txt K mg a):TM P w K mg base 7 "law" zZ Mx a.oH (IS a K) :=
 fun hr=>(aG (bI (i:=1) i9.nd rfl (by walk_at "o") (dg T.bq (Aj T) (hm hr) bZ (ai (cv 0) (ai ax av))))
   (aV (aG (bI (i:=2) i9.nd rfl (by walk_at "o") (bP bQ (jo (yX (vs:=[(.int 3),(.int 2),(.int 4),(.int 2),(.int 3),(.int 5),(.int 2),(.int 3),(.int 6)]) rfl)) (aB gh (dg T.bq (Aj T) (hm hr) bZ (ai (cv 0) (ai ax av))) ax) (fun _ _=>rfl)))
   (aV (aG (bI (i:=3) i9.nd rfl (by walk_at "o") (aB eC ax (aB gh (aB eE (cv 1) ax) ax)))
   (aV (qE (da (cA oZ (aB gh (cv 1) ax) ax (cw _)) (aV (aI (bI (i:=3) i9.nd rfl (by walk_at "o") (aB eC (aB eC (cv 2) ax) (aB gh (aB eE (cv 1) ax) (aB kE ax (cv 2))))))) d5)
   (aG (bI (i:=4) i9.nd rfl (by walk_at "o") ax)
   (aV (qE (da (cA mU (cv 2) ax (cw _)) (aI (bI (i:=4) i9.nd rfl (by walk_at "o") ax)) d5)
   (aV (aG (bI (i:=5) i9.nd rfl (by walk_at "o") (dg T.dA (Ze5 T) (hm hr) bZ (ai (cv 3) (ai (dg T.bq (Aj T) (hm hr) bZ (ai (cv 0) (ai ax av))) (ai ax av)))))
   (aV (qE (da (cA (iq (gr hr)) (aB gh (aB eE (dg T.bq (Aj T) (hm hr) bZ (ai (cv 0) (ai ax av))) ax) ax) ax (cw _)) (aV (aI (bI (i:=5) i9.nd rfl (by walk_at "o") (dg T.gN (ZjI T) (hm hr) bZ (ai (cv 3) (ai (dg T.gI (VX T) (hm hr) bZ (ai (cv 0) (ai ax (ai (aB gh (aB eE (dg T.bq (Aj T) (hm hr) bZ (ai (cv 0) (ai ax av))) ax) (aB kE (cv 4) ax)) av)))) av)))))) d5)
   (aV (aG (Hd (dg T.iz (VO T) (hm hr) bZ (ai (cv 3) (ai (cv 5) av))) (M0 rfl (zv (dP (i:=6) i9.nd rfl (by walk_at "o")) (zv (dP (i:=7) i9.nd rfl (by walk_at "o")) MT))))
   (aG (bI (i:=8) i9.nd rfl (by walk_at "o") (aB eC (cv 3) ax))
   (aV (qE (da (cA (iq (gr hr)) (aB gh (aB eE (cv 1) ax) ax) ax (cw _)) (aG (bI (i:=3) i9.nd rfl (by walk_at "o") (dU (Hh rfl) (by rfl) T.iR PyProof.Rows.boot_max (ai ax (ai (cv 3) av))))
   (aV (aG (Hd (dg T.iW (Vs T) (hm hr) bZ (ai (cv 3) (ai (aB eC (jo (yX (vs:=[(.int 0),(.int 0)]) rfl)) (YS Zu (cv 0) (Th ax) (Th ax))) av))) (M0 rfl (zv (dP (i:=6) i9.nd rfl (by walk_at "o")) (zv (dP (i:=7) i9.nd rfl (by walk_at "o")) MT))))
   (aI (bI (i:=8) i9.nd rfl (by walk_at "o") (aB kE (dU jw (by rfl) T.bj PySem.boot_len (ai (cv 7) av)) ax)))))) d5)
   (aG (bI (i:=9) i9.nd rfl (by walk_at "o") (Kb T.mk_Labels (XQ T) (hm hr) rfl T.ny T.du.b .nil oY (ai (cv 6) (ai (cv 2) av))))
   (aV (aG (xE (i:=10) (N:=["_law_knot","_law_labels"]) (k:=1) (sel:=[9]) (aT.of (bx zZ).names (by decide +kernel)) (bA.of Mx (by decide +kernel)) rfl (lZ rfl T.aJ (ai (dU jw (by rfl) T.bj PySem.boot_len (ai (cv 7) av)) av)) (fun _ _ _ _=>(dP (i:=0) (show Zss (["_law_knot","_law_labels"]:List Str) by decide +kernel) rfl (by walk_at "o"))) (fun _ _ _ _=>sR) (fun _ _ _ _=>(lg (cv 1) T.aA T.cV.e (WA T) (hm hr) T.cV.b .nil oY (ai (cv 0) av))) i9.nd rfl (by walk_at "o") rfl)
   (aV (aG (iY PassesOwn.never rfl (J7 rfl T.aJ (ai (aB eC (cv 3) ax) (ai (dU jw (by rfl) T.bj PySem.boot_len (ai (cv 7) av)) av))) (dP (i:=11) i9.nd rfl (by walk_at "o")) (aV (aG (bI (i:=12) i9.nd rfl (by walk_at "o") (dU (Hh rfl) (by rfl) T.iR PyProof.Rows.boot_max (ai (bP bQ (cv 10) (aB eE (bP bQ (bP bQ (cv 7) (cv 11) (fun _ _=>rfl)) ax (fun _ _=>rfl)) ax) (fun _ _=>rfl)) (ai (bP bQ (cv 10) (aB eE (bP bQ (bP bQ (cv 7) (cv 11) (fun _ _=>rfl)) ax (fun _ _=>rfl)) ax) (fun _ _=>rfl)) av))))
   (aV (aI (da (PW.pt (lK (mC (OR mY mY (cv 12) (bP bQ (cv 10) (cv 11) (fun _ _=>rfl)) (aB eC (cv 12) ax))) (nI (cA (iq (gr hr)) (bP bQ (cv 10) (cv 11) (fun _ _=>rfl)) ax (cw _))))) (aI (cG jv)) d5))))))
   (aV (aG (iY PassesOwn.never rfl (J7 rfl T.aJ (ai (cv 8) (ai (dU jw (by rfl) T.bj PySem.boot_len (ai (cv 7) av)) av))) (dP (i:=11) i9.nd rfl (by walk_at "o")) (aG (bI (i:=13) i9.nd rfl (by walk_at "o") (lg (cv 9) T.aA T.bV.e (Tg T) (hm hr) T.bV.b .nil oY (ai (cv 11) av)))
   (aV (aG (da (mC (mf (dg T.cN (Oe T) (hm hr) bZ (ai (cv 13) (ai (cv 7) (ai (cv 11) (ai (cv 2) (ai (cv 10) av)))))))) (aI (cG jv)) d5)
   (aV (aG (iY PassesOwn.never rfl (kM (cv 13)) (dP (i:=14) i9.nd rfl (by walk_at "o")) (aI (gB (kK ZrP ZrQ ZrR (kR kS) (cv 14) (ai (cv 11) av)))))
   (aG (gB (kK ZrP ZrQ ZrR (kR kS) (cv 13) (ai (jo av) av)))
   (aV (aI (da (mC (mf (dg T.cN (Oe T) (hm hr) bZ (ai (lg (cv 9) T.aA T.bV.e (Tg T) (hm hr) T.bV.b .nil oY (ai (cv 11) av)) (ai (cv 7) (ai (cv 11) (ai (cv 2) (ai (cv 10) av)))))))) (aI (cG jv)) d5))))))))))
   (aI (cG jv))))))))))))))))))))))))))))
theorem uN (T:Txt K mg a):aK P w K mg base dQ 8 a.oH a.sv ["_law_script"] (iF K):=by
 refine T.sJ.n.fg i9 (xD T) (fun vs H Q E h=>?_) (fun H vs Q E h=>?_)
 ·obtain ⟨p,ns,rfl,_⟩:=h;rfl
 ·obtain ⟨p,ns,rfl,hS,hl,k⟩:=h
  show IS a K _ [some (.ref p),none,none,none,none,none,none,none,none,none,none,none,none,none,none] H
  unfold IS
  have big:(20000:Nat)<=sizeLine:=by decide
  walk_at "gs"
  refine ⟨p,ns,0,rfl,hS,fun c0=>?_⟩
  walk_at "gs"
  intro q1 H1 n1
  refine ⟨p,ns,1,rfl,n1.same.seq hS,fun c1=>⟨by omega,?_⟩⟩
  obtain ⟨s,hs,s2,s6⟩:∃ s:Nat,fJ [V.int 3,V.int 2,V.int 4,V.int 2,V.int 3,V.int 5,V.int 2,V.int 3,V.int 6] (c1 % 9)=some (.int (s:Nat))/\2<=s/\s<=6:=by
   rcases (by omega:c1 % 9=0\/c1 % 9=1\/c1 % 9=2\/c1 % 9=3\/c1 % 9=4\/c1 % 9=5\/c1 % 9=6\/c1 % 9=7\/c1 % 9=8) with z | z | z | z | z | z | z | z | z <;> rw [z]
   ·exact ⟨3,rfl,by omega,by omega⟩
   ·exact ⟨2,rfl,by omega,by omega⟩
   ·exact ⟨4,rfl,by omega,by omega⟩
   ·exact ⟨2,rfl,by omega,by omega⟩
   ·exact ⟨3,rfl,by omega,by omega⟩
   ·exact ⟨5,rfl,by omega,by omega⟩
   ·exact ⟨2,rfl,by omega,by omega⟩
   ·exact ⟨3,rfl,by omega,by omega⟩
   ·exact ⟨6,rfl,by omega,by omega⟩
  refine ⟨_,_,.inl (.of n1.at_),hs,?_⟩
  walk_at "gs"
  have Az:=n1.same.seq hS
  refine mid (fun σ' H'=>H'=H1/\∃ m:Nat,2<=m/\m<=10/\σ'=[some (.ref p),some (.int c0),some (.int s),some (.int m),none,none,none,none,none,none,none,none,none,none,none]) ?_ ?_
  ·intro N hN
   walk_at "gs"
   by_cases c:c0 % 6<5
   ·rw [if_pos c]
    have x1:=ZtO (c0 / 6) (show 10 - (s:Int)≠0 by omega)
    have x2:=ZtP (c0 / 6) (show 0<10 - (s:Int) by omega)
    obtain ⟨m,hm⟩:=ZtM (by omega:0<=(s:Int)+1+c0 / 6 % (10 - (s:Int)))
    walk_at "gs"
    rw [hm]
    exact hN _ _ ⟨rfl,m,by omega,by omega,rfl⟩
   ·rw [if_neg c]
    obtain ⟨m,hm⟩:=ZtM (by omega:0<=2+c0 / 6 % 9)
    rw [hm]
    exact hN _ _ ⟨rfl,m,by omega,by omega,rfl⟩
  rintro σ2 H2 ⟨rfl,m,m2,m10,rfl⟩
  walk_at "gs"
  refine mid (fun σ' H'=>H'=H2/\∃ la:Nat,32<=la/\la<=42/\σ'=[some (.ref p),some (.int c0),some (.int s),some (.int m),some (.int la),none,none,none,none,none,none,none,none,none,none]) ?_ ?_
  ·intro N hN
   walk_at "gs"
   by_cases c:(4:Int)<(s:Int)
   ·rw [if_pos c]
    exact hN _ _ ⟨rfl,32,by omega,by omega,rfl⟩
   ·rw [if_neg c]
    exact hN _ _ ⟨rfl,42,by omega,by omega,rfl⟩
  rintro σ3 H3 ⟨rfl,la,la1,la2,rfl⟩
  walk_at "gs"
  refine ⟨p,ns,2,rfl,Az,fun c2=>?_⟩
  refine ⟨c2,m,16,rfl,by omega,by omega,fun XU ep1 H5 s5 f5 hP1 Qq hT1=>?_⟩
  walk_at "gs"
  refine mid (fun σ' H'=>aP H3 H'/\∃ (pp:Addr) (ep:List En),PL H' pp ep/\ep.length<=100/\qy m (ar ep)/\σ'=[some (.ref p),some (.int c0),some (.int s),some (.int m),some (.int la),some (.ref pp),none,none,none,none,none,none,none,none,none]) ?_ ?_
  ·intro N hN
   walk_at "gs"
   refine ⟨p,ns,1,rfl,s5.seq Az,fun c3=>?_⟩
   walk_at "gs"
   by_cases c:c3 / 9 % 2=0
   ·rw [if_pos c]
    walk_at "gs"
    refine ⟨p,ns,1,rfl,s5.seq Az,fun c4=>?_⟩
    have x1:=ZtO (c4 / 18) (show (la:Int) - 1≠0 by omega)
    have x2:=ZtP (c4 / 18) (show 0<(la:Int) - 1 by omega)
    obtain ⟨n,hn⟩:=ZtM x1
    walk_at "gs"
    rw [hn]
    refine ⟨p,ns,n,rfl,s5.seq Az,by omega,fun l cs H6 s6' hl6 jL=>?_⟩
    refine ⟨l,m,cs,rfl,hl6,by omega,by omega,by omega,fun pp es H8 s8 f8 hP8 hle8 hT8=>?_⟩
    exact hN _ _ ⟨(s5.trans s6').trans s8,pp,es,hP8,by omega,hT8,rfl⟩
   ·rw [if_neg c]
    exact hN _ _ ⟨s5,XU,ep1,hP1,by omega,hT1,rfl⟩
  rintro σ6 H6 ⟨s6',pp,ep,hP2,oj,hT2,rfl⟩
  walk_at "gs"
  refine ⟨pp,m,ep,rfl,hP2,hT2,by omega,by omega,by omega,fun tp f dx pl kl kn es cx H7 s7 htp hf ff fp fk qZ hK e2 ok hle mQ=>?_⟩
  refine ⟨tp,_,rfl,.of htp,rfl,_,_,rfl,_,_,rfl,rfl,?_⟩
  walk_at "gs"
  have IY:=s7.seq (s6'.seq Az)
  refine mid (fun σ' H'=>∃ (f dx pl kl kn:Addr) (m st:Nat) (es cx:List En),m<=10/\aC a.af H' f m es dx pl kl/\PN H' kn (m+1) cx/\ar cx=ar es/\MF.Ok m (ar es)/\es.length<=705/\m+1<=st/\st<=m+1+es.length/\σ'=[some (.ref p),some (.int c0),some (.int s),some (.int m),some (.int la),some (.ref pp),some (.ref f),some (.ref kn),some (.int st),none,none,none,none,none,none]) ?_ ?_
  ·intro N hN
   walk_at "gs"
   by_cases c:c0 / 60 % 16=3
   ·rw [if_pos c]
    obtain ⟨m3,hm3,m31,m32⟩:∃ m3:Nat,(if (3:Int)<(m:Int) then (m:Int) else 3)=m3/\3<=m3/\m3<=10:=by
     split
     ·exact ⟨m,rfl,by omega,by omega⟩
     ·exact ⟨3,rfl,by omega,by omega⟩
    walk_at "gs"
    intro qa Ha na
    refine ⟨_,na.same.seq IY,fun qb Hb nb=>⟨_,_,nb.same _ _ na.at_,nb.at_,?_,fun qc hc=>?_⟩⟩
    ·have:=RM (ns.map V.int) (some 2) (some 4)
     rw [ZrX] at this
     show 2+_<=sizeLine
     omega
    obtain ⟨cs,hcs,jL⟩:∃ cs:List Int,[V.int 0,V.int 0] ++ qQ (ns.map V.int) (some 2) (some 4)=cs.map V.int/\cs.length<=4:=by
     refine ⟨[0,0] ++ (ns.drop (HT.jJ ns.length 0 (some 2))).take (HT.jJ ns.length ns.length (some 4) - HT.jJ ns.length 0 (some 2)),?_,?_⟩
     ·unfold qQ
      rw [ZrX,Zr4,List.map_take,List.map_drop]
      rfl
     ·rw [Zr0,Zsq,Ztd]
      unfold HT.jJ
      show 2+_<=4
      simp
      omega
    rw [hcs]
    have UH:(if (m:Int) > 3 then (m:Int) else 3)=m3:=hm3
    rw [UH]
    refine ⟨qc,m3,cs,rfl,cz,m31,m32,jL,fun tp f dx pl kl kn es cx H8 s8 htp hf hK e2 ok l1 l2=>?_⟩
    refine ⟨tp,_,rfl,.of htp,rfl,_,_,rfl,_,_,rfl,rfl,.inl ⟨_,.inl (.of hK.lst),?_⟩⟩
    have je:(ar es).length=es.length:=ZrX ..
    have jm:cx.length=es.length:=by rw [<- je,<- e2];exact (ZrX ..).symm
    rw [Zr0,Zsb,ZrX,jm]
    exact hN _ _ ⟨f,dx,pl,kl,kn,m3,m3+1+es.length - 4,es,cx,m32,hf,hK,e2,ok,l2,by omega,by omega,by rw [show ((m3+1+es.length - 4:Nat):Int)=((m3+1+es.length:Nat):Int) - 4 by omega]⟩
   ·rw [if_neg c]
    exact hN _ _ ⟨f,dx,pl,kl,kn,m,m+1,es,cx,by omega,hf,hK,e2,ok,by omega,by omega,by omega,rfl⟩
  clear s7 hf hK e2 ok hle mQ ff fp fk qZ htp
  clear m2 m10 hP2 hT2
  clear f dx pl kl kn es cx
  rintro σ7 H8 ⟨f,dx,pl,kl,kn,m,st,es,cx,m10,f7,k7,e2,ok,hle,yf,st2,rfl⟩
  have je:(ar es).length=es.length:=ZrX ..
  have jm:cx.length=es.length:=by rw [<- je,<- e2];exact (ZrX ..).symm
  walk_at "gs"
  refine mk_Labels f7 ok (by omega) (by omega) s2 s6 fun x xd ll fc fw H9 az aY aH eZ dG s9 hx Aa hfc hfw hL jL=>?_
  have k9:=k7.same s9
  have hlen:=hL.len
  have T7:=hL.cl
  have xF:=hL.sl
  have kW:=hL.wl
  have mz:=Ah ok
  walk_at "gs"
  refine .inl ⟨_,.inl (.of k9.lst),?_⟩
  rw [Zr0,Zsb,ZrX,jm]
  refine ⟨by omega,by omega,?_⟩
  rw [ZtL]
  refine GY (fun i=>nv (az.getD i.toNat 0)) rfl (by omega) (fun i H' Q' hi s' q'=>?_) fun mk H10 n10=>?_
  ·walk_at "gs"
   have hL':=hL.same s'
   refine ⟨x,xd,_,rfl,hL'.at_.ins,rfl,x,xd,ll,fc,fw,m,_,az,aY,aH,rfl,hL'.at_,fun n en hn=>?_,fun z=>absurd ⟨by omega,by omega⟩ z⟩
   rw [show n=(0+(i:Int)).toNat by omega]
   exact q'
  have zA:H10 mk=some (.lst (az.map nv)):=by
   rw [n10.at_]
   congr 2
   refine List.ext_getElem? fun i=>?_
   rw [Zsa,Zsa]
   rcases Ztt i az.length with z | z
   ·rw [List.getElem?_range (by omega),ZrY z]
    show some (nv (az.getD (0+(i:Int)).toNat 0))=_
    rw [show (0+(i:Int)).toNat=i by omega,Zsc,ZrY z]
    rfl
   ·rw [Zsu z,Zsu (by rw [ZsG];omega)]
    rfl
  have k10:=k9.same n10.same
  have Ib:=hL.same n10.same
  have qL:∀ {x:Nat},x<m+1+es.length->fJ (az.map nv) (x:Int)=some (.int (az.getD x 0:Nat)):=fun {x} h=>vD (by omega)
  walk_at "gs"
  refine .inl ⟨_,.inl (.of k10.lst),?_⟩
  rw [Zr0,Zsb,ZrX,jm]
  refine ⟨⟨by omega,by omega,by omega,by omega⟩,?_⟩
  rw [show (((m+1+es.length:Nat):Int) - ((m:Int)+1)).toNat=es.length by omega]
  refine nQ (fun i σ H'=>H'=H10/\∃ v11 v12:Option V,σ=[some (.ref p),some (.int c0),some (.int s),some (.int m),some (.int la),some (.ref pp),some (.ref f),some (.ref kn),some (.int st),some (.ref x),some (.ref mk),v11,v12,none,none]) ⟨rfl,_,_,rfl⟩ ?_ ?_
  ·rintro i σ H11 hi ⟨eH,v11,v12,rfl⟩
   subst eH
   rw [show (m:Int)+1+(i:Int)=((m+1+i:Nat):Int) by omega]
   obtain ⟨e,he⟩:∃ e,cx[i]? = some e:=⟨_,ZrY (by omega)⟩
   have sP:(ar es)[i]? = some e.2:=by rw [<- e2,Zsa,he];rfl
   obtain ⟨o1,o2,o3,o4⟩:=ok _ _ sP
   obtain ⟨y,hy⟩:=ZtM (by omega:0<=e.2.1 / 2)
   obtain ⟨z,hz⟩:=ZtM (by omega:0<=e.2.2 / 2)
   have jV:=CG k10 he
   have te:=k10.tup e (Zr5 he)
   have fj:aW (dh m (ar es)) (m+1+i)=[y,z]:=by
    rw [pJ sP,hy,hz,ZtL,ZtL]
   obtain ⟨C,hC⟩:∃ C,eZ[i]? = some C:=⟨_,ZrY (by omega)⟩
   have Lb:=hL.sh i C hC
   obtain ⟨c,hc,Oz⟩:=Lb.top
   have Oz:az.getD c 0+1=az.getD (m+1+i) 0:=Oz
   have my:az.getD y 0<=az.getD (m+1+i) 0:=Lb.mono y (by rw [fj];simp)
   have mz':az.getD z 0<=az.getD (m+1+i) 0:=Lb.mono z (by rw [fj];simp)
   obtain ⟨d,hd,yg⟩:=Lb.low [y,z] s2 fun l hl lk=>by
    rw [fj] at hl
    cases lk with
    | d0 n _=>exact n hl
    | up n _ _=>exact n hl
   have yg:az.getD (m+1+i) 0<=az.getD d 0+1:=yg
   have hdz:d=y\/d=z:=by simpa using hd
   have yl:=mz.lt (m+1+i) y (by rw [fj];simp)
   have zl:=mz.lt (m+1+i) z (by rw [fj];simp)
   walk_at "gs"
   refine ⟨_,_,.inl (.of k10.lst),jV,_,_,.inr (.of te),rfl,⟨by omega,by omega⟩,_,_,.inl (.of zA),by rw [hy];exact qL (by omega),_,_,.inl (.of k10.lst),jV,_,_,.inr (.of te),rfl,⟨by omega,by omega⟩,_,_,.inl (.of zA),by rw [hz];exact qL (by omega),?_⟩
   walk_at "gs"
   obtain ⟨hg,eh,h1,h2⟩:∃ hg:Int,(if ((az.getD z 0:Nat):Int) > (az.getD y 0:Nat) then ((az.getD z 0:Nat):Int) else (az.getD y 0:Nat))=hg/\(hg<=(az.getD (m+1+i) 0:Nat)/\((az.getD (m+1+i) 0:Nat):Int)<=hg+1):=by
    refine ⟨_,rfl,?_⟩
    rcases hdz with e | e <;> rw [e] at yg <;> split <;> omega
   rw [eh]
   refine ⟨_,_,.inl (.of zA),qL (by omega),?_⟩
   try dsimp only
   rw [if_pos h1]
   try dsimp only
   rw [if_neg (fun n=>n h2)]
   refine ⟨_,_,.inl (.of zA),qL (by omega),?_⟩
   try dsimp only
   rw [if_neg (by omega)]
   exact ⟨trivial,_,_,rfl⟩
  rintro σ H11 ⟨eH,v11,v12,rfl⟩
  subst eH
  walk_at "gs"
  refine .inl ⟨_,.inl (.of k10.lst),?_⟩
  rw [Zr0,Zsb,ZrX,jm]
  refine ⟨⟨by omega,by omega,by omega,by omega⟩,?_⟩
  rw [show (((m+1+es.length:Nat):Int) - (st:Int)).toNat=m+1+es.length - st by omega]
  refine nQ (fun i σ H'=>aP H9 H'/\H' mk=some (.lst (az.map nv))/\∃ v11 v12 v13 v14:Option V,σ=[some (.ref p),some (.int c0),some (.int s),some (.int m),some (.int la),some (.ref pp),some (.ref f),some (.ref kn),some (.int st),some (.ref x),some (.ref mk),v11,v12,v13,v14]) ⟨n10.same,zA,_,_,_,_,rfl⟩ ?_ ?_
  ·clear zA k10 Ib v11 v12
   rintro i σ H12 hi ⟨s12,h12,v11,v12,v13,v14,rfl⟩
   obtain ⟨j,hj⟩:∃ j:Nat,(st:Int)+(i:Int)=((m+1+j:Nat):Int):=⟨st+i - m - 1,by omega⟩
   rw [hj]
   obtain ⟨ws,hws⟩:∃ ws,dG[j]? = some ws:=⟨_,ZrY (by omega)⟩
   have wo:lz (aW (dh m (ar es))) (fun x=>az.getD x 0) s (m+1+j) ws:=lR.cW mz.lt (fun x hx=>Sy ok hx (by omega)) (hL.zS j ws hws)
   have fg:MF.Ok m (ar cx):=by rw [e2];exact ok
   have wl:∀ (i:Nat) ws,dG[i]? = some ws->ws.length<=100:=fun i ws h=>by
    have:=(lR.cW mz.lt (fun x hx=>Sy ok hx (by omega)) (hL.zS i ws h)).len
    rw [this]
    split <;> omega
   have cW:∀ {H':Hp}{Q':VK}{E':XK},aP H9 H'->(∀ q us H2,aP H' H2->H' q=none->(∀ u∈us,H' u=none/\u≠q)->bX H2 q us ws->Q' (.ref q) H2)->GJ a K [.ref x,.int ((m+1+j:Nat):Int)] H' Q' E':=fun {H' Q' E'} s' q'=>⟨x,xd,ll,fc,fw,m,_,az,aY,aH,dG,rfl,(hL.same s').at_,kW,xF,fun i w ws hw hs=>⟨wl i ws hs,((hL.same s').way i w ws hw hs).imp fun us h=>h.1⟩,fun i ws' ei dD=>by
    have:i=j:=by omega
    subst this
    rw [hws] at dD
    cases dD
    exact q',fun z=>absurd ⟨by omega,by omega⟩ z⟩
   have good:∀ {H':Hp}{wl:Addr}{us:List Addr}{Q':VK}{E':XK},aP H9 H'->H' mk=some (.lst (az.map nv))->bX H' wl us ws->(∀ H2,aP H' H2->Q' (.bl true) H2)->HB K [.ref wl,.ref kn,.int ((m+1+j:Nat):Int),.int s,.ref mk] H' Q' E':=fun {H' wl us Q' E'} s' hm hw q'=>⟨wl,kn,mk,us,m,m+1+j,s,cx,ws,az,rfl,hw,k9.same s',hm,fg,by omega,by omega,s6,by omega,by rw [e2];exact wo,q'⟩
   walk_at "gs"
   refine ⟨x,xd,_,rfl,(hL.same s12).at_.ins,rfl,cW s12 fun q us H13 s13 fq fu hW=>?_⟩
   walk_at "gs"
   refine good (s12.trans s13) (s13 _ _ h12) hW fun H14 s14=>?_
   walk_at "gs"
   have mZ:=hW.same s14
   have KS:∀ w∈ws,w.length<=1000:=fun w hw=>by
    have:=(wo.ok w hw).len mz.lt
    omega
   refine ⟨⟨_,.of mZ.lst⟩,rD (xs:=us.map V.ref) (fun i σ H'=>aP H12 H'/\H' q=some (.lst (us.map V.ref))/\(∀ u∈us,∃ l:List V,H' u=some (.lst l)/\l.length<=1000+i)/\∃ v14:Option V,σ=[some (.ref p),some (.int c0),some (.int s),some (.int m),some (.int la),some (.ref pp),some (.ref f),some (.ref kn),some (.int st),some (.ref x),some (.ref mk),some (.int ((m+1+j:Nat):Int)),v12,some (.ref q),v14]) ⟨s13.trans s14,mZ.lst,fun u hu=>?_,_,rfl⟩ ?_ ?_ ?_⟩
   ·obtain ⟨i,hi⟩:=Zsr.mp hu
    have Fe:=(Zr1.mp hi).1
    rw [mZ.len] at Fe
    have hw:=ZrY Fe
    refine ⟨_,mZ.at_ i u _ hi hw,?_⟩
    rw [ZrX]
    exact KS _ (Zr5 hw)
   ·rintro i σ H' _ ⟨_,h,_⟩
    exact .of h
   ·rintro i v σ H15 hv ⟨s15,hq,hu,v14,rfl⟩
    obtain ⟨u,hui,rfl⟩:=xV hv
    have Ir:=Zr5 hui
    have Fe:=(Zr1.mp hui).1
    obtain ⟨l,hl,hll'⟩:=hu u Ir
    have EE:ws.length<=100:=wl j ws hws
    have GQ:=mZ.len
    walk_at "gs"
    refine ⟨.inl ⟨by trivial,_,.of hl⟩,u,_,_,rfl,rfl,hl,by omega,s15.put (fu u Ir).1,by rw [aQ (fu u Ir).2.symm];exact hq,fun y hy=>?_,_,rfl⟩
    by_cases e:y=u
    ·subst e
     exact ⟨_,cz,by rw [Zr0,Zsk];omega⟩
    ·obtain ⟨l',h1,h2⟩:=hu y hy
     exact ⟨l',by rw [aQ e];exact h1,by omega⟩
   rintro σ H15 ⟨s15,hq,hu,v14,rfl⟩
   walk_at "gs"
   have EE:ws.length<=100:=wl j ws hws
   have GQ:=mZ.len
   refine ⟨.inl ⟨by trivial,_,.of hq⟩,by show 0<=sizeLine;omega,fun q2 H16 n16=>⟨q,_,_,rfl,rfl,n16.same _ _ hq,by rw [ZrX];omega,?_⟩⟩
   have xR:aP H12 (upd H16 q (.lst (us.map V.ref ++ [.ref q2]))):=(s15.trans n16.same).put fq
   generalize upd H16 q (.lst (us.map V.ref ++ [.ref q2]))=H17 at xR ⊢
   walk_at "gs"
   refine ⟨x,xd,_,rfl,(hL.same (s12.trans xR)).at_.ins,rfl,cW (s12.trans xR) fun q us H18 s18 fq fu hW=>?_⟩
   refine good ((s12.trans xR).trans s18) (s18 _ _ (xR _ _ h12)) hW fun H19 s19=>?_
   walk_at "gs"
   exact ⟨((s12.trans xR).trans s18).trans s19,s19 _ _ (s18 _ _ (xR _ _ h12)),_,_,_,_,rfl⟩
  rintro σ H12 ⟨s12,h12,v11,v12,v13,v14,rfl⟩
  walk_at "gs"
  exact k _
theorem rV {us:List Value} (h:us.length=1):∃ a,us=[a]:=List.length_eq_one_iff.mp h
theorem rF {us:List Value} (h:us.length=2):∃ a b,us=[a,b]:=by
 obtain _ | ⟨a,t⟩:=us
 ·cases h
 ·obtain ⟨b,rfl⟩:=rV (Nat.succ.inj h)
  exact ⟨a,b,rfl⟩
theorem sZ {us:List Value} (h:us.length=3):∃ a b c,us=[a,b,c]:=by
 obtain _ | ⟨a,t⟩:=us
 ·cases h
 ·obtain ⟨b,c,rfl⟩:=rF (Nat.succ.inj h)
  exact ⟨a,b,c,rfl⟩
theorem rW {us:List Value} (h:us.length=4):∃ a b c d,us=[a,b,c,d]:=by
 obtain _ | ⟨a,t⟩:=us
 ·cases h
 ·obtain ⟨b,c,d,rfl⟩:=sZ (Nat.succ.inj h)
  exact ⟨a,b,c,d,rfl⟩
theorem sV {us:List Value} (h:us.length=5):∃ a b c d e,us=[a,b,c,d,e]:=by
 obtain _ | ⟨a,t⟩:=us
 ·cases h
 ·obtain ⟨b,c,d,e,rfl⟩:=rW (Nat.succ.inj h)
  exact ⟨a,b,c,d,e,rfl⟩
theorem BB {us:List Value} (h:us.length=6):∃ a b c d e f,us=[a,b,c,d,e,f]:=by
 obtain _ | ⟨a,t⟩:=us
 ·cases h
 ·obtain ⟨b,c,d,e,f,rfl⟩:=sV (Nat.succ.inj h)
  exact ⟨a,b,c,d,e,f,rfl⟩
local macro_rules | `(tactic| walk_at "b1")=>`(tactic| exact fun _ _ _ _ _ _ us hl=>by obtain ⟨_,e⟩:=rV hl;subst e;rfl)
local macro_rules | `(tactic| walk_at "b2")=>`(tactic| exact fun _ _ _ _ _ _ us hl=>by obtain ⟨_,_,e⟩:=rF hl;subst e;rfl)
local macro_rules | `(tactic| walk_at "b3")=>`(tactic| exact fun _ _ _ _ _ _ us hl=>by obtain ⟨_,_,_,e⟩:=sZ hl;subst e;rfl)
local macro_rules | `(tactic| walk_at "b4")=>`(tactic| exact fun _ _ _ _ _ _ us hl=>by obtain ⟨_,_,_,_,e⟩:=rW hl;subst e;rfl)
local macro_rules | `(tactic| walk_at "b5")=>`(tactic| exact fun _ _ _ _ _ _ us hl=>by obtain ⟨_,_,_,_,_,e⟩:=sV hl;subst e;rfl)
local macro_rules | `(tactic| walk_at "b6")=>`(tactic| exact fun _ _ _ _ _ _ us hl=>by obtain ⟨_,_,_,_,_,_,e⟩:=BB hl;subst e;rfl)
theorem all_mk {l:ZrK}{w:World}{K:Zrk}{h:Heap}{mg:Str->Option Value}{fa:Addr} (X:K.In h) (G:h.Ns mainGlobals mg) (Y9:mg "law" = some (.ref fa))
  {f0:Addr}{f1:Addr}{f2:Addr}{f3:Addr}{f4:Addr}{f5:Addr}{f6:Addr}{f7:Addr}{f8:Addr}{f9:Addr}{SO:Addr}{RF:Addr}{R6:Addr}{Qc:Addr}{QX:Addr}{Ry:Addr}{R3:Addr}{O5:Addr}{Pm:Addr}{OC:Addr}{Rt:Addr}{RH:Addr}{Rn:Addr}{NR:Addr}{Qp:Addr}{O3:Addr}{RO:Addr}{Q6:Addr}{QL:Addr}{Pf:Addr}{OI:Addr}{S5:Addr}{SA:Addr}{Q9:Addr}{Oa:Addr}{Qw:Addr}{Tb:Addr}{S3:Addr}{Nq:Addr}{Sd:Addr}{Qs:Addr}{f41:Addr}{bN:Addr}{cT:Addr}{dM:Addr}{dJ:Addr}{dH:Addr}{fh:Addr}{mH:Tok}{gC:Tok}{ji:Tok}{o8:Tok}
  (iD:CP K "Labels" bN)
  (lh:CP K "Fold" cT)
  (aC_NoGoal:Zrm K mainGlobals "NoGoal" = some (some (.ref dM)))
  (aC_NoKnot:Zrm K mainGlobals "NoKnot" = some (some (.ref dJ)))
  (aC_NoSize:Zrm K mainGlobals "NoSize" = some (some (.ref dH)))
  (aC_NoTie:Zrm K mainGlobals "NoTie" = some (some (.ref fh)))
  (x0:FP K "is_whole" FE f0)
  (x1:FP K "is_between" Di f1)
  (x2:FP K "reached" zk f2)
  (x3:FP K "cone" Bc f3)
  (x4:FP K "head" FJ f4)
  (x5:FP K "foot" Fd f5)
  (x6:FP K "need_goals" EW f6)
  (x7:FP K "next_ends" zC f7)
  (x8:FP K "search" BH f8)
  (x9:FP K "lead" DH f9)
  (x10:FP K "way_from" EA SO)
  (XW:FP K "ways_of" tH RF)
  (x12:FP K "stops_of" zN R6)
  (US:FP K "apart" CT Qc)
  (x14:FP K "need_size" B5 QX)
  (UZ:FP K "maze_of" Cq Ry)
  (SV:FQ K bN "__init__" "Labels.__init__" D8 R3)
  (Xl:FQ K bN "settle" "Labels.settle" sO O5)
  (ZH:FQ K bN "keep" "Labels.keep" ET Pm)
  (Yr:FQ K bN "need_and_knot" "Labels.need_and_knot" DX OC)
  (Wo:FQ K bN "label" "Labels.label" DV Rt)
  (Wj:FQ K bN "ways" "Labels.ways" yY RH)
  (x22:FP K "turned" F0 Rn)
  (QC:FQ K cT "__init__" "Fold.__init__" D3 NR)
  (Y5:FQ K cT "total" "Fold.total" Em Qp)
  (x25:FQ K cT "has_tie" "Fold.has_tie" Fm O3)
  (Wr:FQ K cT "pair" "Fold.pair" Dq RO)
  (x27:FQ K cT "both" "Fold.both" Fj Q6)
  (WO:FQ K cT "and_knot" "Fold.and_knot" C1 QL)
  (VC:FP K "_law_cell_at" Bg Pf)
  (x30:FP K "_law_pairs" Bk OI)
  (Z2:FP K "_law_put" Cb S5)
  (x32:FP K "_law_mixed" Bw SA)
  (Y8:FP K "_law_digit_pairs" DP Q9)
  (Y6:FP K "_law_fold" vR Oa)
  (W3:FP K "_law_long" zH Qw)
  (x36:FP K "_law_cone" Cv Tb)
  (Z5:FP K "_law_whole" FW S3)
  (Xj:FP K "_law_feeds" BO Nq)
  (ZW:FP K "_law_good_way" FA Sd)
  (Vn:FP K "_law_good_ways" Ei Qs)
  (OV:FP K "law" zZ f41)
  (xi_NoGoal:Zrs K dM [.type "ValueError",.type "Exception",.type "BaseException",.type "object"] "ValueError.__new__" = true)
  (xq_NoGoal:rA K dM=true)
  (kv_NoGoal:Zrp K (.ref dM) (.type "ValueError")=some true)
  (xi_NoKnot:Zrs K dJ [.type "ValueError",.type "Exception",.type "BaseException",.type "object"] "ValueError.__new__" = true)
  (xq_NoKnot:rA K dJ=true)
  (kv_NoKnot:Zrp K (.ref dJ) (.type "ValueError")=some true)
  (xi_NoSize:Zrs K dH [.type "ValueError",.type "Exception",.type "BaseException",.type "object"] "ValueError.__new__" = true)
  (xq_NoSize:rA K dH=true)
  (kv_NoSize:Zrp K (.ref dH) (.type "ValueError")=some true)
  (xi_NoTie:Zrs K fh [.type "ValueError",.type "Exception",.type "BaseException",.type "object"] "ValueError.__new__" = true)
  (xq_NoTie:rA K fh=true)
  (kv_NoTie:Zrp K (.ref fh) (.type "ValueError")=some true)
  (xk_NoGoal:Zrw K dM "BaseException" = true)
  (xk_NoKnot:Zrw K dJ "BaseException" = true)
  (xk_NoSize:Zrw K dH "BaseException" = true)
  (xk_NoTie:Zrw K fh "BaseException" = true)
  (n_Labels_levels:Zrl K (.ref bN) "levels" = some none)
  (n_Labels_found_cuts:Zrl K (.ref bN) "found_cuts" = some none)
  (n_Labels_found_ways:Zrl K (.ref bN) "found_ways" = some none)
  (n_Fold_many:Zrl K (.ref cT) "many" = some none)
  (n_Fold_pairs:Zrl K (.ref cT) "pairs" = some none)
  (n_Fold_knots:Zrl K (.ref cT) "knots" = some none)
  (g_ALWAYS:Zrm K mainGlobals "ALWAYS" = some (some (.int 1 mH)))
  (g_GREATEST_SIZE:Zrm K mainGlobals "GREATEST_SIZE" = some (some (.int 6 gC)))
  (g_LEAST_SIZE:Zrm K mainGlobals "LEAST_SIZE" = some (some (.int 2 ji)))
  (g_NEVER:Zrm K mainGlobals "NEVER" = some (some (.int 0 o8)))
  (z_bool:Zrm K mainGlobals "bool" = some none)
  (z_int:Zrm K mainGlobals "int" = some none)
  (z_isinstance:Zrm K mainGlobals "isinstance" = some none)
  (z_len:Zrm K mainGlobals "len" = some none)
  (z_list:Zrm K mainGlobals "list" = some none)
  (z_max:Zrm K mainGlobals "max" = some none)
  (z_min:Zrm K mainGlobals "min" = some none)
  (z_range:Zrm K mainGlobals "range" = some none)
  (z_sorted:Zrm K mainGlobals "sorted" = some none) :
  ∃ fd:FuncData,(∀ (s:Shared) (v:Value),BindsTo s fd ⟨[v],[]⟩ [("_law_script",v)])/\∀ base:Heap,K.In base->base.Ns mainGlobals mg->aK l.prog w K mg base dQ 8 fa fd ["_law_script"] (iF K):=by
 have e:=Y9.symm.trans (Zrn X G OV.choose_spec.1)
 cases e
 have T:Txt K mg ⟨f0,_,f1,_,f2,_,f3,_,f4,_,f5,_,f6,_,f7,_,f8,_,f9,_,SO,_,RF,_,R6,_,Qc,_,QX,_,Ry,_,R3,_,O5,_,Pm,_,OC,_,Rt,_,RH,_,Rn,_,NR,_,Qp,_,O3,_,RO,_,Q6,_,QL,_,Pf,_,OI,_,S5,_,SA,_,Q9,_,Oa,_,Qw,_,Tb,_,S3,_,Nq,_,Sd,_,Qs,_,_,_,bN,cT,dM,dJ,dH,fh⟩:=⟨x0.ft X G (by walk_at "b1"),x1.ft X G (by walk_at "b3"),x2.ft X G (by walk_at "b3"),x3.ft X G (by walk_at "b2"),x4.ft X G (by walk_at "b1"),x5.ft X G (by walk_at "b1"),x6.ft X G (by walk_at "b2"),x7.ft X G (by walk_at "b3"),x8.ft X G (by walk_at "b3"),x9.ft X G (by walk_at "b3"),x10.ft X G (by walk_at "b2"),XW.ft X G (by walk_at "b2"),x12.ft X G (by walk_at "b1"),US.ft X G (by walk_at "b3"),x14.ft X G (by walk_at "b1"),UZ.ft X G (by walk_at "b1"),SV.fm (by walk_at "b3"),Xl.fm (by walk_at "b4"),ZH.fm (by walk_at "b5"),Yr.fm (by walk_at "b2"),Wo.fm (by walk_at "b2"),Wj.fm (by walk_at "b2"),x22.ft X G (by walk_at "b1"),QC.fm (by walk_at "b2"),Y5.fm (by walk_at "b1"),x25.fm (by walk_at "b2"),Wr.fm (by walk_at "b2"),x27.fm (by walk_at "b3"),WO.fm (by walk_at "b2"),VC.ft X G (by walk_at "b2"),x30.ft X G (by walk_at "b2"),Z2.ft X G (by walk_at "b4"),x32.ft X G (by walk_at "b3"),Y8.ft X G (by walk_at "b3"),Y6.ft X G (by walk_at "b2"),W3.ft X G (by walk_at "b2"),x36.ft X G (by walk_at "b2"),Z5.ft X G (by walk_at "b1"),Xj.ft X G (by walk_at "b3"),ZW.ft X G (by walk_at "b6"),Vn.ft X G (by walk_at "b5"),OV.ft X G (by walk_at "b1"),Zrn X G iD.a,iD.cl,iD.SI SV,n_Labels_levels,n_Labels_found_cuts,n_Labels_found_ways,Zrn X G lh.a,lh.cl,lh.SI QC,n_Fold_many,n_Fold_pairs,n_Fold_knots,Zrn X G aC_NoGoal,Zrn X G aC_NoKnot,Zrn X G aC_NoSize,Zrn X G aC_NoTie,xi_NoGoal,xq_NoGoal,kv_NoGoal,xi_NoKnot,xq_NoKnot,kv_NoKnot,xi_NoSize,xq_NoSize,kv_NoSize,xi_NoTie,xq_NoTie,kv_NoTie,xk_NoGoal,xk_NoKnot,xk_NoSize,xk_NoTie,⟨_,Zrn X G g_ALWAYS,⟨_,rfl⟩⟩,⟨_,Zrn X G g_GREATEST_SIZE,⟨_,rfl⟩⟩,⟨_,Zrn X G g_LEAST_SIZE,⟨_,rfl⟩⟩,⟨_,Zrn X G g_NEVER,⟨_,rfl⟩⟩,Zrt X G z_bool,Zrt X G z_int,Zrt X G z_isinstance,Zrt X G z_len,Zrt X G z_list,Zrt X G z_max,Zrt X G z_min,Zrt X G z_range,Zrt X G z_sorted⟩
 exact ⟨_,T.sJ.n.uD fun _ _ _ _ _ _ _=>rfl,fun base _ _=>uN T⟩
theorem walk {l:ZrK}{q:Program}{loose:List Str}{XP:(Str->Option Value)->Heap->Prop}{YP:World->Heap->Prop}{d:DefRec}{K:Params->Zrk} (hn:l.most=some 63) (Er:d.params.defaults=[])
  (hY:∀ (w:World) (h:Heap),YP w h->(K w.params).In h)
  (F:∀ (w:World) (mg:Str->Option Value) (fa:Addr) (h:Heap),(K w.params).In h->h.Ns mainGlobals mg->mg d.name=some (.ref fa) ->
   ∃ fd:FuncData,(∀ (s:Shared) (u:Value),BindsTo s fd ⟨[u],[]⟩ [("_law_script",u)])/\∀ base:Heap,(K w.params).In base->base.Ns mainGlobals mg->aK l.prog w (K w.params) mg base dQ 8 fa fd ["_law_script"] (iF (K w.params))) :
  PySem.W.WalkO q loose XP YP l.row.toRowW d [] (fun f vs=>PySem.call f vs) :=
 L2.S6 (n:=63) (k:=8) (x:="_law_script") (CX:=fun _=>dQ) (sp:=fun w=>iF (K w.params)) hn (by decide) Er ⟨rfl,by decide,by decide⟩ hY F (fun _ _ a ns hl _ hS=>⟨a,ns,rfl,hS,hl,fun _=>rfl⟩) fun _ _ _ _ _ z=>z
end xS
lay_quick PySem.Challenge.pw_gatefold_k31_ways_show_it
namespace OT
open PySem PySem.W PySem.Spec PyProof.Rows L2
noncomputable section
noncomputable abbrev PM:=Params
noncomputable abbrev OB:=Obj
noncomputable abbrev TP:Program:=PySem.W.Fast.tw2856265532524961814
noncomputable def tT (i:Nat):Stmt:=TP.main.body.getD i (.Pass ⟨0,0,0,0⟩)
noncomputable abbrev vs (s:Str) (t:Nat):Value:=.str s t
noncomputable abbrev vr (a:Nat):Value:=.ref a
noncomputable abbrev vi (a:Int) (t:Nat):Value:=.int a t
noncomputable abbrev vn:Value:=.none
noncomputable abbrev df (a:Array Value):Data:=.fields a
noncomputable abbrev dq (a:Array Value) (n:Nat):Data:=.seq a n
noncomputable abbrev dd (a:Array DictEntry) (n:Nat):Data:=.dict a n
noncomputable abbrev de (P:Params) (s:Str) (t:Nat) (v:Value):DictEntry:=.mk (PyData.keyHash P s) (.str s t) v
noncomputable abbrev ob (t:String) (d:Data) (sl:Array (Option Value)):Obj:=⟨.type t,none,d,sl⟩
noncomputable abbrev nd:=BT.node
noncomputable abbrev nl:=BT.nil
noncomputable abbrev Zl (P:PM):BT:=BT.nil
noncomputable abbrev N (f:PM->OB) (a b:PM->BT) (P:PM):BT:=BT.node (f P) (a P) (b P)
noncomputable abbrev M (f:PM->OB) (a:PM->BT) (P:PM):BT:=BT.node (f P) (a P) BT.nil
noncomputable abbrev L (f:PM->OB) (P:PM):BT:=BT.node (f P) BT.nil BT.nil
noncomputable abbrev bF:Value:=.bool false
noncomputable abbrev bT:Value:=.bool true
noncomputable abbrev vb (y:String):Value:=.builtin y
noncomputable abbrev vt (y:String):Value:=.type y
noncomputable abbrev sr (a:Nat):Option Value:=some (.ref a)
noncomputable abbrev ss (s:Str) (t:Nat):Option Value:=some (.str s t)
noncomputable abbrev z0:Value:=.int 0 0
noncomputable abbrev of (y:String) (l:List Value):Obj:=⟨.type y,none,.fields ⟨l⟩,⟨[]⟩⟩
noncomputable abbrev oq (y:String) (l:List Value) (n:Nat):Obj:=⟨.type y,none,.seq ⟨l⟩ n,⟨[]⟩⟩
noncomputable abbrev od (y:String) (l:List DictEntry) (n:Nat):Obj:=⟨.type y,none,.dict ⟨l⟩ n,⟨[]⟩⟩
noncomputable abbrev y0:String:=PySem.W.SL.s2766695959194262286x5
noncomputable abbrev y1:String:=PySem.W.SL.s5856160107412720595x4
noncomputable abbrev oC (a b c:Str) (n l k f v x:Nat):Obj:=of y1 [vs a n,vs b (n+1),vs c (n+2),vi l 0,vi k 0,z0,z0,vi f 0,vr v,bT,vi x 0,vr (v+1),vn,vn,vn,vr (v+2),vi (n+3) 0,vi l 0,vs c (n+4)]
noncomputable abbrev y2:String:=PySem.W.SL.s658472552662922059x5
noncomputable abbrev y3:String:=PySem.W.SL.s14018661285674007319x4
noncomputable abbrev y4:String:=PySem.W.SL.s7097527257260152453x26
noncomputable abbrev y5:String:=PySem.W.SL.s6070975301684473832x10
noncomputable abbrev y6:String:=PySem.W.SL.s11030030927630378310x26
noncomputable abbrev y7:String:=PySem.W.SL.s10062305145149207511x16
noncomputable abbrev y8:String:=PySem.W.SL.s17162191345867700912x4
noncomputable abbrev y9:String:=PySem.W.SL.s5946037652744460706x9
noncomputable abbrev qU:String:=PySem.W.SL.s4278001404047624695x13
noncomputable abbrev mL:String:=PySem.W.SL.s2742458400755230247x6
noncomputable abbrev qf:String:=PySem.W.SL.s4209523147560561109x18
noncomputable abbrev Be:String:=PySem.W.SL.s14755015743595814543x17
noncomputable abbrev Kw:String:=PySem.W.SL.s10220274742760427390x26
noncomputable abbrev yE:String:=PySem.W.SL.s4290257624100764138x5
noncomputable abbrev wd:String:=PySem.W.SL.s4860613602091757760x24
noncomputable abbrev y17:String:=PySem.W.SL.s7174869446012820540x8
noncomputable abbrev R4:String:=PySem.W.SL.s11443829558043349243x14
noncomputable abbrev RJ:String:=PySem.W.SL.s6511155373996960695x17
noncomputable abbrev OS:String:=PySem.W.SL.s12411053484034534018x21
noncomputable abbrev b0 (P:PM):OB:=PySem.W.boot_o_0 P
noncomputable abbrev b1 (P:PM):OB:=PySem.W.boot_o_1 P
noncomputable abbrev b2 (P:PM):OB:=PySem.W.boot_o_2 P
noncomputable abbrev b3 (P:PM):OB:=PySem.W.boot_o_3 P
noncomputable abbrev b4 (P:PM):OB:=PySem.W.boot_o_4 P
noncomputable abbrev b5 (P:PM):OB:=PySem.W.boot_o_5 P
noncomputable abbrev b6 (P:PM):OB:=PySem.W.boot_o_6 P
noncomputable abbrev b7 (P:PM):OB:=PySem.W.boot_o_7 P
noncomputable abbrev b8 (P:PM):OB:=PySem.W.boot_o_8 P
noncomputable abbrev b9 (P:PM):OB:=PySem.W.boot_o_9 P
noncomputable abbrev LS (P:PM):OB:=PySem.W.boot_o_10 P
noncomputable abbrev j0 (a b:Str) (s:Stmt):OB:=⟨vn,none,.func (.mk a b (nV s) (.stmts (kL s)) (bx s) 0 [] vn vn vn vn none vn vn 0),⟨[]⟩⟩
noncomputable abbrev j1 (a b:Str) (s:Stmt) (q:Str) (t n:Nat):OB:=⟨(vt y17),none,.func (.mk a b (nV s) (.stmts (kL s)) (bx s) 3 [] vn vn vn (vs q t) none (vr n) vn 0),⟨[]⟩⟩
noncomputable abbrev q0:Str:=⟨⟨[115,101,108,102]⟩⟩
noncomputable abbrev q1:Str:=⟨⟨[111,110,101]⟩⟩
noncomputable abbrev q2:Str:=⟨⟨[111,116,104,101,114]⟩⟩
noncomputable abbrev q3:Str:=⟨⟨[102,105,114,115,116]⟩⟩
noncomputable abbrev q4:Str:=⟨⟨[115,101,99,111,110,100]⟩⟩
noncomputable abbrev q5:Str:=⟨⟨[97,98,111,118,101]⟩⟩
noncomputable abbrev q6:Str:=⟨⟨[115,112,114,105,110,103]⟩⟩
noncomputable abbrev q7:Str:=⟨⟨[119,97,121]⟩⟩
noncomputable abbrev q8:Str:=⟨⟨[95,95,109,97,105,110,95,95]⟩⟩
noncomputable abbrev q9:Str:=⟨⟨[109,97,122,101]⟩⟩
noncomputable abbrev Io:Str:=⟨⟨[103,111,97,108,115]⟩⟩
noncomputable abbrev Wk:Str:=⟨⟨[109,111,115,116]⟩⟩
noncomputable abbrev VL:Str:=⟨⟨[110,117,109,98,101,114]⟩⟩
noncomputable abbrev Vr:Str:=⟨⟨[102,111,117,110,100]⟩⟩
noncomputable abbrev Ad:Str:=⟨⟨[95,95,119,101,97,107,114,101,102,95,95]⟩⟩
noncomputable abbrev Fl:Str:=⟨⟨[95,108,97,119,95,107,110,111,116,115]⟩⟩
noncomputable abbrev Lg:Str:=⟨⟨[95,108,97,119,95,107,110,111,116]⟩⟩
noncomputable abbrev YH:Str:=⟨⟨[95,108,97,119,95,99,111,110,101,95,111,102]⟩⟩
noncomputable abbrev NU:Str:=⟨⟨[95,108,97,119,95,97,116]⟩⟩
noncomputable abbrev yN:Str:=⟨⟨[95,108,97,119,95,119,104,111,108,101]⟩⟩
noncomputable abbrev Ub:Str:=⟨⟨[95,108,97,119,95,102,111,117,110,100]⟩⟩
noncomputable abbrev fZ:Str:=⟨⟨[108,97,119,95,103,97,116,101,102,111,108,100,95,107,51,49,95,119,97,121,115,95,115,104,111,119,95,105,116]⟩⟩
noncomputable abbrev EB:Str:=⟨⟨[108,97,98,101,108]⟩⟩
noncomputable abbrev IZ:Str:=⟨⟨[76,97,98,101,108,115,46,108,97,98,101,108]⟩⟩
noncomputable abbrev rJ:Str:=⟨⟨[107,110,111,116]⟩⟩
noncomputable abbrev q29:Str:=⟨⟨[108,101,118,101,108,115]⟩⟩
noncomputable abbrev rl:Str:=⟨⟨[78,111,75,110,111,116]⟩⟩
noncomputable abbrev jd:Str:=⟨⟨[103,97,116,101,102,111,108,100,46,108,97,98,101,108,115]⟩⟩
noncomputable abbrev tO:Str:=⟨⟨[95,108,97,119,95,103,111,111,100,95,119,97,121]⟩⟩
noncomputable abbrev q34:Str:=⟨⟨[95,108,97,119,95,119,97,121]⟩⟩
noncomputable abbrev RN:Str:=⟨⟨[95,108,97,119,95,109,97,114,107,115]⟩⟩
noncomputable abbrev NW:Str:=⟨⟨[95,108,97,119,95,115,101,101,110]⟩⟩
noncomputable abbrev SW:Str:=⟨⟨[95,108,97,119,95,104,117,110,103]⟩⟩
noncomputable abbrev Af:Str:=⟨⟨[95,108,97,119,95,107]⟩⟩
noncomputable abbrev uX:Str:=⟨⟨[95,108,97,119,95,102,101,101,100,115]⟩⟩
noncomputable abbrev JM:Str:=⟨⟨[95,108,97,119,95,104,105,103,104]⟩⟩
noncomputable abbrev Og:Str:=⟨⟨[103,111,97,108]⟩⟩
noncomputable abbrev pO:Str:=⟨⟨[95,95,105,110,105,116,95,95]⟩⟩
noncomputable abbrev Jg:Str:=⟨⟨[70,111,108,100,46,95,95,105,110,105,116,95,95]⟩⟩
noncomputable abbrev Qf:Str:=⟨⟨[109,97,110,121]⟩⟩
noncomputable abbrev T5:Str:=⟨⟨[112,97,105,114,115]⟩⟩
noncomputable abbrev Xf:Str:=⟨⟨[107,110,111,116,115]⟩⟩
noncomputable abbrev j9:Str:=⟨⟨[103,97,116,101,102,111,108,100,46,102,111,108,100,115]⟩⟩
noncomputable abbrev iw:Str:=⟨⟨[70,111,108,100,69,114,114,111,114]⟩⟩
noncomputable abbrev xG:Str:=⟨⟨[95,108,97,119,95,112,117,116]⟩⟩
noncomputable abbrev XH:Str:=⟨⟨[95,108,97,119,95,102,111,108,100,95,104,101,114,101]⟩⟩
noncomputable abbrev Ob:Str:=⟨⟨[95,108,97,119,95,108,101,102,116]⟩⟩
noncomputable abbrev SJ:Str:=⟨⟨[95,108,97,119,95,114,105,103,104,116]⟩⟩
noncomputable abbrev Sm:Str:=⟨⟨[95,108,97,119,95,108,111,119]⟩⟩
noncomputable abbrev Yl:Str:=⟨⟨[95,108,97,119,95,116,105,101]⟩⟩
noncomputable abbrev As:Str:=⟨⟨[98,111,116,104]⟩⟩
noncomputable abbrev pv:Str:=⟨⟨[95,95,110,97,109,101,95,95]⟩⟩
noncomputable abbrev si:Str:=⟨⟨[95,95,100,111,99,95,95]⟩⟩
noncomputable abbrev VI:Str:=⟨⟨[95,95,112,97,99,107,97,103,101,95,95]⟩⟩
noncomputable abbrev q65:Str:=⟨⟨[95,95,108,111,97,100,101,114,95,95]⟩⟩
noncomputable abbrev q66:Str:=⟨⟨[95,95,115,112,101,99,95,95]⟩⟩
noncomputable abbrev q67:Str:=⟨⟨[95,95,97,110,110,111,116,97,116,105,111,110,115,95,95]⟩⟩
noncomputable abbrev q68:Str:=⟨⟨[95,95,98,117,105,108,116,105,110,115,95,95]⟩⟩
noncomputable abbrev q69:Str:=⟨⟨[95,95,102,105,108,101,95,95]⟩⟩
noncomputable abbrev aZ:Str:=⟨⟨[47,99,108,97,105,109,47,99,117,116,46,112,121]⟩⟩
noncomputable abbrev T6:Str:=⟨⟨[95,95,99,97,99,104,101,100,95,95]⟩⟩
noncomputable abbrev r9:Str:=⟨⟨[78,111,84,105,101]⟩⟩
noncomputable abbrev sF:Str:=⟨⟨[78,111,71,111,97,108]⟩⟩
noncomputable abbrev rm:Str:=⟨⟨[78,111,83,105,122,101]⟩⟩
noncomputable abbrev we:Str:=⟨⟨[105,115,95,119,104,111,108,101]⟩⟩
noncomputable abbrev xM:Str:=⟨⟨[105,115,95,98,101,116,119,101,101,110]⟩⟩
noncomputable abbrev ue:Str:=⟨⟨[114,101,97,99,104,101,100]⟩⟩
noncomputable abbrev vC:Str:=⟨⟨[99,111,110,101]⟩⟩
noncomputable abbrev tD:Str:=⟨⟨[104,101,97,100]⟩⟩
noncomputable abbrev ym:Str:=⟨⟨[102,111,111,116]⟩⟩
noncomputable abbrev xP:Str:=⟨⟨[110,101,101,100,95,103,111,97,108,115]⟩⟩
noncomputable abbrev uC:Str:=⟨⟨[110,101,120,116,95,101,110,100,115]⟩⟩
noncomputable abbrev vB:Str:=⟨⟨[115,101,97,114,99,104]⟩⟩
noncomputable abbrev wN:Str:=⟨⟨[108,101,97,100]⟩⟩
noncomputable abbrev uW:Str:=⟨⟨[119,97,121,95,102,114,111,109]⟩⟩
noncomputable abbrev tK:Str:=⟨⟨[119,97,121,115,95,111,102]⟩⟩
noncomputable abbrev ya:Str:=⟨⟨[115,116,111,112,115,95,111,102]⟩⟩
noncomputable abbrev xC:Str:=⟨⟨[97,112,97,114,116]⟩⟩
noncomputable abbrev Yp:Str:=⟨⟨[76,69,65,83,84,95,83,73,90,69]⟩⟩
noncomputable abbrev q90:Str:=⟨⟨[71,82,69,65,84,69,83,84,95,83,73,90,69]⟩⟩
noncomputable abbrev yz:Str:=⟨⟨[110,101,101,100,95,115,105,122,101]⟩⟩
noncomputable abbrev uS:Str:=⟨⟨[109,97,122,101,95,111,102]⟩⟩
noncomputable abbrev rR:Str:=⟨⟨[76,97,98,101,108,115]⟩⟩
noncomputable abbrev q94:Str:=⟨⟨[78,69,86,69,82]⟩⟩
noncomputable abbrev XA:Str:=⟨⟨[65,76,87,65,89,83]⟩⟩
noncomputable abbrev yL:Str:=⟨⟨[116,117,114,110,101,100]⟩⟩
noncomputable abbrev wx:Str:=⟨⟨[95,108,97,119,95,109,105,120,101,100]⟩⟩
noncomputable abbrev QV:Str:=⟨⟨[95,108,97,119,95,115,99,114,105,112,116]⟩⟩
noncomputable abbrev XO:Str:=⟨⟨[95,108,97,119,95,115,116,97,114,116]⟩⟩
noncomputable abbrev DA:Str:=⟨⟨[95,108,97,119,95,99,111,117,110,116]⟩⟩
noncomputable abbrev Jz:Str:=⟨⟨[95,108,97,119,95,109,97,100,101]⟩⟩
noncomputable abbrev FH:Str:=⟨⟨[95,108,97,119,95,99,101,108,108]⟩⟩
noncomputable abbrev uT:Str:=⟨⟨[95,108,97,119,95,99,101,108,108,95,97,116]⟩⟩
noncomputable abbrev jq:Str:=⟨⟨[103,97,116,101,102,111,108,100,46,109,97,122,101,115]⟩⟩
noncomputable abbrev o6:Str:=⟨⟨[104,97,115,95,116,105,101]⟩⟩
noncomputable abbrev vW:Str:=⟨⟨[70,111,108,100,46,104,97,115,95,116,105,101]⟩⟩
noncomputable abbrev Bs:Str:=⟨⟨[116,105,101]⟩⟩
noncomputable abbrev oo:Str:=⟨⟨[116,111,116,97,108]⟩⟩
noncomputable abbrev yV:Str:=⟨⟨[108,97,119]⟩⟩
noncomputable abbrev EY:Str:=⟨⟨[99,97,109,101]⟩⟩
noncomputable abbrev Jn:Str:=⟨⟨[108,111,119,101,114]⟩⟩
noncomputable abbrev JI:Str:=⟨⟨[119,97,105,116,105,110,103]⟩⟩
noncomputable abbrev AK:Str:=⟨⟨[101,110,100]⟩⟩
noncomputable abbrev rf:Str:=⟨⟨[112,108,97,99,101]⟩⟩
noncomputable abbrev JE:Str:=⟨⟨[97,104,101,97,100]⟩⟩
noncomputable abbrev BR:Str:=⟨⟨[116,104,105,110,103]⟩⟩
noncomputable abbrev lQ:Str:=⟨⟨[95,95,109,111,100,117,108,101,95,95]⟩⟩
noncomputable abbrev lM:Str:=⟨⟨[95,95,102,105,114,115,116,108,105,110,101,110,111,95,95]⟩⟩
noncomputable abbrev oh:Str:=⟨⟨[115,101,116,116,108,101]⟩⟩
noncomputable abbrev nZ:Str:=⟨⟨[107,101,101,112]⟩⟩
noncomputable abbrev px:Str:=⟨⟨[110,101,101,100,95,97,110,100,95,107,110,111,116]⟩⟩
noncomputable abbrev mW:Str:=⟨⟨[99,117,116]⟩⟩
noncomputable abbrev mI:Str:=⟨⟨[119,97,121,115]⟩⟩
noncomputable abbrev mm:Str:=⟨⟨[95,95,115,116,97,116,105,99,95,97,116,116,114,105,98,117,116,101,115,95,95]⟩⟩
noncomputable abbrev qY:Str:=⟨⟨[95,95,100,105,99,116,95,95]⟩⟩
noncomputable abbrev j5:Str:=⟨⟨[103,97,116,101,102,111,108,100,46,101,114,114,111,114,115]⟩⟩
noncomputable abbrev CI:Str:=⟨⟨[95,108,97,119,95,109,97,110,121]⟩⟩
noncomputable abbrev Na:Str:=⟨⟨[95,108,97,119,95,109,111,115,116]⟩⟩
noncomputable abbrev B1:Str:=⟨⟨[95,108,97,119,95,112,97,105,114,115,95,104,101,114,101]⟩⟩
noncomputable abbrev Fv:Str:=⟨⟨[95,108,97,119,95,115,105,122,101]⟩⟩
noncomputable abbrev ub:Str:=⟨⟨[76,97,98,101,108,115,46,119,97,121,115]⟩⟩
noncomputable abbrev JQ:Str:=⟨⟨[102,111,117,110,100,95,119,97,121,115]⟩⟩
noncomputable abbrev wX:Str:=⟨⟨[70,111,108,100,46,116,111,116,97,108]⟩⟩
noncomputable abbrev tw:Str:=⟨⟨[76,97,98,101,108,115,46,107,101,101,112]⟩⟩
noncomputable abbrev Jr:Str:=⟨⟨[95,108,97,119,95,119,97,121,115]⟩⟩
noncomputable abbrev yq:Str:=⟨⟨[95,108,97,119,95,102,111,108,100]⟩⟩
noncomputable abbrev sE:Str:=⟨⟨[70,111,108,100]⟩⟩
noncomputable abbrev Km:Str:=⟨⟨[102,111,117,110,100,95,99,117,116,115]⟩⟩
noncomputable abbrev oM:Str:=⟨⟨[97,110,100,95,107,110,111,116]⟩⟩
noncomputable abbrev ve:Str:=⟨⟨[70,111,108,100,46,97,110,100,95,107,110,111,116]⟩⟩
noncomputable abbrev uK:Str:=⟨⟨[95,108,97,119,95,100,105,103,105,116,95,112,97,105,114,115]⟩⟩
noncomputable abbrev vO:Str:=⟨⟨[95,108,97,119,95,112,97,105,114,115]⟩⟩
noncomputable abbrev uf:Str:=⟨⟨[95,108,97,119,95,108,111,110,103]⟩⟩
noncomputable abbrev vK:Str:=⟨⟨[95,108,97,119,95,103,111,111,100,95,119,97,121,115]⟩⟩
noncomputable abbrev Mc:Str:=⟨⟨[116,105,101,115]⟩⟩
noncomputable abbrev vf:Str:=⟨⟨[95,95,113,117,97,108,110,97,109,101,95,95]⟩⟩
noncomputable abbrev BM:Str:=⟨⟨[115,105,122,101]⟩⟩
noncomputable abbrev mF:Str:=⟨⟨[112,97,105,114]⟩⟩
noncomputable abbrev Mr:Str:=⟨⟨[108,101,97,115,116]⟩⟩
noncomputable abbrev Jm:Str:=⟨⟨[103,114,101,97,116,101,115,116]⟩⟩
noncomputable abbrev yy:Str:=⟨⟨[76,97,98,101,108,115,46,99,117,116]⟩⟩
noncomputable abbrev tQ:Str:=⟨⟨[76,97,98,101,108,115,46,95,95,105,110,105,116,95,95]⟩⟩
noncomputable abbrev vk:Str:=⟨⟨[102,111,108,100]⟩⟩
noncomputable abbrev wV:Str:=⟨⟨[70,111,108,100,46,112,97,105,114]⟩⟩
noncomputable abbrev qk:Str:=⟨⟨[103,97,116,101,102,111,108,100,46,99,111,110,101,115]⟩⟩
noncomputable abbrev JF:Str:=⟨⟨[108,101,118,101,108]⟩⟩
noncomputable abbrev Kv:Str:=⟨⟨[117,112,112,101,114]⟩⟩
noncomputable abbrev uZ:Str:=⟨⟨[76,97,98,101,108,115,46,110,101,101,100,95,97,110,100,95,107,110,111,116]⟩⟩
noncomputable abbrev wu:Str:=⟨⟨[70,111,108,100,46,98,111,116,104]⟩⟩
noncomputable abbrev Ip:Str:=⟨⟨[95,108,97,119,95,99,101,108,108,115]⟩⟩
noncomputable abbrev Mw:Str:=⟨⟨[95,108,97,119,95,116,111,112]⟩⟩
noncomputable abbrev Ld:Str:=⟨⟨[95,108,97,119,95,114,101,115,116]⟩⟩
noncomputable abbrev uk:Str:=⟨⟨[95,108,97,119,95,99,111,110,101]⟩⟩
noncomputable abbrev yd:Str:=⟨⟨[76,97,98,101,108,115,46,115,101,116,116,108,101]⟩⟩
noncomputable abbrev qD:Str:=⟨⟨[103,97,116,101,102,111,108,100,46,119,104,111,108,101,115]⟩⟩
noncomputable abbrev Ed:Str:=⟨⟨[60,109,111,100,117,108,101,62]⟩⟩
noncomputable def au (P:PM):=oq y0 [] 0
noncomputable abbrev e:=L au
noncomputable def aU (P:PM):OB:=(Obj.mk vn none (df ⟨[]⟩) ⟨[]⟩)
noncomputable def Ks (P:PM):=of y1 [vs Ed 182,vs Ed 183,vs aZ 184,vi 1 0,z0,z0,z0,z0,vr 11,bF,vi 181 0,vr 12,vn,vn,vn,vn,vi 185 0,vi 1 0,vs aZ 186]
noncomputable def IF (P:PM):=(ob y2 Data.plain ⟨[(sr 13),(sr 3),(sr 3),none,(ss q8 164),none,(sr 0)]⟩)
noncomputable abbrev w0 (P:PM):List DictEntry:=[de P si 166 vn,de P VI 167 vn,de P q65 168 (vb y4),de P q66 169 vn,de P q67 170 (vr 6),de P q68 171 (vr 4),de P q69 173 (vs aZ 172),de P T6 174 vn,de P iw 206 (vr 24)]
noncomputable def Zz (P:PM):=od y3 ([de P pv 165 (vs j5 187)]++w0 P) 10
noncomputable def W7 (P:PM):OB:=(Obj.mk vn none (df ⟨[vi 2 0,z0,vr 20]⟩) ⟨[]⟩)
noncomputable def Qr (P:PM):=oq y0 [(vt y5)] 0
noncomputable def mi (P:PM):=of y6 [(vb y7),(vt y8)]
noncomputable def QS (P:PM):=od y3 [de P lQ 196 (vs j5 187),de P vf 198 (vs iw 197),de P lM 200 (vi 2 199),de P mm 201 (vr 22)] 4
noncomputable def S7 (P:PM):=of y1 [vs iw 191,vs iw 192,vs aZ 193,vi 2 0,z0,z0,z0,z0,vr 18,bF,vi 181 0,vr 19,vn,vn,vn,vn,vi 194 0,vi 2 0,vs aZ 195]
noncomputable def RW (P:PM):=(ob y2 Data.plain ⟨[(sr 20),(sr 3),(sr 17),none,(ss j5 187),none,(sr 0)]⟩)
noncomputable def Jh (P:PM):=od y3 [de P lQ 196 (vs j5 187),de P lM 200 (vi 2 199),de P mm 201 (vr 22),de P Ad 203 (vr 25),de P si 204 vn] 3
noncomputable def o60 (P:PM):=(ob y8 (Data.cls (ClassData.mk iw [(vt y5)] [vr 24,(vt y5),(vt y9),(vt qU),(vt mL)] 23 iw true [] [] false none false)) ⟨[(sr 15),none,(ss iw 189),(ss iw 197),(some (vb qf)),(some bT)]⟩)
noncomputable def P8 (P:PM):=of Be [vs Ad 202,vr 24,(vb Kw),vn]
noncomputable def S4 (P:PM):=of yE [vr 24,vr 24,vr 24]
noncomputable def Pg (P:PM):=of y6 [(vb wd),vr 24]
noncomputable abbrev w1 (P:PM):List DictEntry:=w0 P++[de P r9 222 (vr 37)]
noncomputable def o64 (P:PM):=od y3 ([de P pv 165 (vs j5 187)]++w1 P) 11
noncomputable def o65 (P:PM):OB:=(Obj.mk vn none (df ⟨[vi 2 0,z0,vr 20,vi 4 0,z0,vr 33]⟩) ⟨[]⟩)
noncomputable def Yh (P:PM):=(ob y8 (Data.cls (ClassData.mk iw [(vt y5)] [vr 24,(vt y5),(vt y9),(vt qU),(vt mL)] 23 iw true [] [vr 37] false none false)) ⟨[(sr 15),none,(ss iw 189),(ss iw 197),(some (vb qf)),(some bT)]⟩)
noncomputable def sN (P:PM):=oq y0 [vr 24] 0
noncomputable def NT (P:PM):=od y3 [de P lQ 214 (vs j5 187),de P vf 216 (vs r9 215),de P lM 218 (vi 4 217),de P mm 219 (vr 35)] 4
noncomputable def Q7 (P:PM):=of y1 [vs r9 209,vs r9 210,vs aZ 211,vi 4 0,z0,z0,z0,z0,vr 31,bF,vi 181 0,vr 32,vn,vn,vn,vn,vi 212 0,vi 4 0,vs aZ 213]
noncomputable def OJ (P:PM):=(ob y2 Data.plain ⟨[(sr 33),(sr 3),(sr 30),none,(ss j5 187),none,(sr 0)]⟩)
noncomputable def II (P:PM):=od y3 [de P lQ 214 (vs j5 187),de P lM 218 (vi 4 217),de P mm 219 (vr 35),de P si 220 vn] 2
noncomputable def K2 (P:PM):=(ob y8 (Data.cls (ClassData.mk r9 [vr 24] [vr 37,vr 24,(vt y5),(vt y9),(vt qU),(vt mL)] 36 r9 true [] [] false none false)) ⟨[(sr 28),none,(ss r9 207),(ss r9 215),(some (vb qf)),(some bT)]⟩)
noncomputable def OL (P:PM):=of yE [vr 37,vr 37,vr 37]
noncomputable def OX (P:PM):=of y6 [(vb wd),vr 37]
noncomputable abbrev w2 (P:PM):List DictEntry:=w1 P++[de P rl 238 (vr 49)]
noncomputable def Um (P:PM):=od y3 ([de P pv 165 (vs j5 187)]++w2 P) 12
noncomputable abbrev Si (P:PM):List Value:=[vi 2 0,z0,vr 20,vi 4 0,z0,vr 33,vi 6 0,z0,vr 45]
noncomputable def Uq (P:PM):OB:=(Obj.mk vn none (df ⟨(Si P)⟩) ⟨[]⟩)
noncomputable def Ym (P:PM):=(ob y8 (Data.cls (ClassData.mk iw [(vt y5)] [vr 24,(vt y5),(vt y9),(vt qU),(vt mL)] 23 iw true [] [vr 37,vr 49] false none false)) ⟨[(sr 15),none,(ss iw 189),(ss iw 197),(some (vb qf)),(some bT)]⟩)
noncomputable def Ss (P:PM):=od y3 [de P lQ 230 (vs j5 187),de P vf 232 (vs rl 231),de P lM 234 (vi 6 233),de P mm 235 (vr 47)] 4
noncomputable def Rg (P:PM):=of y1 [vs rl 225,vs rl 226,vs aZ 227,vi 6 0,z0,z0,z0,z0,vr 43,bF,vi 181 0,vr 44,vn,vn,vn,vn,vi 228 0,vi 6 0,vs aZ 229]
noncomputable def QG (P:PM):=(ob y2 Data.plain ⟨[(sr 45),(sr 3),(sr 42),none,(ss j5 187),none,(sr 0)]⟩)
noncomputable def IP (P:PM):=od y3 [de P lQ 230 (vs j5 187),de P lM 234 (vi 6 233),de P mm 235 (vr 47),de P si 236 vn] 2
noncomputable def Ke (P:PM):=(ob y8 (Data.cls (ClassData.mk rl [vr 24] [vr 49,vr 24,(vt y5),(vt y9),(vt qU),(vt mL)] 48 rl true [] [] false none false)) ⟨[(sr 40),none,(ss rl 223),(ss rl 231),(some (vb qf)),(some bT)]⟩)
noncomputable def N3 (P:PM):=of yE [vr 49,vr 49,vr 49]
noncomputable def SF (P:PM):=of y6 [(vb wd),vr 49]
noncomputable abbrev w3 (P:PM):List DictEntry:=w2 P++[de P sF 254 (vr 61)]
noncomputable def ZP (P:PM):=od y3 ([de P pv 165 (vs j5 187)]++w3 P) 13
noncomputable abbrev Py (P:PM):List Value:=Si P++[vi 8 0,z0,vr 57]
noncomputable def o95 (P:PM):OB:=(Obj.mk vn none (df ⟨(Py P)⟩) ⟨[]⟩)
noncomputable def o96 (P:PM):=(ob y8 (Data.cls (ClassData.mk iw [(vt y5)] [vr 24,(vt y5),(vt y9),(vt qU),(vt mL)] 23 iw true [] [vr 37,vr 49,vr 61] false none false)) ⟨[(sr 15),none,(ss iw 189),(ss iw 197),(some (vb qf)),(some bT)]⟩)
noncomputable def Pq (P:PM):=od y3 [de P lQ 246 (vs j5 187),de P vf 248 (vs sF 247),de P lM 250 (vi 8 249),de P mm 251 (vr 59)] 4
noncomputable def DC (P:PM):=of y1 [vs sF 241,vs sF 242,vs aZ 243,vi 8 0,z0,z0,z0,z0,vr 55,bF,vi 181 0,vr 56,vn,vn,vn,vn,vi 244 0,vi 8 0,vs aZ 245]
noncomputable def Cu (P:PM):=(ob y2 Data.plain ⟨[(sr 57),(sr 3),(sr 54),none,(ss j5 187),none,(sr 0)]⟩)
noncomputable def yC (P:PM):=od y3 [de P lQ 246 (vs j5 187),de P lM 250 (vi 8 249),de P mm 251 (vr 59),de P si 252 vn] 2
noncomputable def tS (P:PM):=(ob y8 (Data.cls (ClassData.mk sF [vr 24] [vr 61,vr 24,(vt y5),(vt y9),(vt qU),(vt mL)] 60 sF true [] [] false none false)) ⟨[(sr 52),none,(ss sF 239),(ss sF 247),(some (vb qf)),(some bT)]⟩)
noncomputable def CW (P:PM):=of yE [vr 61,vr 61,vr 61]
noncomputable def AQ (P:PM):=of y6 [(vb wd),vr 61]
noncomputable abbrev w4 (P:PM):List DictEntry:=w3 P++[de P rm 270 (vr 73),de P we 279 (vr 82),de P xM 288 (vr 89),de P ue 296 (vr 94),de P vC 304 (vr 101),de P tD 313 (vr 108)]
noncomputable def JP (P:PM):=od y3 ([de P pv 165 (vs jq 305)]++w4 P) 19
noncomputable abbrev O7 (P:PM):List Value:=Py P++[vi 10 0,z0,vr 69,vi 13 0,z0,vr 81,vi 15 0,z0,vr 88,vi 18 0,z0,vr 93,vi 27 0,z0,vr 100,vi 32 0,z0,vr 107]
noncomputable def Me (P:PM):OB:=(Obj.mk vn none (df ⟨(O7 P)⟩) ⟨[]⟩)
noncomputable def vw (P:PM):=(ob y8 (Data.cls (ClassData.mk iw [(vt y5)] [vr 24,(vt y5),(vt y9),(vt qU),(vt mL)] 23 iw true [] [vr 37,vr 49,vr 61,vr 73] false none false)) ⟨[(sr 15),none,(ss iw 189),(ss iw 197),(some (vb qf)),(some bT)]⟩)
noncomputable def Fc (P:PM):=od y3 [de P lQ 262 (vs j5 187),de P vf 264 (vs rm 263),de P lM 266 (vi 10 265),de P mm 267 (vr 71)] 4
noncomputable def Bf (P:PM):=of y1 [vs rm 257,vs rm 258,vs aZ 259,vi 10 0,z0,z0,z0,z0,vr 67,bF,vi 181 0,vr 68,vn,vn,vn,vn,vi 260 0,vi 10 0,vs aZ 261]
noncomputable def C9 (P:PM):=(ob y2 Data.plain ⟨[(sr 69),(sr 3),(sr 66),none,(ss j5 187),none,(sr 0)]⟩)
noncomputable def uL (P:PM):=od y3 [de P lQ 262 (vs j5 187),de P lM 266 (vi 10 265),de P mm 267 (vr 71),de P si 268 vn] 2
noncomputable def vZ (P:PM):=(ob y8 (Data.cls (ClassData.mk rm [vr 24] [vr 73,vr 24,(vt y5),(vt y9),(vt qU),(vt mL)] 72 rm true [] [] false none false)) ⟨[(sr 64),none,(ss rm 255),(ss rm 263),(some (vb qf)),(some bT)]⟩)
noncomputable def C5 (P:PM):=of yE [vr 73,vr 73,vr 73]
noncomputable def Dd (P:PM):=of y6 [(vb wd),vr 73]
noncomputable def Dt (P:PM):=oq y0 [vs BR 276] 0
noncomputable def CN (P:PM):=j0 we we (tT 7)
noncomputable def uE (P:PM):=of y1 [vs we 273,vs we 274,vs aZ 275,vi 13 0,vi 1 0,z0,z0,vi 3 0,vr 76,bT,vi 181 0,vr 77,vn,vr 78,vr 79,vr 80,vi 277 0,vi 13 0,vs aZ 278]
noncomputable def DJ (P:PM):=j1 we we (tT 7) qD 271 81
noncomputable def FG (P:PM):=oq y0 [vs BR 283,vs Mr 284,vs Jm 285] 0
noncomputable def CL (P:PM):=j0 xM xM (tT 8)
noncomputable def vF (P:PM):=of y1 [vs xM 280,vs xM 281,vs aZ 282,vi 15 0,vi 3 0,z0,z0,vi 3 0,vr 83,bT,vi 181 0,vr 84,vn,vr 85,vr 86,vr 87,vi 286 0,vi 15 0,vs aZ 287]
noncomputable def BA (P:PM):=j1 xM xM (tT 8) qD 271 88
noncomputable def Bm (P:PM):=j0 ue ue (tT 10)
noncomputable def wD (P:PM):=oC ue ue aZ 291 18 3 3 90 181
noncomputable def BQ (P:PM):=j1 ue ue (tT 10) qk 289 93
noncomputable def BI (P:PM):=oq y0 [vs vk 300,vs rJ 301] 0
noncomputable def Br (P:PM):=j0 vC vC (tT 11)
noncomputable def vc (P:PM):=of y1 [vs vC 297,vs vC 298,vs aZ 299,vi 27 0,vi 2 0,z0,z0,vi 3 0,vr 95,bT,vi 181 0,vr 96,vn,vr 97,vr 98,vr 99,vi 302 0,vi 27 0,vs aZ 303]
noncomputable def CC (P:PM):=j1 vC vC (tT 11) qk 289 100
noncomputable def Cy (P:PM):=oq y0 [vs rf 310] 0
noncomputable def Dr (P:PM):=j0 tD tD (tT 13)
noncomputable def yQ (P:PM):=of y1 [vs tD 307,vs tD 308,vs aZ 309,vi 32 0,vi 1 0,z0,z0,vi 3 0,vr 102,bT,vi 181 0,vr 103,vn,vr 104,vr 105,vr 106,vi 311 0,vi 32 0,vs aZ 312]
noncomputable def FN (P:PM):=j1 tD tD (tT 13) jq 305 107
noncomputable abbrev w5 (P:PM):List DictEntry:=w4 P++[de P ym 320 (vr 115),de P xP 329 (vr 122),de P uC 335 (vr 127),de P vB 351 (vr 134),de P wN 363 (vr 141),de P uW 372 (vr 148),de P tK 378 (vr 153),de P ya 384 (vr 158),de P xC 396 (vr 165),de P Yp 400 (vi 2 399),de P q90 402 (vi 6 401),de P yz 409 (vr 172),de P uS 419 (vr 179)]
noncomputable def JL (P:PM):=od y3 ([de P pv 165 (vs jd 397)]++w5 P) 32
noncomputable abbrev S2 (P:PM):List Value:=O7 P++[vi 34 0,z0,vr 114,vi 36 0,z0,vr 121,vi 40 0,z0,vr 126,vi 47 0,z0,vr 133,vi 63 0,z0,vr 140,vi 76 0,z0,vr 147,vi 81 0,z0,vr 152,vi 84 0,z0,vr 157,vi 86 0,z0,vr 164,vi 98 0,z0,vr 171,vi 101 0,z0,vr 178]
noncomputable def Ki (P:PM):OB:=(Obj.mk vn none (df ⟨(S2 P)⟩) ⟨[]⟩)
noncomputable def EU (P:PM):=oq y0 [vs rf 317] 0
noncomputable def Bo (P:PM):=j0 ym ym (tT 14)
noncomputable def yB (P:PM):=of y1 [vs ym 314,vs ym 315,vs aZ 316,vi 34 0,vi 1 0,z0,z0,vi 3 0,vr 109,bT,vi 181 0,vr 110,vn,vr 111,vr 112,vr 113,vi 318 0,vi 34 0,vs aZ 319]
noncomputable def BV (P:PM):=j1 ym ym (tT 14) jq 305 114
noncomputable def B8 (P:PM):=oq y0 [vs q9 324,vs Io 325,vs Og 326] 0
noncomputable def Fg (P:PM):=j0 xP xP (tT 15)
noncomputable def yh (P:PM):=of y1 [vs xP 321,vs xP 322,vs aZ 323,vi 36 0,vi 2 0,z0,z0,vi 3 0,vr 116,bT,vi 181 0,vr 117,vn,vr 118,vr 119,vr 120,vi 327 0,vi 36 0,vs aZ 328]
noncomputable def Dl (P:PM):=j1 xP xP (tT 15) jq 305 121
noncomputable def DS (P:PM):=j0 uC uC (tT 16)
noncomputable def uq (P:PM):=oC uC uC aZ 330 40 3 3 123 181
noncomputable def FF (P:PM):=j1 uC uC (tT 16) jq 305 126
noncomputable def Cz (P:PM):=oq y0 [vs q9 339,vs Io 340,vs q5 341,vs EY 342,vs Og 343,vs Jn 344,vs JI 345,vs AK 346,vs rf 347,vs JE 348] 0
noncomputable def BP (P:PM):=j0 vB vB (tT 17)
noncomputable def xZ (P:PM):=of y1 [vs vB 336,vs vB 337,vs aZ 338,vi 47 0,vi 3 0,z0,z0,vi 3 0,vr 128,bT,vi 181 0,vr 129,vn,vr 130,vr 131,vr 132,vi 349 0,vi 47 0,vs aZ 350]
noncomputable def CS (P:PM):=j1 vB vB (tT 17) jq 305 133
noncomputable def BW (P:PM):=oq y0 [vs q5 355,vs EY 356,vs q6 357,vs AK 358,vs rf 359,vs Kv 360] 0
noncomputable def AY (P:PM):=j0 wN wN (tT 18)
noncomputable def yr (P:PM):=of y1 [vs wN 352,vs wN 353,vs aZ 354,vi 63 0,vi 3 0,z0,z0,vi 3 0,vr 135,bT,vi 181 0,vr 136,vn,vr 137,vr 138,vr 139,vi 361 0,vi 63 0,vs aZ 362]
noncomputable def BD (P:PM):=j1 wN wN (tT 18) jq 305 140
noncomputable def AJ (P:PM):=oq y0 [vs q5 367,vs q6 368,vs q7 369] 0
noncomputable def FX (P:PM):=j0 uW uW (tT 19)
noncomputable def xA (P:PM):=of y1 [vs uW 364,vs uW 365,vs aZ 366,vi 76 0,vi 2 0,z0,z0,vi 3 0,vr 142,bT,vi 181 0,vr 143,vn,vr 144,vr 145,vr 146,vi 370 0,vi 76 0,vs aZ 371]
noncomputable def B2 (P:PM):=j1 uW uW (tT 19) jq 305 147
noncomputable def AR (P:PM):=j0 tK tK (tT 20)
noncomputable def vy (P:PM):=oC tK tK aZ 373 81 2 3 149 181
noncomputable def FL (P:PM):=j1 tK tK (tT 20) jq 305 152
noncomputable def Bu (P:PM):=j0 ya ya (tT 21)
noncomputable def yt (P:PM):=oC ya ya aZ 379 84 1 3 154 181
noncomputable def Dx (P:PM):=j1 ya ya (tT 21) jq 305 157
noncomputable def Cp (P:PM):=oq y0 [vs q9 388,vs Io 389,vs Wk 390,vs q5 391,vs VL 392,vs Vr 393] 0
noncomputable def BS (P:PM):=j0 xC xC (tT 22)
noncomputable def xQ (P:PM):=of y1 [vs xC 385,vs xC 386,vs aZ 387,vi 86 0,vi 3 0,z0,z0,vi 3 0,vr 159,bT,vi 181 0,vr 160,vn,vr 161,vr 162,vr 163,vi 394 0,vi 86 0,vs aZ 395]
noncomputable def FD (P:PM):=j1 xC xC (tT 22) jq 305 164
noncomputable def AG (P:PM):=oq y0 [vs BM 406] 0
noncomputable def F8 (P:PM):=j0 yz yz (tT 26)
noncomputable def vE (P:PM):=of y1 [vs yz 403,vs yz 404,vs aZ 405,vi 98 0,vi 1 0,z0,z0,vi 3 0,vr 166,bT,vi 181 0,vr 167,vn,vr 168,vr 169,vr 170,vi 407 0,vi 98 0,vs aZ 408]
noncomputable def AD (P:PM):=j1 yz yz (tT 26) jd 397 171
noncomputable def Du (P:PM):=oq y0 [vs vk 413,vs q9 414,vs rJ 415,vs mF 416] 0
noncomputable def CY (P:PM):=j0 uS uS (tT 27)
noncomputable def yD (P:PM):=of y1 [vs uS 410,vs uS 411,vs aZ 412,vi 101 0,vi 1 0,z0,z0,vi 3 0,vr 173,bT,vi 181 0,vr 174,vn,vr 175,vr 176,vr 177,vi 417 0,vi 101 0,vs aZ 418]
noncomputable def F5 (P:PM):=j1 uS uS (tT 27) jd 397 178
noncomputable abbrev w6 (P:PM):List DictEntry:=w5 P++[de P rR 500 (vr 234)]
noncomputable def Le (P:PM):=od y3 ([de P pv 165 (vs jd 397)]++w6 P) 33
noncomputable abbrev NP (P:PM):List Value:=S2 P++[vi 107 0,z0,vr 185]
noncomputable def J2 (P:PM):OB:=(Obj.mk vn none (df ⟨(NP P)⟩) ⟨[]⟩)
noncomputable abbrev w7 (P:PM):List DictEntry:=[de P vf 429 (vs rR 428),de P lM 431 (vi 107 430),de P pO 442 (vr 193),de P oh 448 (vr 198),de P nZ 459 (vr 205),de P px 467 (vr 212),de P EB 475 (vr 219),de P mW 483 (vr 226),de P mI 489 (vr 231),de P mm 493 (vr 232)]
noncomputable def Ck (P:PM):=od y3 ([de P lQ 427 (vs jd 397)]++w7 P) 11
noncomputable abbrev Zy (P:PM):List Value:=[vi 109 0,vi 4 0,vr 192,vi 118 0,vi 4 0,vr 197,vi 133 0,vi 4 0,vr 204,vi 138 0,vi 4 0,vr 211,vi 142 0,vi 4 0,vr 218,vi 147 0,vi 4 0,vr 225,vi 151 0,vi 4 0,vr 230]
noncomputable def Cg (P:PM):OB:=(Obj.mk vn none (df ⟨(Zy P)⟩) ⟨[]⟩)
noncomputable def CV (P:PM):=of y1 [vs rR 422,vs rR 423,vs aZ 424,vi 107 0,z0,z0,z0,z0,vr 183,bF,vi 181 0,vr 184,vn,vn,vn,vn,vi 425 0,vi 107 0,vs aZ 426]
noncomputable def Ao (P:PM):=(ob y2 Data.plain ⟨[(sr 185),(sr 3),(sr 182),none,(ss jd 397),none,(sr 0)]⟩)
noncomputable def AM (P:PM):=oq y0 [vs q0 435,vs vk 436,vs BM 437,vs q9 438,vs rJ 439] 0
noncomputable def Ey (P:PM):=j0 pO tQ (eg (tT 28) 0)
noncomputable def vA (P:PM):=of y1 [vs pO 432,vs tQ 433,vs aZ 434,vi 109 0,vi 3 0,z0,z0,vi 3 0,vr 187,bT,vi 181 0,vr 188,vn,vr 189,vr 190,vr 191,vi 440 0,vi 109 0,vs aZ 441]
noncomputable def FC (P:PM):=j1 pO tQ (eg (tT 28) 0) jd 397 192
noncomputable def CK (P:PM):=j0 oh yd (eg (tT 28) 1)
noncomputable def wY (P:PM):=oC oh yd aZ 443 118 4 3 194 181
noncomputable def Av (P:PM):=j1 oh yd (eg (tT 28) 1) jd 397 197
noncomputable def EJ (P:PM):=oq y0 [vs q0 452,vs rJ 453,vs JF 454,vs mW 455,vs mI 456] 0
noncomputable def Ay (P:PM):=j0 nZ tw (eg (tT 28) 2)
noncomputable def xN (P:PM):=of y1 [vs nZ 449,vs tw 450,vs aZ 451,vi 133 0,vi 5 0,z0,z0,vi 3 0,vr 199,bT,vi 181 0,vr 200,vn,vr 201,vr 202,vr 203,vi 457 0,vi 133 0,vs aZ 458]
noncomputable def C0 (P:PM):=j1 nZ tw (eg (tT 28) 2) jd 397 204
noncomputable def Cc (P:PM):=oq y0 [vs q0 463,vs rJ 464] 0
noncomputable def EK (P:PM):=j0 px uZ (eg (tT 28) 3)
noncomputable def wH (P:PM):=of y1 [vs px 460,vs uZ 461,vs aZ 462,vi 138 0,vi 2 0,z0,z0,vi 3 0,vr 206,bT,vi 181 0,vr 207,vn,vr 208,vr 209,vr 210,vi 465 0,vi 138 0,vs aZ 466]
noncomputable def Ap (P:PM):=j1 px uZ (eg (tT 28) 3) jd 397 211
noncomputable def EZ (P:PM):=oq y0 [vs q0 471,vs rJ 472] 0
noncomputable def AL (P:PM):=j0 EB IZ (eg (tT 28) 4)
noncomputable def xK (P:PM):=of y1 [vs EB 468,vs IZ 469,vs aZ 470,vi 142 0,vi 2 0,z0,z0,vi 3 0,vr 213,bT,vi 181 0,vr 214,vn,vr 215,vr 216,vr 217,vi 473 0,vi 142 0,vs aZ 474]
noncomputable def Eo (P:PM):=j1 EB IZ (eg (tT 28) 4) jd 397 218
noncomputable def DN (P:PM):=oq y0 [vs q0 479,vs rJ 480] 0
noncomputable def AV (P:PM):=j0 mW yy (eg (tT 28) 5)
noncomputable def E1 (P:PM):=of y1 [vs mW 476,vs yy 477,vs aZ 478,vi 147 0,vi 2 0,z0,z0,vi 3 0,vr 220,bT,vi 181 0,vr 221,vn,vr 222,vr 223,vr 224,vi 481 0,vi 147 0,vs aZ 482]
noncomputable def Cd (P:PM):=j1 mW yy (eg (tT 28) 5) jd 397 225
noncomputable def Cj (P:PM):=j0 mI ub (eg (tT 28) 6)
noncomputable def vL (P:PM):=oC mI ub aZ 484 151 2 3 227 181
noncomputable def D1 (P:PM):=j1 mI ub (eg (tT 28) 6) jd 397 230
noncomputable def F6 (P:PM):=oq y0 [vs Km 490,vs JQ 491,vs q29 492] 0
noncomputable abbrev w8 (P:PM):List DictEntry:=[de P lM 431 (vi 107 430),de P pO 442 (vr 193),de P oh 448 (vr 198),de P nZ 459 (vr 205),de P px 467 (vr 212),de P EB 475 (vr 219),de P mW 483 (vr 226),de P mI 489 (vr 231),de P mm 493 (vr 232),de P qY 495 (vr 235),de P Ad 497 (vr 236),de P si 498 vn]
noncomputable def yo (P:PM):=od y3 ([de P lQ 427 (vs jd 397)]++w8 P) 4
noncomputable def vG (P:PM):=(ob y8 (Data.cls (ClassData.mk rR [(vt mL)] [vr 234,(vt mL)] 233 rR true [] [] false none false)) ⟨[none,none,(ss rR 420),(ss rR 428),(some (vb R4)),(some bT)]⟩)
noncomputable def EO (P:PM):=of Be [vs qY 494,vr 234,(vb RJ),(vb OS)]
noncomputable def CD (P:PM):=of Be [vs Ad 496,vr 234,(vb Kw),vn]
noncomputable def Dw (P:PM):=of yE [vr 234,vr 234,vr 234]
noncomputable def DQ (P:PM):=of y6 [(vb wd),vr 234]
noncomputable abbrev w9 (P:PM):List DictEntry:=w6 P++[de P q94 504 (vi 0 503),de P XA 506 (vi 1 505),de P yL 513 (vr 245)]
noncomputable def Jd (P:PM):=od y3 ([de P pv 165 (vs j9 501)]++w9 P) 36
noncomputable abbrev Qi (P:PM):List Value:=NP P++[vi 157 0,z0,vr 244]
noncomputable def KO (P:PM):OB:=(Obj.mk vn none (df ⟨(Qi P)⟩) ⟨[]⟩)
noncomputable def Ew (P:PM):=oq y0 [vs Bs 510] 0
noncomputable def D7 (P:PM):=j0 yL yL (tT 32)
noncomputable def tV (P:PM):=of y1 [vs yL 507,vs yL 508,vs aZ 509,vi 157 0,vi 1 0,z0,z0,vi 3 0,vr 239,bT,vi 181 0,vr 240,vn,vr 241,vr 242,vr 243,vi 511 0,vi 157 0,vs aZ 512]
noncomputable def AE (P:PM):=j1 yL yL (tT 32) j9 501 244
noncomputable abbrev O1 (P:PM):List DictEntry:=w9 P++[de P sE 586 (vr 297)]
noncomputable def Kg (P:PM):=od y3 ([de P pv 165 (vs fZ 587)]++O1 P) 37
noncomputable abbrev Po (P:PM):List Value:=Qi P++[vi 159 0,z0,vr 251]
noncomputable def LQ (P:PM):OB:=(Obj.mk vn none (df ⟨(Po P)⟩) ⟨[]⟩)
noncomputable abbrev w11 (P:PM):List DictEntry:=[de P vf 523 (vs sE 522),de P lM 525 (vi 159 524),de P pO 533 (vr 259),de P oo 540 (vr 266),de P o6 548 (vr 273),de P mF 556 (vr 280),de P As 567 (vr 287),de P oM 575 (vr 294),de P mm 579 (vr 295)]
noncomputable def BK (P:PM):=od y3 ([de P lQ 521 (vs j9 501)]++w11 P) 10
noncomputable abbrev TV (P:PM):List Value:=[vi 161 0,vi 4 0,vr 258,vi 166 0,vi 4 0,vr 265,vi 169 0,vi 4 0,vr 272,vi 172 0,vi 4 0,vr 279,vi 179 0,vi 4 0,vr 286,vi 192 0,vi 4 0,vr 293]
noncomputable def EI (P:PM):OB:=(Obj.mk vn none (df ⟨(TV P)⟩) ⟨[]⟩)
noncomputable def Dj (P:PM):=of y1 [vs sE 516,vs sE 517,vs aZ 518,vi 159 0,z0,z0,z0,z0,vr 249,bF,vi 181 0,vr 250,vn,vn,vn,vn,vi 519 0,vi 159 0,vs aZ 520]
noncomputable def Dy (P:PM):=(ob y2 Data.plain ⟨[(sr 251),(sr 3),(sr 248),none,(ss j9 501),none,(sr 0)]⟩)
noncomputable def EM (P:PM):=oq y0 [vs q0 529,vs Qf 530] 0
noncomputable def B6 (P:PM):=j0 pO Jg (eg (tT 33) 0)
noncomputable def yw (P:PM):=of y1 [vs pO 526,vs Jg 527,vs aZ 528,vi 161 0,vi 2 0,z0,z0,vi 3 0,vr 253,bT,vi 181 0,vr 254,vn,vr 255,vr 256,vr 257,vi 531 0,vi 161 0,vs aZ 532]
noncomputable def EC (P:PM):=j1 pO Jg (eg (tT 33) 0) j9 501 258
noncomputable def ED (P:PM):=oq y0 [vs q0 537] 0
noncomputable def FI (P:PM):=j0 oo wX (eg (tT 33) 1)
noncomputable def yO (P:PM):=of y1 [vs oo 534,vs wX 535,vs aZ 536,vi 166 0,vi 1 0,z0,z0,vi 3 0,vr 260,bT,vi 181 0,vr 261,vn,vr 262,vr 263,vr 264,vi 538 0,vi 166 0,vs aZ 539]
noncomputable def Cr (P:PM):=j1 oo wX (eg (tT 33) 1) j9 501 265
noncomputable def DI (P:PM):=oq y0 [vs q0 544,vs Bs 545] 0
noncomputable def Dg (P:PM):=j0 o6 vW (eg (tT 33) 2)
noncomputable def tW (P:PM):=of y1 [vs o6 541,vs vW 542,vs aZ 543,vi 169 0,vi 2 0,z0,z0,vi 3 0,vr 267,bT,vi 181 0,vr 268,vn,vr 269,vr 270,vr 271,vi 546 0,vi 169 0,vs aZ 547]
noncomputable def AI (P:PM):=j1 o6 vW (eg (tT 33) 2) j9 501 272
noncomputable def D6 (P:PM):=oq y0 [vs q0 552,vs rJ 553] 0
noncomputable def Ca (P:PM):=j0 mF wV (eg (tT 33) 3)
noncomputable def uM (P:PM):=of y1 [vs mF 549,vs wV 550,vs aZ 551,vi 172 0,vi 2 0,z0,z0,vi 3 0,vr 274,bT,vi 181 0,vr 275,vn,vr 276,vr 277,vr 278,vi 554 0,vi 172 0,vs aZ 555]
noncomputable def FY (P:PM):=j1 mF wV (eg (tT 33) 3) j9 501 279
noncomputable def AU (P:PM):=oq y0 [vs q0 560,vs q1 561,vs q2 562,vs q3 563,vs q4 564] 0
noncomputable def BL (P:PM):=j0 As wu (eg (tT 33) 4)
noncomputable def uU (P:PM):=of y1 [vs As 557,vs wu 558,vs aZ 559,vi 179 0,vi 3 0,z0,z0,vi 3 0,vr 281,bT,vi 181 0,vr 282,vn,vr 283,vr 284,vr 285,vi 565 0,vi 179 0,vs aZ 566]
noncomputable def BE (P:PM):=j1 As wu (eg (tT 33) 4) j9 501 286
noncomputable def AB (P:PM):=oq y0 [vs q0 571,vs Mc 572] 0
noncomputable def Eb (P:PM):=j0 oM ve (eg (tT 33) 5)
noncomputable def ug (P:PM):=of y1 [vs oM 568,vs ve 569,vs aZ 570,vi 192 0,vi 2 0,z0,z0,vi 3 0,vr 288,bT,vi 181 0,vr 289,vn,vr 290,vr 291,vr 292,vi 573 0,vi 192 0,vs aZ 574]
noncomputable def BC (P:PM):=j1 oM ve (eg (tT 33) 5) j9 501 293
noncomputable def Ef (P:PM):=oq y0 [vs Xf 576,vs Qf 577,vs T5 578] 0
noncomputable abbrev XX (P:PM):List DictEntry:=[de P lM 525 (vi 159 524),de P pO 533 (vr 259),de P oo 540 (vr 266),de P o6 548 (vr 273),de P mF 556 (vr 280),de P As 567 (vr 287),de P oM 575 (vr 294),de P mm 579 (vr 295),de P qY 581 (vr 298),de P Ad 583 (vr 299),de P si 584 vn]
noncomputable def uy (P:PM):=od y3 ([de P lQ 521 (vs j9 501)]++XX P) 4
noncomputable def yb (P:PM):=(ob y8 (Data.cls (ClassData.mk sE [(vt mL)] [vr 297,(vt mL)] 296 sE true [] [] false none false)) ⟨[none,none,(ss sE 514),(ss sE 522),(some (vb R4)),(some bT)]⟩)
noncomputable def AW (P:PM):=of Be [vs qY 580,vr 297,(vb RJ),(vb OS)]
noncomputable def Ez (P:PM):=of Be [vs Ad 582,vr 297,(vb Kw),vn]
noncomputable def Df (P:PM):=of yE [vr 297,vr 297,vr 297]
noncomputable def Bz (P:PM):=of y6 [(vb wd),vr 297]
noncomputable abbrev Ol (P:PM):List DictEntry:=O1 P++[de P uT 596 (vr 308),de P vO 610 (vr 315),de P xG 623 (vr 322),de P wx 635 (vr 329),de P uK 648 (vr 336),de P yq 654 (vr 341),de P uf 660 (vr 346),de P uk 670 (vr 353),de P yN 677 (vr 360),de P uX 686 (vr 367),de P tO 701 (vr 374),de P vK 715 (vr 381)]
noncomputable def Nb (P:PM):=od y3 ([de P pv 165 (vs fZ 587)]++Ol P) 49
noncomputable abbrev NK (P:PM):List Value:=Po P++[vi 198 0,z0,vr 307,vi 202 0,z0,vr 314,vi 220 0,z0,vr 321,vi 234 0,z0,vr 328,vi 240 0,z0,vr 335,vi 249 0,z0,vr 340,vi 258 0,z0,vr 345,vi 275 0,z0,vr 352,vi 282 0,z0,vr 359,vi 284 0,z0,vr 366,vi 286 0,z0,vr 373,vi 300 0,z0,vr 380]
noncomputable def L4 (P:PM):OB:=(Obj.mk vn none (df ⟨(NK P)⟩) ⟨[]⟩)
noncomputable def DU (P:PM):=oq y0 [vs QV 592,vs Af 593] 0
noncomputable def CF (P:PM):=j0 uT uT (tT 35)
noncomputable def uw (P:PM):=of y1 [vs uT 589,vs uT 590,vs aZ 591,vi 198 0,vi 2 0,z0,z0,vi 3 0,vr 302,bT,vi 181 0,vr 303,vn,vr 304,vr 305,vr 306,vi 594 0,vi 198 0,vs aZ 595]
noncomputable def Co (P:PM):=j1 uT uT (tT 35) fZ 587 307
noncomputable def BN (P:PM):=oq y0 [vs CI 600,vs Ip 601,vs B1 602,vs Ob 603,vs SJ 604,vs Af 605,vs Mw 606,vs Ld 607] 0
noncomputable def Bi (P:PM):=j0 vO vO (tT 36)
noncomputable def ua (P:PM):=of y1 [vs vO 597,vs vO 598,vs aZ 599,vi 202 0,vi 2 0,z0,z0,vi 3 0,vr 309,bT,vi 181 0,vr 310,vn,vr 311,vr 312,vr 313,vi 608 0,vi 202 0,vs aZ 609]
noncomputable def F1 (P:PM):=j1 vO vO (tT 36) fZ 587 314
noncomputable def Es (P:PM):=oq y0 [vs XH 614,vs Fl 615,vs Ob 616,vs SJ 617,vs Sm 618,vs JM 619,vs Yl 620] 0
noncomputable def Ci (P:PM):=j0 xG xG (tT 37)
noncomputable def vm (P:PM):=of y1 [vs xG 611,vs xG 612,vs aZ 613,vi 220 0,vi 4 0,z0,z0,vi 3 0,vr 316,bT,vi 181 0,vr 317,vn,vr 318,vr 319,vr 320,vi 621 0,vi 220 0,vs aZ 622]
noncomputable def C4 (P:PM):=j1 xG xG (tT 37) fZ 587 321
noncomputable def DG (P:PM):=oq y0 [vs QV 627,vs XO 628,vs DA 629,vs Jz 630,vs Af 631,vs FH 632] 0
noncomputable def F7 (P:PM):=j0 wx wx (tT 38)
noncomputable def xJ (P:PM):=of y1 [vs wx 624,vs wx 625,vs aZ 626,vi 234 0,vi 3 0,z0,z0,vi 3 0,vr 323,bT,vi 181 0,vr 324,vn,vr 325,vr 326,vr 327,vi 633 0,vi 234 0,vs aZ 634]
noncomputable def Fb (P:PM):=j1 wx wx (tT 38) fZ 587 328
noncomputable def FR (P:PM):=oq y0 [vs CI 639,vs FH 640,vs Na 641,vs B1 642,vs DA 643,vs Af 644,vs Fv 645] 0
noncomputable def Ep (P:PM):=j0 uK uK (tT 39)
noncomputable def t9 (P:PM):=of y1 [vs uK 636,vs uK 637,vs aZ 638,vi 240 0,vi 3 0,z0,z0,vi 3 0,vr 330,bT,vi 181 0,vr 331,vn,vr 332,vr 333,vr 334,vi 646 0,vi 240 0,vs aZ 647]
noncomputable def C7 (P:PM):=j1 uK uK (tT 39) fZ 587 335
noncomputable def BJ (P:PM):=j0 yq yq (tT 40)
noncomputable def wG (P:PM):=oC yq yq aZ 649 249 2 3 337 181
noncomputable def CB (P:PM):=j1 yq yq (tT 40) fZ 587 340
noncomputable def AX (P:PM):=j0 uf uf (tT 41)
noncomputable def va (P:PM):=oC uf uf aZ 655 258 2 3 342 181
noncomputable def El (P:PM):=j1 uf uf (tT 41) fZ 587 345
noncomputable def DK (P:PM):=oq y0 [vs Fl 664,vs Lg 665,vs YH 666,vs NU 667] 0
noncomputable def BZ (P:PM):=j0 uk uk (tT 42)
noncomputable def vI (P:PM):=of y1 [vs uk 661,vs uk 662,vs aZ 663,vi 275 0,vi 2 0,z0,z0,vi 3 0,vr 347,bT,vi 181 0,vr 348,vn,vr 349,vr 350,vr 351,vi 668 0,vi 275 0,vs aZ 669]
noncomputable def Eu (P:PM):=j1 uk uk (tT 42) fZ 587 352
noncomputable def CZ (P:PM):=oq y0 [vs Ub 674] 0
noncomputable def Cw (P:PM):=j0 yN yN (tT 43)
noncomputable def xO (P:PM):=of y1 [vs yN 671,vs yN 672,vs aZ 673,vi 282 0,vi 1 0,z0,z0,vi 3 0,vr 354,bT,vi 181 0,vr 355,vn,vr 356,vr 357,vr 358,vi 675 0,vi 282 0,vs aZ 676]
noncomputable def BU (P:PM):=j1 yN yN (tT 43) fZ 587 359
noncomputable def Ct (P:PM):=oq y0 [vs Fl 681,vs Sm 682,vs JM 683] 0
noncomputable def Ba (P:PM):=j0 uX uX (tT 44)
noncomputable def wZ (P:PM):=of y1 [vs uX 678,vs uX 679,vs aZ 680,vi 284 0,vi 3 0,z0,z0,vi 3 0,vr 361,bT,vi 181 0,vr 362,vn,vr 363,vr 364,vr 365,vi 684 0,vi 284 0,vs aZ 685]
noncomputable def Ga (P:PM):=j1 uX uX (tT 44) fZ 587 366
noncomputable def Bx (P:PM):=oq y0 [vs q34 690,vs Fl 691,vs Lg 692,vs RN 693,vs NW 694,vs SW 695,vs Af 696,vs NU 697,vs JM 698] 0
noncomputable def C8 (P:PM):=j0 tO tO (tT 45)
noncomputable def wg (P:PM):=of y1 [vs tO 687,vs tO 688,vs aZ 689,vi 286 0,vi 6 0,z0,z0,vi 3 0,vr 368,bT,vi 181 0,vr 369,vn,vr 370,vr 371,vr 372,vi 699 0,vi 286 0,vs aZ 700]
noncomputable def B7 (P:PM):=j1 tO tO (tT 45) fZ 587 373
noncomputable def Et (P:PM):=oq y0 [vs Jr 705,vs Fl 706,vs Lg 707,vs Fv 708,vs RN 709,vs NW 710,vs SW 711,vs Af 712] 0
noncomputable def Ds (P:PM):=j0 vK vK (tT 46)
noncomputable def vV (P:PM):=of y1 [vs vK 702,vs vK 703,vs aZ 704,vi 300 0,vi 5 0,z0,z0,vi 3 0,vr 375,bT,vi 181 0,vr 376,vn,vr 377,vr 378,vr 379,vi 713 0,vi 300 0,vs aZ 714]
noncomputable def A1 (P:PM):=j1 vK vK (tT 46) fZ 587 380
noncomputable abbrev Yu (P:PM):List DictEntry:=Ol P++[de P yV 721 (vr 386)]
noncomputable def vg (P:PM):=od y3 ([de P pv 165 (vs fZ 587)]++Yu P) 50
noncomputable abbrev Vd (P:PM):List Value:=NK P++[vi 311 0,z0,vr 385]
noncomputable def CO (P:PM):OB:=(Obj.mk vn none (df ⟨(Vd P)⟩) ⟨[]⟩)
noncomputable def AN (P:PM):=j0 yV yV (tT 47)
noncomputable def wa (P:PM):=oC yV yV aZ 716 311 1 3 382 181
noncomputable def B4 (P:PM):=j1 yV yV (tT 47) fZ 587 385
noncomputable def Rl (P:Params):Heap:=(Heap.mk ⟨[b0 P,b1 P,b2 P,b3 P,b4 P,b5 P,b6 P,b7 P,b8 P,b9 P,LS P,au P,aU P,Ks P,IF P]⟩ (PySem.Life.mk [] [] [] 0 [] [] false ⟨[]⟩ [] 0 false false false 0 [2000,10,10] false 0 true [] [] 0 false))
noncomputable def OY (f:Nat):Nat->OB->BT->BT:=Nat.rec (fun _ _ t=>t) (fun _ r i x t=>BT.casesOn t (.node x .nil .nil) (fun y a b=>cond (Nat.beq i 0) (.node x a b) (cond (Nat.beq (i % 2) 1) (.node y (r (i / 2) x a) b) (.node y a (r (i / 2 - 1) x b))))) f
noncomputable def nN (P:PM) (l:List (PM->OB)):Nat->BT->BT:=List.rec (fun _ t=>t) (fun o _ r n t=>r (n+1) (OY 12 n (o P) t)) l
noncomputable def up (P:PM) (l:List (Nat × (PM->OB))) (t:BT):BT:=List.rec (fun t=>t) (fun o _ r t=>r (OY 12 o.1 (o.2 P) t)) l t
noncomputable def Mp (P:PM):BT:=nN P [b0,b1,b2,b3,b4,b5,b6,b7,b8,b9,LS,au,aU,Ks,IF] 0 BT.nil
noncomputable def HP (P:PM):BT:=nN P [Qr,mi,QS,au,aU,S7,RW,au,Jh,o60,P8,S4,Pg] 15 (up P [(3,Zz),(12,W7)] (Mp P))
noncomputable def J1 (P:PM):BT:=nN P [sN,mi,NT,au,aU,Q7,OJ,au,II,K2,OL,OX] 28 (up P [(3,o64),(12,o65),(24,Yh)] (HP P))
noncomputable def HX (P:PM):BT:=nN P [sN,mi,Ss,au,aU,Rg,QG,au,IP,Ke,N3,SF] 40 (up P [(3,Um),(12,Uq),(24,Ym)] (J1 P))
noncomputable def K0 (P:PM):BT:=nN P [sN,mi,Pq,au,aU,DC,Cu,au,yC,tS,CW,AQ] 52 (up P [(3,ZP),(12,o95),(24,o96)] (HX P))
noncomputable def HR (P:PM):BT:=nN P [sN,mi,Fc,au,aU,Bf,C9,au,uL,vZ,C5,Dd,au,aU,Dt,au,CN,uE,DJ,au,aU,FG,au,CL,vF,BA,au,aU,Bm,wD,BQ,au,aU,BI,au,Br,vc,CC,au,aU,Cy,au,Dr,yQ,FN] 64 (up P [(3,JP),(12,Me),(24,vw)] (K0 P))
noncomputable def JH (P:PM):BT:=nN P [au,aU,EU,au,Bo,yB,BV,au,aU,B8,au,Fg,yh,Dl,au,aU,DS,uq,FF,au,aU,Cz,au,BP,xZ,CS,au,aU,BW,au,AY,yr,BD,au,aU,AJ,au,FX,xA,B2,au,aU,AR,vy,FL,au,aU,Bu,yt,Dx,au,aU,Cp,au,BS,xQ,FD,au,aU,AG,au,F8,vE,AD,au,aU,Du,au,CY,yD,F5] 109 (up P [(3,JL),(12,Ki)] (HR P))
noncomputable def MP (P:PM):BT:=nN P [au,mi,Ck,au,Cg,CV,Ao,au,aU,AM,au,Ey,vA,FC,au,aU,CK,wY,Av,au,aU,EJ,au,Ay,xN,C0,au,aU,Cc,au,EK,wH,Ap,au,aU,EZ,au,AL,xK,Eo,au,aU,DN,au,AV,E1,Cd,au,aU,Cj,vL,D1,F6,yo,vG,EO,CD,Dw,DQ] 180 (up P [(3,Le),(12,J2)] (JH P))
noncomputable def LU (P:PM):BT:=nN P [au,aU,Ew,au,D7,tV,AE] 239 (up P [(3,Jd),(12,KO)] (MP P))
noncomputable def HY (P:PM):BT:=nN P [au,mi,BK,au,EI,Dj,Dy,au,aU,EM,au,B6,yw,EC,au,aU,ED,au,FI,yO,Cr,au,aU,DI,au,Dg,tW,AI,au,aU,D6,au,Ca,uM,FY,au,aU,AU,au,BL,uU,BE,au,aU,AB,au,Eb,ug,BC,Ef,uy,yb,AW,Ez,Df,Bz] 246 (up P [(3,Kg),(12,LQ)] (LU P))
noncomputable def K3 (P:PM):BT:=nN P [au,aU,DU,au,CF,uw,Co,au,aU,BN,au,Bi,ua,F1,au,aU,Es,au,Ci,vm,C4,au,aU,DG,au,F7,xJ,Fb,au,aU,FR,au,Ep,t9,C7,au,aU,BJ,wG,CB,au,aU,AX,va,El,au,aU,DK,au,BZ,vI,Eu,au,aU,CZ,au,Cw,xO,BU,au,aU,Ct,au,Ba,wZ,Ga,au,aU,Bx,au,C8,wg,B7,au,aU,Et,au,Ds,vV,A1] 302 (up P [(3,Nb),(12,L4)] (HY P))
noncomputable def Ox (P:PM):BT:=nN P [au,aU,AN,wa,B4] 382 (up P [(3,vg),(12,CO)] (K3 P))
noncomputable def Am (P:Params):Heap:=(Heap.mk ⟨[b0 P,b1 P,b2 P,vg P,b4 P,b5 P,b6 P,b7 P,b8 P,b9 P,LS P,au P,CO P,Ks P,IF P,Qr P,mi P,QS P,au P,aU P,S7 P,RW P,au P,Jh P,vw P,P8 P,S4 P,Pg P,sN P,mi P,NT P,au P,aU P,Q7 P,OJ P,au P,II P,K2 P,OL P,OX P,sN P,mi P,Ss P,au P,aU P,Rg P,QG P,au P,IP P,Ke P,N3 P,SF P,sN P,mi P,Pq P,au P,aU P,DC P,Cu P,au P,yC P,tS P,CW P,AQ P,sN P,mi P,Fc P,au P,aU P,Bf P,C9 P,au P,uL P,vZ P,C5 P,Dd P,au P,aU P,Dt P,au P,CN P,uE P,DJ P,au P,aU P,FG P,au P,CL P,vF P,BA P,au P,aU P,Bm P,wD P,BQ P,au P,aU P,BI P,au P,Br P,vc P,CC P,au P,aU P,Cy P,au P,Dr P,yQ P,FN P,au P,aU P,EU P,au P,Bo P,yB P,BV P,au P,aU P,B8 P,au P,Fg P,yh P,Dl P,au P,aU P,DS P,uq P,FF P,au P,aU P,Cz P,au P,BP P,xZ P,CS P,au P,aU P,BW P,au P,AY P,yr P,BD P,au P,aU P,AJ P,au P,FX P,xA P,B2 P,au P,aU P,AR P,vy P,FL P,au P,aU P,Bu P,yt P,Dx P,au P,aU P,Cp P,au P,BS P,xQ P,FD P,au P,aU P,AG P,au P,F8 P,vE P,AD P,au P,aU P,Du P,au P,CY P,yD P,F5 P,au P,mi P,Ck P,au P,Cg P,CV P,Ao P,au P,aU P,AM P,au P,Ey P,vA P,FC P,au P,aU P,CK P,wY P,Av P,au P,aU P,EJ P,au P,Ay P,xN P,C0 P,au P,aU P,Cc P,au P,EK P,wH P,Ap P,au P,aU P,EZ P,au P,AL P,xK P,Eo P,au P,aU P,DN P,au P,AV P,E1 P,Cd P,au P,aU P,Cj P,vL P,D1 P,F6 P,yo P,vG P,EO P,CD P,Dw P,DQ P,au P,aU P,Ew P,au P,D7 P,tV P,AE P,au P,mi P,BK P,au P,EI P,Dj P,Dy P,au P,aU P,EM P,au P,B6 P,yw P,EC P,au P,aU P,ED P,au P,FI P,yO P,Cr P,au P,aU P,DI P,au P,Dg P,tW P,AI P,au P,aU P,D6 P,au P,Ca P,uM P,FY P,au P,aU P,AU P,au P,BL P,uU P,BE P,au P,aU P,AB P,au P,Eb P,ug P,BC P,Ef P,uy P,yb P,AW P,Ez P,Df P,Bz P,au P,aU P,DU P,au P,CF P,uw P,Co P,au P,aU P,BN P,au P,Bi P,ua P,F1 P,au P,aU P,Es P,au P,Ci P,vm P,C4 P,au P,aU P,DG P,au P,F7 P,xJ P,Fb P,au P,aU P,FR P,au P,Ep P,t9 P,C7 P,au P,aU P,BJ P,wG P,CB P,au P,aU P,AX P,va P,El P,au P,aU P,DK P,au P,BZ P,vI P,Eu P,au P,aU P,CZ P,au P,Cw P,xO P,BU P,au P,aU P,Ct P,au P,Ba P,wZ P,Ga P,au P,aU P,Bx P,au P,C8 P,wg P,B7 P,au P,aU P,Et P,au P,Ds P,vV P,A1 P,au P,aU P,AN P,wa P,B4 P]⟩ (PySem.Life.mk [] [] [] 0 [] [] false ⟨[]⟩ [] 0 false false false 0 [2000,10,10] false 0 true [] [] 0 false))
noncomputable def ev (p:Program):Env:=Env.mk p.main.scope mainNs mainNs [] Str.empty none (.ref 13) (some 14) 0
noncomputable def cE (p:Program):Code:=.body (behindTheImports p) (ev p)
noncomputable def st (p:Program) (i k:Nat):List Stmt:=((behindTheImports p).drop i).take k
noncomputable def LF:Life:=Life.mk [] [] [] 0 [] [] false #[] [] 0 false false false 0 [2000,10,10] false 0 true [] [] 0 false
noncomputable def SS (T:Params->BT) (n k:Nat) (w:World) (os:OsState):SharedT:=⟨T w.params,n,LF,⟨[]⟩,⟨0,0,0,0⟩,k,os⟩
noncomputable def Pc (f:(String->Option Builtin)->Program->World->Nat->Option Value->Nat->Nat->SharedT->Thread->Option (Flow × SharedT × Code × Pos)) (tb:String->Option Builtin) (p:Program) (N i k:Nat) (pos pos':Pos) (T T':Params->BT) (n t n' t':Nat):Prop :=
 ∀ (w:World) (os:OsState),f tb p w 11 (some (.ref 6)) 1 N (SS T n t w os) (piecesOf (st p i k) (ev p) (cE p) pos [topFrame ⟨0,0,0,0⟩])=some (.next,SS T' n' t' w os,cE p,pos')
theorem Pc.plain {N i k:Nat}{pos pos':Pos}{T T':Params->BT}{n t n' t':Nat} (h:Pc PySem.W.Fast.tw10110043849684766642 PySem.W.Fast.tw14364793385576792824 TP N i k pos pos' T T' n t n' t'):Pc segRunT treeTable PySem.Challenge.pw_gatefold_k31_ways_show_it N i k pos pos' T T' n t n' t':=by
 rw [PySem.W.Fast.te10110043849684766642,PySem.W.Fast.te14364793385576792824,PySem.W.Fast.te2856265532524961814]
 exact h
noncomputable abbrev PW:Program:=PySem.Challenge.pw_gatefold_k31_ways_show_it
noncomputable abbrev PC:=Pc segRunT treeTable PW
theorem c0:PC 196 0 2 ⟨0,0,0,0⟩ ⟨2,0,3,8⟩ Mp HP 15 187 28 207:=.plain fun w os=>by kernel_rfl
theorem c1:PC 214 2 1 ⟨2,0,3,8⟩ ⟨4,0,5,8⟩ HP J1 28 207 40 223:=.plain fun w os=>by kernel_rfl
theorem c2:PC 214 3 1 ⟨4,0,5,8⟩ ⟨6,0,7,8⟩ J1 HX 40 223 52 239:=.plain fun w os=>by kernel_rfl
theorem c3:PC 214 4 1 ⟨6,0,7,8⟩ ⟨8,0,9,8⟩ HX K0 52 239 64 255:=.plain fun w os=>by kernel_rfl
theorem c4:PC 386 5 9 ⟨8,0,9,8⟩ ⟨32,0,33,20⟩ K0 HR 64 255 109 314:=.plain fun w os=>by kernel_rfl
theorem c5:PC 364 14 14 ⟨32,0,33,20⟩ ⟨101,0,106,15⟩ HR JH 109 314 180 420:=.plain fun w os=>by kernel_rfl
theorem c6:PC 415 28 1 ⟨101,0,106,15⟩ ⟨107,0,153,59⟩ JH MP 180 420 239 501:=.plain fun w os=>by kernel_rfl
theorem c7:PC 57 29 4 ⟨107,0,153,59⟩ ⟨157,0,158,18⟩ MP LU 239 501 246 514:=.plain fun w os=>by kernel_rfl
theorem c8:PC 396 33 2 ⟨157,0,158,18⟩ ⟨197,0,197,8⟩ LU HY 246 514 302 589:=.plain fun w os=>by kernel_rfl
theorem c9:PC 388 35 12 ⟨197,0,197,8⟩ ⟨300,0,310,15⟩ HY K3 302 589 382 716:=.plain fun w os=>by kernel_rfl
theorem c10:PC 27 47 1 ⟨300,0,310,15⟩ ⟨311,0,344,15⟩ K3 Ox 382 716 387 722:=.plain fun w os=>by kernel_rfl
theorem step {p:Program}{N i k:Nat}{pos pos':Pos}{T T':Params->BT}{n t n' t':Nat} (c:Pc segRunT treeTable p N i k pos pos' T T' n t n' t') {M:Nat}{r:Shared}{w:World}{os:OsState}
  (h:topRun treeTable p w 11 (some (.ref 6)) M (SS T' n' t' w os).abs (restOf ((behindTheImports p).drop (i+k)) (ev p) (cE p) pos' [topFrame ⟨0,0,0,0⟩])=some r) :
  topRun treeTable p w 11 (some (.ref 6)) (N+M) (SS T n t w os).abs (restOf ((behindTheImports p).drop i) (ev p) (cE p) pos [topFrame ⟨0,0,0,0⟩])=some r:=by
 have e:(behindTheImports p).drop i=st p i k ++ (behindTheImports p).drop (i+k):=by
  unfold st
  rw [<- Ztj]
  exact (ZsA _ _).symm
 rw [e]
 exact piece_app (segRun_of (c w os)) h
noncomputable def Fn (f:(String->Option Builtin)->Program->World->Nat->Option Value->Nat->Shared->Thread->Option Shared) (tb:String->Option Builtin) (p:Program):Prop :=
 ∀ (w:World) (os:OsState),f tb p w 11 (some (.ref 6)) 2 (SS Ox 387 722 w os).abs ⟨doneF .next,cE p,⟨311,0,344,15⟩,[topFrame ⟨0,0,0,0⟩]⟩=some ⟨Am w.params,⟨[]⟩,⟨0,0,0,0⟩,722,os⟩
theorem fin:Fn topRun treeTable PW:=by
 rw [PySem.W.Fast.te14082659384304107361,PySem.W.Fast.te14364793385576792824,show PW=TP from PySem.W.Fast.te2856265532524961814]
 exact fun w os=>by kernel_rfl
noncomputable def Pr (f:(String->Option Builtin)->Program->World->Nat->Option Value->Nat->Shared->Thread->Option (Shared × Thread)) (d:(String->Option Builtin)->Code->Sem Fin) (tb:String->Option Builtin) (p:Program):Prop :=
 ∀ (w:World) (os:OsState),f tb p w 11 (some (.ref 6)) 12 ⟨boot_heap w.params,⟨[]⟩,boot_drawn,boot_toks,os⟩ (topStub p)=some (⟨Rl w.params,⟨[]⟩,⟨0,0,0,0⟩,187,os⟩,⟨d tb (cE p),cE p,⟨0,0,0,0⟩,[topFrame ⟨0,0,0,0⟩]⟩)
theorem MU:Pr topGo denote treeTable PW:=by
 rw [PySem.W.Fast.te15667345088766844465,PySem.W.Fast.te11892475500146522536,PySem.W.Fast.te14364793385576792824,show PW=TP from PySem.W.Fast.te2856265532524961814]
 exact fun w os=>by kernel_rfl
noncomputable def Bl (f:(String->Option Builtin)->Program->World->Nat->Option Value->Nat->Nat->Shared->Thread->Option (Flow × Shared × Code × Pos)) (tb:String->Option Builtin) (p:Program):Prop :=
 ∀ (w:World) (os:OsState),f tb p w 11 (some (.ref 6)) 1 1 ⟨Rl w.params,⟨[]⟩,⟨0,0,0,0⟩,187,os⟩ (blockOf (behindTheImports p) (ev p) (cE p) ⟨0,0,0,0⟩ [topFrame ⟨0,0,0,0⟩])=some (.next,(SS Mp 15 187 w os).abs,cE p,⟨0,0,0,0⟩)
theorem Xh:Bl segRun treeTable PW:=by
 rw [PySem.W.Fast.te14374325043358763698,PySem.W.Fast.te14364793385576792824,show PW=TP from PySem.W.Fast.te2856265532524961814]
 exact fun w os=>by kernel_rfl
theorem WR:(behindTheImports PW).drop 48=[]:=by kernel_rfl
theorem run (w:World) (os:OsState):topRun treeTable PW w 11 (some (.ref 6)) (12+(1+(196+(214+(214+(214+(386+(364+(415+(57+(396+(388+(27+2))))))))))))) ⟨boot_heap w.params,⟨[]⟩,boot_drawn,boot_toks,os⟩ (topStub PW)=some ⟨Am w.params,⟨[]⟩,⟨0,0,0,0⟩,722,os⟩:=by
 refine go_top (MU w os) ?_
 refine piece_block (Xh w os) ?_
 refine step c0 (step c1 (step c2 (step c3 (step c4 (step c5 (step c6 (step c7 (step c8 (step c9 (step c10 ?_))))))))))
 rw [WR]
 exact fin w os
theorem size (w:World):((boot_heap w.params).isNs mainGlobals && (Array.mk ([]:List GenState)).size == 0,(boot_heap w.params).objs.size,(boot_heap w.params).nsMap mainGlobals "__annotations__")=(true,11,some (.ref 6)):=by kernel_rfl
theorem op:∀ w:World,(fencedOpening treeTable PW w 5852).map (fun s=>(s.heap,s.gens,s.drawn,s.toks))=some (boot_heap w.params,Array.mk [],boot_drawn,boot_toks) :=
 boot_open (by kernel_rfl) (by decide) (fun s=>by kernel_rfl)
noncomputable def KP:List Nat:=[1,2,3,4,5,7,8,10,11,13,14,15,16,17,18,19,20,21,22,24,25,26,27,28,30,31,32,33,35,36,37,38,39,40,41,42,43,44,45,46,47]
noncomputable def VW (p:Program):Program:={ p with main:={ p.main with body:=KP.filterMap fun i=>p.main.body[i]? } }
noncomputable abbrev S9 (w:World) (os:OsState):Shared:=⟨Am w.params,⟨[]⟩,⟨0,0,0,0⟩,722,os⟩
noncomputable def LA (im:List Stmt->List Str) (p:Program):Prop :=
 ∀ (w:World) (os:OsState),(staticsOk (im p.main.body) (boot_heap w.params) (Am w.params) && namesBound p (Am w.params) && gensDone (S9 w os) && laidKept (boot_heap w.params) (Am w.params))=true
theorem la:LA importedModules PW:=by
 rw [PySem.W.Fast.te5923862056798008813,show PW=TP from PySem.W.Fast.te2856265532524961814]
 exact fun w os=>by kernel_rfl
noncomputable abbrev XT (q:Program):Shared->Bool:=fun s=>xlAt q [] s && recOk [] s
theorem U6 (w:World) (os:OsState):PySem.W.Fast.tw4187177175401517315 (VW TP) [] (PySem.W.Fast.tw5923862056798008813 TP.main.body) (XT (VW TP)) true (S9 w os)=openGood (VW TP) []:=by kernel_rfl
end
end OT
namespace xS
open PySem PySem.Spec PyProof.Rows L2
noncomputable abbrev Q (l:List Nat):Str:=⟨⟨l⟩⟩
noncomputable abbrev fq (b c:Str) (s:Stmt) (q:Str) (t n:Nat):Obj:=⟨(Value.type "function"),none,.func (Zro b c (nV s) (kL s) (bx s) Value.none Value.none Value.none (Value.str q t) none (Value.ref n) Value.none),⟨[]⟩⟩
set_option maxRecDepth 100000 in
noncomputable def KF:Params->Zrk:=fun P =>
 (nat_lit 82,fq "is_whole" "is_whole" FE OT.qD 271 81) ::
 (nat_lit 89,fq "is_between" "is_between" Di OT.qD 271 88) ::
 (nat_lit 94,fq "reached" "reached" zk OT.qk 289 93) ::
 (nat_lit 101,fq "cone" "cone" Bc OT.qk 289 100) ::
 (nat_lit 108,fq "head" "head" FJ OT.jq 305 107) ::
 (nat_lit 115,fq "foot" "foot" Fd OT.jq 305 114) ::
 (nat_lit 122,fq "need_goals" "need_goals" EW OT.jq 305 121) ::
 (nat_lit 127,fq "next_ends" "next_ends" zC OT.jq 305 126) ::
 (nat_lit 134,fq "search" "search" BH OT.jq 305 133) ::
 (nat_lit 141,fq "lead" "lead" DH OT.jq 305 140) ::
 (nat_lit 148,fq "way_from" "way_from" EA OT.jq 305 147) ::
 (nat_lit 153,fq "ways_of" "ways_of" tH OT.jq 305 152) ::
 (nat_lit 158,fq "stops_of" "stops_of" zN OT.jq 305 157) ::
 (nat_lit 165,fq "apart" "apart" CT OT.jq 305 164) ::
 (nat_lit 172,fq "need_size" "need_size" B5 OT.jd 397 171) ::
 (nat_lit 179,fq "maze_of" "maze_of" Cq OT.jd 397 178) ::
 (nat_lit 193,fq "__init__" "Labels.__init__" D8 OT.jd 397 192) ::
 (nat_lit 198,fq "settle" "Labels.settle" sO OT.jd 397 197) ::
 (nat_lit 205,fq "keep" "Labels.keep" ET OT.jd 397 204) ::
 (nat_lit 212,fq "need_and_knot" "Labels.need_and_knot" DX OT.jd 397 211) ::
 (nat_lit 219,fq "label" "Labels.label" DV OT.jd 397 218) ::
 (nat_lit 231,fq "ways" "Labels.ways" yY OT.jd 397 230) ::
 (nat_lit 245,fq "turned" "turned" F0 OT.j9 501 244) ::
 (nat_lit 259,fq "__init__" "Fold.__init__" D3 OT.j9 501 258) ::
 (nat_lit 266,fq "total" "Fold.total" Em OT.j9 501 265) ::
 (nat_lit 273,fq "has_tie" "Fold.has_tie" Fm OT.j9 501 272) ::
 (nat_lit 280,fq "pair" "Fold.pair" Dq OT.j9 501 279) ::
 (nat_lit 287,fq "both" "Fold.both" Fj OT.j9 501 286) ::
 (nat_lit 294,fq "and_knot" "Fold.and_knot" C1 OT.j9 501 293) ::
 (nat_lit 308,fq "_law_cell_at" "_law_cell_at" Bg OT.fZ 587 307) ::
 (nat_lit 315,fq "_law_pairs" "_law_pairs" Bk OT.fZ 587 314) ::
 (nat_lit 322,fq "_law_put" "_law_put" Cb OT.fZ 587 321) ::
 (nat_lit 329,fq "_law_mixed" "_law_mixed" Bw OT.fZ 587 328) ::
 (nat_lit 336,fq "_law_digit_pairs" "_law_digit_pairs" DP OT.fZ 587 335) ::
 (nat_lit 341,fq "_law_fold" "_law_fold" vR OT.fZ 587 340) ::
 (nat_lit 346,fq "_law_long" "_law_long" zH OT.fZ 587 345) ::
 (nat_lit 353,fq "_law_cone" "_law_cone" Cv OT.fZ 587 352) ::
 (nat_lit 360,fq "_law_whole" "_law_whole" FW OT.fZ 587 359) ::
 (nat_lit 367,fq "_law_feeds" "_law_feeds" BO OT.fZ 587 366) ::
 (nat_lit 374,fq "_law_good_way" "_law_good_way" FA OT.fZ 587 373) ::
 (nat_lit 381,fq "_law_good_ways" "_law_good_ways" Ei OT.fZ 587 380) ::
 (nat_lit 386,fq "law" "law" zZ OT.fZ 587 385) ::
 (nat_lit 81,OT.uE P) ::
 (nat_lit 88,OT.vF P) ::
 (nat_lit 93,OT.wD P) ::
 (nat_lit 100,OT.vc P) ::
 (nat_lit 107,OT.yQ P) ::
 (nat_lit 114,OT.yB P) ::
 (nat_lit 121,OT.yh P) ::
 (nat_lit 126,OT.uq P) ::
 (nat_lit 133,OT.xZ P) ::
 (nat_lit 140,OT.yr P) ::
 (nat_lit 147,OT.xA P) ::
 (nat_lit 152,OT.vy P) ::
 (nat_lit 157,OT.yt P) ::
 (nat_lit 164,OT.xQ P) ::
 (nat_lit 171,OT.vE P) ::
 (nat_lit 178,OT.yD P) ::
 (nat_lit 192,OT.vA P) ::
 (nat_lit 197,OT.wY P) ::
 (nat_lit 204,OT.xN P) ::
 (nat_lit 211,OT.wH P) ::
 (nat_lit 218,OT.xK P) ::
 (nat_lit 230,OT.vL P) ::
 (nat_lit 244,OT.tV P) ::
 (nat_lit 258,OT.yw P) ::
 (nat_lit 265,OT.yO P) ::
 (nat_lit 272,OT.tW P) ::
 (nat_lit 279,OT.uM P) ::
 (nat_lit 286,OT.uU P) ::
 (nat_lit 293,OT.ug P) ::
 (nat_lit 307,OT.uw P) ::
 (nat_lit 314,OT.ua P) ::
 (nat_lit 321,OT.vm P) ::
 (nat_lit 328,OT.xJ P) ::
 (nat_lit 335,OT.t9 P) ::
 (nat_lit 340,OT.wG P) ::
 (nat_lit 345,OT.va P) ::
 (nat_lit 352,OT.vI P) ::
 (nat_lit 359,OT.xO P) ::
 (nat_lit 366,OT.wZ P) ::
 (nat_lit 373,OT.wg P) ::
 (nat_lit 380,OT.vV P) ::
 (nat_lit 385,OT.wa P) ::
 (nat_lit 2,OT.b2 P) ::
 (nat_lit 3,OT.vg P) ::
 (nat_lit 24,OT.vw P) ::
 (nat_lit 23,OT.Jh P) ::
 (nat_lit 37,OT.K2 P) ::
 (nat_lit 36,OT.II P) ::
 (nat_lit 49,OT.Ke P) ::
 (nat_lit 48,OT.IP P) ::
 (nat_lit 61,OT.tS P) ::
 (nat_lit 60,OT.yC P) ::
 (nat_lit 73,OT.vZ P) ::
 (nat_lit 72,OT.uL P) ::
 (nat_lit 234,OT.vG P) ::
 (nat_lit 233,OT.yo P) ::
 (nat_lit 297,OT.yb P) ::
 (nat_lit 296,OT.uy P) :: []
end xS
namespace OT
open PySem PySem.W PySem.Spec
noncomputable abbrev AS:List Addr:=(nat_lit 82 :: nat_lit 89 :: nat_lit 94 :: nat_lit 101 :: nat_lit 108 :: nat_lit 115 :: nat_lit 122 :: nat_lit 127 :: nat_lit 134 :: nat_lit 141 :: nat_lit 148 :: nat_lit 153 :: nat_lit 158 :: nat_lit 165 :: nat_lit 172 :: nat_lit 179 :: nat_lit 193 :: nat_lit 198 :: nat_lit 205 :: nat_lit 212 :: nat_lit 219 :: nat_lit 231 :: nat_lit 245 :: nat_lit 259 :: nat_lit 266 :: nat_lit 273 :: nat_lit 280 :: nat_lit 287 :: nat_lit 294 :: nat_lit 308 :: nat_lit 315 :: nat_lit 322 :: nat_lit 329 :: nat_lit 336 :: nat_lit 341 :: nat_lit 346 :: nat_lit 353 :: nat_lit 360 :: nat_lit 367 :: nat_lit 374 :: nat_lit 381 :: nat_lit 386 :: nat_lit 81 :: nat_lit 88 :: nat_lit 93 :: nat_lit 100 :: nat_lit 107 :: nat_lit 114 :: nat_lit 121 :: nat_lit 126 :: nat_lit 133 :: nat_lit 140 :: nat_lit 147 :: nat_lit 152 :: nat_lit 157 :: nat_lit 164 :: nat_lit 171 :: nat_lit 178 :: nat_lit 192 :: nat_lit 197 :: nat_lit 204 :: nat_lit 211 :: nat_lit 218 :: nat_lit 230 :: nat_lit 244 :: nat_lit 258 :: nat_lit 265 :: nat_lit 272 :: nat_lit 279 :: nat_lit 286 :: nat_lit 293 :: nat_lit 307 :: nat_lit 314 :: nat_lit 321 :: nat_lit 328 :: nat_lit 335 :: nat_lit 340 :: nat_lit 345 :: nat_lit 352 :: nat_lit 359 :: nat_lit 366 :: nat_lit 373 :: nat_lit 380 :: nat_lit 385 :: nat_lit 2 :: nat_lit 3 :: nat_lit 24 :: nat_lit 23 :: nat_lit 37 :: nat_lit 36 :: nat_lit 49 :: nat_lit 48 :: nat_lit 61 :: nat_lit 60 :: nat_lit 73 :: nat_lit 72 :: nat_lit 234 :: nat_lit 233 :: nat_lit 297 :: nat_lit 296 :: [])
noncomputable abbrev HK:Hook:=kHook xS.KF AS (fun _=>by kernel_rfl)
theorem lb (w:World) (os:OsState):openSeen (VW PW) [] (importedModules PW.main.body) (XT (VW PW)) true (S9 w os)=openGood (VW PW) []:=by
 rw [PySem.W.Fast.te4187177175401517315,PySem.W.Fast.te5923862056798008813,show PW=TP from PySem.W.Fast.te2856265532524961814]
 exact U6 w os
theorem lc (w:World) (os:OsState):HK.obs (S9 w os)=HK.val w:=by kernel_rfl
theorem left:LeftO PW (VW PW) [] (XT (VW PW)) HK.obs HK.val 5852 :=
 LeftO.of_pieces op size run (by decide) fun w=>funext fun os=>by
  rw [la w os,lb w os,lc w os]
end OT
open PySem PySem.W PyProof.Rows
set_option maxRecDepth 100000 in
set_option maxHeartbeats 0 in
theorem PySem.Challenge.cw_gatefold_k31_ways_show_it_holds : PySem.Challenge.rw_gatefold_k31_ways_show_it.Holds := by
 w_on;o_law
 refine holds_open (q:=OT.VW OT.PW) (loose:=[]) (Xt:=OT.XT (OT.VW OT.PW)) (XP:=XL (OT.VW OT.PW) []) (Yf:=OT.HK.obs) (Ya:=OT.HK.val) (YP:=OT.HK.says) (N:=5852) OT.left OT.HK.of OT.HK.keeps
  (fun s e=>xl_of s (Bool.and_eq_true_iff.mp e).1) XL.keeps (by rfl) (by rfl) (by rfl)
  (fun s e=>recFacts_of (Bool.and_eq_true_iff.mp e).2) (by rfl) (by first | assumption | decide +kernel)
  (by decide +kernel)
  ⟨rfl,rfl,rfl,rfl,rfl,by decide +kernel⟩ ?hw ?hc
 case hw=>w_witness2
 refine xS.walk (l:=PySem.Challenge.rw_gatefold_k31_ways_show_it) (K:=xS.KF) rfl rfl (fun w h Y=>PySem.W.kIn_of Y) ?F
 case F =>
  intro w mg fa h KX G hmg
  k_fill
  refine' xS.all_mk KX G hmg ⟨?aC_Labels,?pg_Labels,?hd_Labels,?po_Labels,?sa_Labels,?mk_Labels,?kc_Labels⟩ ⟨?aC_Fold,?pg_Fold,?hd_Fold,?po_Fold,?sa_Fold,?mk_Fold,?kc_Fold⟩ ?aC_NoGoal ?aC_NoKnot ?aC_NoSize ?aC_NoTie (.mk' ?a0 ?l0 ?c0 ?k0) (.mk' ?a1 ?l1 ?c1 ?k1) (.mk' ?a2 ?l2 ?c2 ?k2) (.mk' ?a3 ?l3 ?c3 ?k3) (.mk' ?a4 ?l4 ?c4 ?k4) (.mk' ?a5 ?l5 ?c5 ?k5) (.mk' ?a6 ?l6 ?c6 ?k6) (.mk' ?a7 ?l7 ?c7 ?k7) (.mk' ?a8 ?l8 ?c8 ?k8) (.mk' ?a9 ?l9 ?c9 ?k9) (.mk' ?a10 ?l10 ?c10 ?k10) (.mk' ?a11 ?l11 ?c11 ?k11) (.mk' ?a12 ?l12 ?c12 ?k12) (.mk' ?a13 ?l13 ?c13 ?k13) (.mk' ?a14 ?l14 ?c14 ?k14) (.mk' ?a15 ?l15 ?c15 ?k15) (.mk' ?a16 ?i16 ?l16 ?c16 ?k16) (.mk' ?a17 ?i17 ?l17 ?c17 ?k17) (.mk' ?a18 ?i18 ?l18 ?c18 ?k18) (.mk' ?a19 ?i19 ?l19 ?c19 ?k19) (.mk' ?a20 ?i20 ?l20 ?c20 ?k20) (.mk' ?a21 ?i21 ?l21 ?c21 ?k21) (.mk' ?a22 ?l22 ?c22 ?k22) (.mk' ?a23 ?i23 ?l23 ?c23 ?k23) (.mk' ?a24 ?i24 ?l24 ?c24 ?k24) (.mk' ?a25 ?i25 ?l25 ?c25 ?k25) (.mk' ?a26 ?i26 ?l26 ?c26 ?k26) (.mk' ?a27 ?i27 ?l27 ?c27 ?k27) (.mk' ?a28 ?i28 ?l28 ?c28 ?k28) (.mk' ?a29 ?l29 ?c29 ?k29) (.mk' ?a30 ?l30 ?c30 ?k30) (.mk' ?a31 ?l31 ?c31 ?k31) (.mk' ?a32 ?l32 ?c32 ?k32) (.mk' ?a33 ?l33 ?c33 ?k33) (.mk' ?a34 ?l34 ?c34 ?k34) (.mk' ?a35 ?l35 ?c35 ?k35) (.mk' ?a36 ?l36 ?c36 ?k36) (.mk' ?a37 ?l37 ?c37 ?k37) (.mk' ?a38 ?l38 ?c38 ?k38) (.mk' ?a39 ?l39 ?c39 ?k39) (.mk' ?a40 ?l40 ?c40 ?k40) (.mk' ?a41 ?l41 ?c41 ?k41) ?xi_NoGoal ?xq_NoGoal ?kv_NoGoal ?xi_NoKnot ?xq_NoKnot ?kv_NoKnot ?xi_NoSize ?xq_NoSize ?kv_NoSize ?xi_NoTie ?xq_NoTie ?kv_NoTie ?xk_NoGoal ?xk_NoKnot ?xk_NoSize ?xk_NoTie ?n_Labels_levels ?n_Labels_found_cuts ?n_Labels_found_ways ?n_Fold_many ?n_Fold_pairs ?n_Fold_knots ?g_ALWAYS ?g_GREATEST_SIZE ?g_LEAST_SIZE ?g_NEVER ?z_bool ?z_int ?z_isinstance ?z_len ?z_list ?z_max ?z_min ?z_range ?z_sorted
  (case aC_Labels | pg_Labels | hd_Labels | po_Labels | sa_Labels | mk_Labels | kc_Labels | aC_Fold | pg_Fold | hd_Fold | po_Fold | sa_Fold | mk_Fold | kc_Fold | aC_NoGoal | aC_NoKnot | aC_NoSize | aC_NoTie | a0 | l0 | c0 | k0 | a1 | l1 | c1 | k1 | a2 | l2 | c2 | k2 | a3 | l3 | c3 | k3 | a4 | l4 | c4 | k4 | a5 | l5 | c5 | k5 | a6 | l6 | c6 | k6 | a7 | l7 | c7 | k7 | a8 | l8 | c8 | k8 | a9 | l9 | c9 | k9 | a10 | l10 | c10 | k10 | a11 | l11 | c11 | k11 | a12 | l12 | c12 | k12 | a13 | l13 | c13 | k13 | a14 | l14 | c14 | k14 | a15 | l15 | c15 | k15 | a16 | i16 | l16 | c16 | k16 | a17 | i17 | l17 | c17 | k17 | a18 | i18 | l18 | c18 | k18 | a19 | i19 | l19 | c19 | k19 | a20 | i20 | l20 | c20 | k20 | a21 | i21 | l21 | c21 | k21 | a22 | l22 | c22 | k22 | a23 | i23 | l23 | c23 | k23 | a24 | i24 | l24 | c24 | k24 | a25 | i25 | l25 | c25 | k25 | a26 | i26 | l26 | c26 | k26 | a27 | i27 | l27 | c27 | k27 | a28 | i28 | l28 | c28 | k28 | a29 | l29 | c29 | k29 | a30 | l30 | c30 | k30 | a31 | l31 | c31 | k31 | a32 | l32 | c32 | k32 | a33 | l33 | c33 | k33 | a34 | l34 | c34 | k34 | a35 | l35 | c35 | k35 | a36 | l36 | c36 | k36 | a37 | l37 | c37 | k37 | a38 | l38 | c38 | k38 | a39 | l39 | c39 | k39 | a40 | l40 | c40 | k40 | a41 | l41 | c41 | k41=>k_is)
  (case xi_NoGoal=>kernel_rfl)
  (case xq_NoGoal=>first | rfl | decide +kernel | k_is)
  (case kv_NoGoal=>first | rfl | decide +kernel | k_is)
  (case xi_NoKnot=>kernel_rfl)
  (case xq_NoKnot=>first | rfl | decide +kernel | k_is)
  (case kv_NoKnot=>first | rfl | decide +kernel | k_is)
  (case xi_NoSize=>kernel_rfl)
  (case xq_NoSize=>first | rfl | decide +kernel | k_is)
  (case kv_NoSize=>first | rfl | decide +kernel | k_is)
  (case xi_NoTie=>kernel_rfl)
  (case xq_NoTie=>first | rfl | decide +kernel | k_is)
  (case kv_NoTie=>first | rfl | decide +kernel | k_is)
  (case xk_NoGoal=>first | rfl | decide +kernel | k_is)
  (case xk_NoKnot=>first | rfl | decide +kernel | k_is)
  (case xk_NoSize=>first | rfl | decide +kernel | k_is)
  (case xk_NoTie=>first | rfl | decide +kernel | k_is)
  (case n_Labels_levels | n_Labels_found_cuts | n_Labels_found_ways | n_Fold_many | n_Fold_pairs | n_Fold_knots | g_ALWAYS | g_GREATEST_SIZE | g_LEAST_SIZE | g_NEVER | z_bool | z_int | z_isinstance | z_len | z_list | z_max | z_min | z_range | z_sorted=>k_is)

